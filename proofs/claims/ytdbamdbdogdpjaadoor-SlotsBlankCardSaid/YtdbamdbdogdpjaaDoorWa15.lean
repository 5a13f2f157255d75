/-
  Texts put together: SlA, SlL2, Ds1, Lv. No statement is proved here.
-/
import Derived.Test.YtdbamdbdogdpjaaDoorWa14
import Derived.Test.YtdbamdbdogdpjaaDoorWa02
import Derived.Test.YtdbamdbdogdpjaaDoorWa06
import Derived.RegionTactic
import Derived.ChangeAlike
import Derived.Recover
import Derived.Laws.Panics
import Derived.Laws.PanicsMore
import Derived.Deep.RegionWith
import Derived.Deep.RegionLaw

/-
  The landed disk and slots together; the statements' first question of layer 20, over the contracts. No statement is proved here. (Written by gensla.py.)
-/
namespace Go.Proofs.YtdbamdbdogdpjaaDoor.S20
set_option linter.unusedSimpArgs false
set_option linter.unusedVariables false
set_option maxRecDepth 4096
open Go.RowKit S19

/-- 'string(b)' of bytes that read. -/
theorem rd_convert {w : World} {A : Option Addr} {n c : Nat} {xs : List UInt8} (h : Rd w A n c xs) :
    (convert 36 9 (.slice A n c)).run Tryd.prog w = .ok (.string ⟨xs.toArray⟩) w := by
  rcases Nat.eq_zero_or_pos n with hn | hn
  · subst hn
    obtain rfl : xs = [] := List.eq_nil_of_length_eq_zero h.len
    rw [run_convert_bytes_string w 36 9 5 _ 0 c Tryd.underlying36 Tryd.underlying5 Tryd.underlying9]
    cases A <;> simp [Conv.bytesToString, loadCells]
    all_goals rfl
  · obtain ⟨b, o, rfl, _, hc⟩ := h.at_ hn
    have e := run_convert_bytes_arg (P := Tryd.prog) w 36 5 Tryd.underlying36 Tryd.underlying5 b o n c (xs.map fun x => (x.toNat : Int)) (by simp [h.len])
      (fun i hi => by
        have hl : i < xs.length := by have := h.len; omega
        rw [hc i hi]; simp [List.getD, hl]) 9 Tryd.underlying9
    rw [e]
    have : strOfNums (xs.map fun x => (x.toNat : Int)) = ⟨xs.toArray⟩ := by
      simp [strOfNums, Function.comp_def]
    rw [this]
/-- The landed disk and slots, apart. -/
structure Lz (M : DC) (C : SlC M) (N : Nat) (w : World) (g s : Nat) (D : Dk) (Z : Sl) (F S : Nat → Prop) : Prop where
  is : M.Is N w g D F
  sl : C.Is N w s g Z S
  dj : ∀ b, F b → ¬ S b
  zo : Z.Ok D
section
variable {M : DC} {C : SlC M} {N : Nat} {w w' : World} {g s : Nat} {D : Dk} {Z : Sl} {F S : Nat → Prop}
theorem Lz.grow (t : Lz M C N w g s D Z F S) (hb : Below w.heap.size w w') : Lz M C N w' g s D Z F S :=
  ⟨M.keep t.is hb.size fun b _ hl => hb.block b hl, C.keep t.sl hb.size fun b _ hl => hb.block b hl, t.dj, t.zo⟩
/-- The disk alone has moved. -/
theorem Lz.disk (t : Lz M C N w g s D Z F S) {D' : Dk} {F' : Nat → Prop} (hI : M.Is N w' g D' F') (hs : ∀ b, F' b → F b ∨ w.heap.size ≤ b) (m : Mv N F w w') (hl : D'.sure.length = D.sure.length) : Lz M C N w' g s D' Z F' S := by
  refine ⟨hI, C.keep t.sl m.size fun b hb hlt => m.same b hlt fun hF => ?_, fun b hF hS => ?_, ⟨t.zo.one, t.zo.most, by rw [hl]; exact t.zo.fits, t.zo.at_, t.zo.num⟩⟩
  · rcases hb with e | e
    · have := (M.lt t.is b hF).1; omega
    · exact t.dj b hF e
  · rcases hs b hF with e | e
    · exact t.dj b e hS
    · have := (C.lt t.sl b hS).2; omega
theorem Lz.now (t : Lz M C N w g s D Z F S) (hk : C.ok w) : Calls Tryd.prog 20 #[.pointer (some ⟨s, 0, none⟩)] w fun e w' => ∃ A c, e = .returned (.tuple #[.slice A Z.b.length c, .int .u64 (Z.num : Int)]) ∧ Rd w' A Z.b.length c Z.b ∧ (∀ a, 0 < Z.b.length → A = some a → ¬ Or2 F S a.block) ∧ Lz M C N w' g s D Z F S ∧ Below N w w' :=
  (C.now N w s g Z S hk t.sl).mono fun e w' ⟨A, c, h1, h2, h0, h3, h4⟩ => ⟨A, c, h1, h2, fun a q1 q2 hO => hO.elim (fun e => by have q3 := h0 a q1 q2; have := (M.lt t.is _ e).2; omega) (fun e => by have q3 := h0 a q1 q2; have := (C.lt t.sl _ e).2; omega), ⟨M.keep t.is h4.size fun b hb hl => h4.same b hl fun hS => (by
    rcases hb with e | e
    · have := (C.lt t.sl b hS).1; omega
    · exact t.dj b e hS), h3, t.dj, t.zo⟩, h4.bel⟩
theorem Lz.load (t : Lz M C N w g s D Z F S) (hk : C.ok w) : Calls Tryd.prog 17 #[.pointer (some ⟨s, 0, none⟩)] w fun e w' => ∃ A c F' S', e = .returned (.tuple #[.slice A (Z.loadB D).length c, .int .u64 (Z.loadN D : Int), .int .i64 (Z.loadC D : Int)]) ∧ Rd w' A (Z.loadB D).length c (Z.loadB D) ∧ (∀ a, 0 < (Z.loadB D).length → A = some a → ¬ Or2 F' S' a.block) ∧ Lz M C N w' g s D (Z.load D) F' S' ∧ (∀ b, Or2 F' S' b → Or2 F S b ∨ w.heap.size ≤ b) ∧ Mv N (Or2 F S) w w' :=
  (C.load N w s g D Z F S hk t.is t.sl t.dj t.zo).mono fun e w' ⟨A, c, F', S', h1, h2, h0, h3, h4, h5, h6, h7⟩ => ⟨A, c, F', S', h1, h2, fun a q1 q2 => (h0 a q1 q2).2, ⟨h3, h4, h6, load_ok t.zo⟩, h5, h7⟩
theorem Lz.save (t : Lz M C N w g s D Z F S) (hk : C.ok w) {A : Option Addr} {n c : Nat} {b : List UInt8} (hr : Rd w A n c b) (hA : ∀ a, 0 < n → A = some a → ¬ Or2 F S a.block) (hc : D.cnt < 1099511627000) : Calls Tryd.prog 14 #[.pointer (some ⟨s, 0, none⟩), .slice A n c] w fun e w' => e = .returned (.int .i64 (Z.saveC D b : Int)) ∧ ∃ F' S', Lz M C N w' g s (Z.saveD D b) (Z.save D b) F' S' ∧ (∀ b, Or2 F' S' b → Or2 F S b ∨ w.heap.size ≤ b) ∧ Mv N (Or2 F S) w w' :=
  (C.save N w s g D Z F S A n c b hk t.is t.sl t.dj t.zo hr hA hc).mono fun e w' ⟨h1, F', S', h2, h3, h4, h5, h6⟩ => ⟨h1, F', S', ⟨h2, h3, h5, save_ok t.zo b⟩, h4, h6⟩
theorem Lz.lt (t : Lz M C N w g s D Z F S) : ∀ b, Or2 F S b → N ≤ b ∧ b < w.heap.size := by
  rintro b (e | e)
  · exact M.lt t.is b e
  · exact C.lt t.sl b e
end
def abc : List UInt8 := [97, 98, 99]
theorem aw_facts : (Sl.new 0 2).loadC (Dk.new 4) = 11 ∧ (Sl.new 0 2).load (Dk.new 4) = Sl.new 0 2 ∧ (Sl.new 0 2).saveC (Dk.new 4) abc = 0 ∧ (Sl.new 0 2).save (Dk.new 4) abc = ⟨0, 2, 0, 1, abc⟩ ∧ (⟨0, 2, 0, 1, abc⟩ : Sl).loadC ((Sl.new 0 2).saveD (Dk.new 4) abc) = 0 ∧ (⟨0, 2, 0, 1, abc⟩ : Sl).load ((Sl.new 0 2).saveD (Dk.new 4) abc) = ⟨0, 2, 0, 1, abc⟩ := by
  have hZ : (Sl.new 0 2).Ok (Dk.new 4) := new_ok (first := 0) (n := 2) (by rfl)
  obtain ⟨h1, h2⟩ := load_new (k := 4) (Z := Sl.new 0 2) (by show 0 + 2 * 2 ≤ 4; omega) rfl rfl rfl
  have hb : abc.length ≤ room (Sl.new 0 2).n := by decide
  obtain ⟨h3, h4, _⟩ := save_calm (Calm.new 4) rfl hZ hb
  have ho : (whole ((Sl.new 0 2).area (Dk.new 4) (1 - (Sl.new 0 2).goes)) (Sl.new 0 2).n).1 ≤ (Sl.new 0 2).num := by
    rw [area_new (k := 4) (Z := Sl.new 0 2) (by show 0 + 2 * 2 ≤ 4; omega) (by omega), whole_zero]
    exact Nat.zero_le _
  obtain ⟨h5, h6⟩ := load_saved (Calm.new 4) rfl hZ hb (by show 0 + 1 < _; omega) ho ⟨0, 2, 0, 1, abc⟩ ⟨rfl, rfl⟩
  exact ⟨h1, h2, h3, h4, h5, h6⟩
set_option maxHeartbeats 8000000 in
theorem awake20_any (M : DC) (C : SlC M) (w : World) (hk : C.ok w) : Calls Tryd.prog 7 #[] w fun e w' => e = .returned (.bool true) ∧ Below w.heap.size w w' := by
  obtain ⟨N, hN⟩ : ∃ N, w.heap.size = N := ⟨_, rfl⟩
  have HN := Lib.hid hN
  have OKN := Lib.hid (show ∀ X, Below N w X → C.ok X from fun X hX => C.bel hk (by rw [hN]; exact hX))
  have BN := Lib.hid (show ∀ X Y, Below N w X → Below X.heap.size X Y → Below N w Y from fun X Y h h' => h.trans (h'.mono (by have := h.size; omega)))
  obtain ⟨f1, f2, f3, f4, f5, f6⟩ := aw_facts
  obtain ⟨D0, hD0⟩ : ∃ D0, D0 = Dk.new 4 := ⟨_, rfl⟩
  obtain ⟨Z0, hZ0⟩ : ∃ Z0, Z0 = Sl.new 0 2 := ⟨_, rfl⟩
  obtain ⟨Z1, hZ1⟩ : ∃ Z1 : Sl, Z1 = ⟨0, 2, 0, 1, abc⟩ := ⟨_, rfl⟩
  rw [← hD0, ← hZ0] at f1 f2 f3 f4 f5 f6
  rw [← hZ1] at f4 f5 f6
  obtain ⟨D1, hD1⟩ : ∃ D1, D1 = Z0.saveD D0 abc := ⟨_, rfl⟩
  rw [← hD1] at f5 f6
  have C1 := Lib.hid (show Calls Tryd.prog 8 #[.int .i64 4] w fun e w' => ∃ g F, e = .returned (.tuple #[.pointer (some ⟨g, 0, none⟩), .int .i64 0]) ∧ M.Is N w' g D0 F ∧ Below N w w' from (M.new N w 4 (C.okM hk) (by omega) (by omega) (by omega)).mono fun e w' ⟨g, F, h1, h2, h3, h4⟩ => ⟨g, F, h1, by rw [hD0]; exact h2, by rw [← hN]; exact h4⟩)
  have C2 := Lib.hid (show ∀ X g F, Below N w X → M.Is N X g D0 F → Calls Tryd.prog 9 #[.pointer (some ⟨g, 0, none⟩), .int .i64 0, .int .i64 2] X fun e w' => ∃ s F' S', e = .returned (.tuple #[.pointer (some ⟨s, 0, none⟩), .int .i64 0]) ∧ Lz M C N w' g s D0 Z0 F' S' ∧ Below N X w' from fun X g F hX hI => (C.new N X g D0 F 0 2 (OKN.out X hX) hI (by rw [hD0]; rfl)).mono fun e w' ⟨s, S, F', h1, h2, h3, h4, h5, h6, h7⟩ => ⟨s, F', S, h1, ⟨h3, by rw [hZ0]; exact h2, h6, by rw [hZ0]; exact new_ok (first := 0) (n := 2) (by rw [hD0]; rfl)⟩, h7.bel⟩)
  have C3 := Lib.hid (show ∀ X g s F S, Below N w X → Lz M C N X g s D0 Z0 F S → Calls Tryd.prog 9 #[.pointer (some ⟨g, 0, none⟩), .int .i64 1, .int .i64 2] X fun e w' => ∃ F', e = .returned (.tuple #[.pointer none, .int .i64 1]) ∧ Lz M C N w' g s D0 Z0 F' S ∧ Below N X w' from fun X g s F S hX hI => (C.newNot N X g D0 F 1 2 (by omega) (by omega) (by omega) (by omega) (OKN.out X hX) hI.is (by rw [hD0]; rfl)).mono fun e w' ⟨h1, F', h2, h3, h4⟩ => ⟨F', h1, hI.disk h2 h3 h4 rfl, h4.bel⟩)
  have C4 := Lib.hid (show ∀ X g s F S, Below N w X → Lz M C N X g s D0 Z0 F S → Calls Tryd.prog 17 #[.pointer (some ⟨s, 0, none⟩)] X fun e w' => ∃ A n c m F' S', e = .returned (.tuple #[.slice A n c, .int .u64 m, .int .i64 11]) ∧ Lz M C N w' g s D0 Z0 F' S' ∧ Below N X w' from fun X g s F S hX hI => (hI.load (OKN.out X hX)).mono fun e w' ⟨A, c, F', S', h1, h2, _, h3, h4, h5⟩ => ⟨A, (Z0.loadB D0).length, c, (Z0.loadN D0 : Int), F', S', by rw [h1, f1]; rfl, by rw [f2] at h3; exact h3, h5.bel⟩)
  have C5 := Lib.hid (show ∀ X g s F S, Below N w X → Lz M C N X g s D0 Z0 F S → Calls Tryd.prog 14 #[.pointer (some ⟨s, 0, none⟩), .slice (some ⟨X.heap.size, 0, none⟩) 3 3] (X.alloc (.cells #[.int .u8 97, .int .u8 98, .int .u8 99] 5 (3, 4))) fun e w' => e = .returned (.int .i64 0) ∧ ∃ F' S', Lz M C N w' g s D1 Z1 F' S' ∧ Below N X w' from fun X g s F S hX hI => by
    have hG : Below X.heap.size X (X.alloc (.cells #[.int .u8 97, .int .u8 98, .int .u8 99] 5 (3, 4))) := (Below.refl _ _).alloc (Nat.le_refl _) _
    refine ((hI.grow hG).save (OKN.out _ (BN.out _ _ hX hG)) (rd_mark X _ abc _ rfl (by decide)) (fun a _ e hO => by injection e with e; rw [← e] at hO; have := (hI.lt _ hO).2; exact absurd this (Nat.lt_irrefl _)) (by rw [hD0]; show 0 < _; omega)).mono ?_
    rintro e w' ⟨h1, F', S', h2, h3, h4⟩
    rw [f4, ← hD1] at h2
    exact ⟨by rw [h1, f3]; rfl, F', S', h2, (hG.mono (by have := hX.size; omega)).trans h4.bel⟩)
  have C6 := Lib.hid (show ∀ X g s F S, Below N w X → Lz M C N X g s D1 Z1 F S → Calls Tryd.prog 20 #[.pointer (some ⟨s, 0, none⟩)] X fun e w' => ∃ A c, e = .returned (.tuple #[.slice A 3 c, .int .u64 1]) ∧ Rd w' A 3 c abc ∧ (∀ a, 0 < 3 → A = some a → ¬ Or2 F S a.block) ∧ Lz M C N w' g s D1 Z1 F S ∧ Below N X w' from fun X g s F S hX hI => (hI.now (OKN.out X hX)).mono fun e w' ⟨A, c, h1, h2, h0, h3, h4⟩ => by
    rw [hZ1] at h1 h2 h0
    exact ⟨A, c, h1, h2, h0, h3, h4⟩)
  have f7 : Z1.loadB D1 = abc := by rw [Sl.loadB, if_pos f5, f6, hZ1]
  have f8 : Z1.loadN D1 = 1 := by rw [Sl.loadN, if_pos f5, f6, hZ1]
  have C7 := Lib.hid (show ∀ X g s F S, Below N w X → Lz M C N X g s D1 Z1 F S → Calls Tryd.prog 17 #[.pointer (some ⟨s, 0, none⟩)] X fun e w' => ∃ A c, e = .returned (.tuple #[.slice A 3 c, .int .u64 1, .int .i64 0]) ∧ Rd w' A 3 c abc ∧ Mv N (Or2 F S) X w' from fun X g s F S hX hI => (hI.load (OKN.out X hX)).mono fun e w' ⟨A, c, F', S', h1, h2, _, h3, h4, h5⟩ => by
    rw [f7] at h1 h2
    rw [f5, f8] at h1
    exact ⟨A, c, h1, h2, h5⟩)
  have C8 := Lib.hid (show ∀ X, Below N w X → Calls Tryd.prog 12 #[.int .i64 2] X fun e w' => e = .returned (.int .i64 100) ∧ Below X.heap.size X w' from fun X hX => C.room X 2 (by omega) (by omega) (OKN.out X hX))
  have kc := fun (w : World) (C : Array Value) (n c : Nat) => Lib.run_convert_bytes_const (P := Tryd.prog) w 36 5 C n c Tryd.underlying36 Tryd.underlying5
  clear f1 f2 f3 f4 f5 f6 f7 f8 hD0 hZ0 hZ1 hD1 hk
  go_enter Tryd.func7, Tryd.ntmps7
  go_upto_region 12 with (first
    | (go_at_call 8; ((with_reducible refine C1.out.mono ?_); rintro e w1 ⟨g, F1, rfl, i1, b1⟩; have I1 := Lib.hid i1; have B1 := Lib.hid b1; clear i1 b1))
    | (go_at_call 9; ((with_reducible refine (C2.out w1 g F1 B1.out I1.out).mono ?_); rintro e w2 ⟨s, F2, S2, rfl, i2, b2⟩; have I2 := Lib.hid i2; have B2 := Lib.hid (B1.out.trans b2); clear i2 b2))
    | (go_at_call 9; ((with_reducible refine (C3.out w2 g s F2 S2 B2.out I2.out).mono ?_); rintro e w3 ⟨F3, rfl, i3, b3⟩; have I3 := Lib.hid i3; have B3 := Lib.hid (B2.out.trans b3); clear i3 b3))
    | (go_at_call 17; ((with_reducible refine (C4.out w3 g s F3 S2 B3.out I3.out).mono ?_); rintro e w4 ⟨A4, n4, c4, m4, F4, S4, rfl, i4, b4⟩; have I4 := Lib.hid i4; have B4 := Lib.hid (B3.out.trans b4); clear i4 b4))
    | (go_at_call 14; ((refine (C5.out w4 g s F4 S4 B4.out I4.out).mono ?_); rintro e w5 ⟨rfl, F5, S5, i5, b5⟩; have I5 := Lib.hid i5; have B5 := Lib.hid (B4.out.trans b5); clear i5 b5))
    | (go_at_call 20; ((with_reducible refine (C6.out w5 g s F5 S5 B5.out I5.out).mono ?_); rintro e w6 ⟨A6, c6, rfl, r6, a6, i6, b6⟩; have R6 := Lib.hid r6; have A6F := Lib.hid a6; have I6 := Lib.hid i6; have B6 := Lib.hid (B5.out.trans b6); clear r6 a6 i6 b6))
    | (go_at_call 17; ((with_reducible refine (C7.out w6 g s F5 S5 B6.out I6.out).mono ?_); rintro e w7 ⟨A7, c7, rfl, r7, m7⟩; have R7 := Lib.hid r7; have R67 := Lib.hid (m7.rd R6.out A6F.out); have B7 := Lib.hid (B6.out.trans m7.bel); clear r7 m7)))
  have v6 := rd_convert R67.out
  have v7 := rd_convert R7.out
  go_wp2_with (go_at_call 12; ((with_reducible refine (C8.out w7 B7.out).mono ?_); rintro e w8 ⟨rfl, b8⟩; have B8 := Lib.hid (BN.out _ _ B7.out b8); clear b8))
  go_ret
  exact ⟨rfl, by first | exact B8.out | (rw [HN.out]; exact B8.out)⟩
end Go.Proofs.YtdbamdbdogdpjaaDoor.S20

/-
  The walk of layer 20's second statement (SlotsAreas), over the contracts. No statement is proved here. (Written by gensll2.py.)
-/
namespace Go.Proofs.YtdbamdbdogdpjaaDoor.S20
set_option linter.unusedSimpArgs false
set_option linter.unusedVariables false
set_option maxRecDepth 4096
open Go.RowKit S19

theorem may_nat {k : Nat} {first n : Int} (h : may k first n = true) : ∃ f m : Nat, first = (f : Int) ∧ n = (m : Int) := by
  have h' := of_decide_eq_true h
  exact ⟨first.toNat, n.toNat, by omega, by omega⟩
set_option maxHeartbeats 8000000 in
theorem areas_yes (M : DC) (C : SlC M) (w : World) (hk : C.ok w) (x : Nat) (hx : x < 256) (first n : Int) (f1 : -9223372036854775808 ≤ first) (f2 : first < 9223372036854775808) (n1 : -9223372036854775808 ≤ n) (n2 : n < 9223372036854775808) (hm : may (x + 1) first n = true) : Calls Tryd.prog 3 #[.int .u8 (x : Int), .int .i64 first, .int .i64 n] w fun e w' => e = .returned (.bool true) ∧ Below w.heap.size w w' := by
  obtain ⟨N, hN⟩ : ∃ N, w.heap.size = N := ⟨_, rfl⟩
  have HN := Lib.hid hN
  have OKN := Lib.hid (show ∀ X, Below N w X → C.ok X from fun X hX => C.bel hk (by rw [hN]; exact hX))
  have BN := Lib.hid (show ∀ X Y, Below N w X → Below X.heap.size X Y → Below N w Y from fun X Y h h' => h.trans (h'.mono (by have := h.size; omega)))
  obtain ⟨k, hkk⟩ : ∃ k, k = x + 1 := ⟨_, rfl⟩
  have t3 : (1 : Int) + (x : Int) = (k : Int) := by omega
  have t0 : wrap64 (x : Int) = (x : Int) := (wrap_nat x (by omega)).1
  have t1 : IntKind.i64.wrap (x : Int) = (x : Int) := (wrap_nat x (by omega)).2
  have t4 : wrap64 (k : Int) = (k : Int) := (wrap_nat k (by omega)).1
  have t5 : IntKind.i64.wrap (k : Int) = (k : Int) := (wrap_nat k (by omega)).2
  rw [← hkk] at hm
  have hl : (Dk.new k).sure.length = k := by simp [Dk.new]
  have CA := Lib.hid (show Calls Tryd.prog 7 #[] w fun e w' => e = .returned (.bool true) ∧ Below N w w' from (awake20_any M C w hk).mono fun e w' h => by rw [← hN]; exact h)
  have C1 := Lib.hid (show ∀ X, Below N w X → Calls Tryd.prog 8 #[.int .i64 (k : Int)] X fun e w' => ∃ g F, e = .returned (.tuple #[.pointer (some ⟨g, 0, none⟩), .int .i64 0]) ∧ M.Is N w' g (Dk.new k) F ∧ Below N w w' from fun X hX => (M.new N X k (C.okM (OKN.out X hX)) (by rw [← hN]; exact hX.size) (by omega) (by omega)).mono fun e w' ⟨g, F, h1, h2, h3, h4⟩ => ⟨g, F, h1, h2, BN.out _ _ hX h4⟩)
  obtain ⟨ff, mm, q1, q2⟩ := may_nat hm
  have C2 := Lib.hid (show ∀ X g F, Below N w X → M.Is N X g (Dk.new k) F → Calls Tryd.prog 9 #[.pointer (some ⟨g, 0, none⟩), .int .i64 first, .int .i64 n] X fun e w' => ∃ s, e = .returned (.tuple #[.pointer (some ⟨s, 0, none⟩), .int .i64 0]) ∧ Below N w w' from fun X g F hX hI => by
    rw [q1, q2]
    exact (C.new N X g (Dk.new k) F ff mm (OKN.out X hX) hI (by rw [hl, ← q1, ← q2]; exact hm)).mono fun e w' ⟨s, S, F', h1, h2, h3, h4, h5, h6, h7⟩ => ⟨s, h1, hX.trans h7.bel⟩)
  clear q1 q2
  have C3 := Lib.hid (show ∀ X, Below N w X → Calls Tryd.prog 11 #[.int .i64 (k : Int)] X fun e w' => ∃ h G, e = .returned (.pointer (some ⟨h, 0, none⟩)) ∧ Rk N w' h (.slice none 0 0) (Dk.new k) G ∧ Below N w w' from fun X hX => (rnewD_any N X k (by rw [← hN]; exact hX.size) (by omega) (by omega)).mono fun e w' ⟨h, G, h1, h2, h3, h4⟩ => ⟨h, G, h1, h2, BN.out _ _ hX h4⟩)
  have C4 := Lib.hid (show ∀ X h G, Rk N X h (.slice none 0 0) (Dk.new k) G → Calls Tryd.prog 10 #[.pointer (some ⟨h, 0, none⟩), .int .i64 first, .int .i64 n] X fun e w' => e = .returned (.bool true) ∧ X = w' from fun X h G r => by
    have := rmay20_any N X h (Dk.new k) G r first n f1 f2 n1 n2
    rw [hl, hm] at this
    exact this)
  obtain ⟨m, hmm⟩ : ∃ m : Int, m = (room n : Int) := ⟨_, rfl⟩
  have C5 := Lib.hid (show ∀ X, Below N w X → Calls Tryd.prog 12 #[.int .i64 n] X fun e w' => e = .returned (.int .i64 m) ∧ Below N w w' from fun X hX => by rw [hmm]; exact (C.room X n n1 n2 (OKN.out X hX)).mono fun e w' ⟨h1, h2⟩ => ⟨h1, BN.out _ _ hX h2⟩)
  have C6 := Lib.hid (show ∀ X, Calls Tryd.prog 13 #[.int .i64 n] X fun e w' => e = .returned (.int .i64 m) ∧ X = w' from fun X => by rw [hmm]; exact rroom_any n n1 n2 X)
  clear hk hx hm hkk hl hmm n1 n2 f1 f2
  go_enter Tryd.func3, Tryd.ntmps3
  go_wp2_with (first
    | (go_at_call 7; ((with_reducible refine CA.out.mono ?_); rintro e w1 ⟨rfl, b1⟩; have B1 := Lib.hid b1; clear b1))
    | (go_at_call 8; ((with_reducible refine (C1.out w1 B1.out).mono ?_); rintro e w2 ⟨g, F2, rfl, i2, b2⟩; have I2 := Lib.hid i2; have B2 := Lib.hid b2; clear i2 b2))
    | (go_at_call 9; ((with_reducible refine (C2.out w2 g F2 B2.out I2.out).mono ?_); rintro e w3 ⟨s, rfl, b3⟩; have B3 := Lib.hid b3; clear b3))
    | (go_at_call 11; ((with_reducible refine (C3.out w3 B3.out).mono ?_); rintro e w4 ⟨h, G4, rfl, r4, b4⟩; have R4 := Lib.hid r4; have B4 := Lib.hid b4; clear r4 b4))
    | (go_at_call 10; ((with_reducible refine (C4.out w4 h G4 R4.out).mono ?_); rintro e w5 ⟨rfl, rfl⟩))
    | (go_at_call 12; ((with_reducible refine (C5.out w4 B4.out).mono ?_); rintro e w6 ⟨rfl, b6⟩; have B6 := Lib.hid b6; clear b6))
    | (go_at_call 13; ((with_reducible refine (C6.out w6).mono ?_); rintro e w7 ⟨rfl, rfl⟩)))
  go_ret
  exact ⟨rfl, by first | exact B6.out | (rw [HN.out]; exact B6.out)⟩
set_option maxHeartbeats 8000000 in
theorem areas_no (M : DC) (C : SlC M) (w : World) (hk : C.ok w) (x : Nat) (hx : x < 256) (first n : Int) (f1 : -9223372036854775808 ≤ first) (f2 : first < 9223372036854775808) (n1 : -9223372036854775808 ≤ n) (n2 : n < 9223372036854775808) (hm : may (x + 1) first n = false) : Calls Tryd.prog 3 #[.int .u8 (x : Int), .int .i64 first, .int .i64 n] w fun e w' => e = .returned (.bool true) ∧ Below w.heap.size w w' := by
  obtain ⟨N, hN⟩ : ∃ N, w.heap.size = N := ⟨_, rfl⟩
  have HN := Lib.hid hN
  have OKN := Lib.hid (show ∀ X, Below N w X → C.ok X from fun X hX => C.bel hk (by rw [hN]; exact hX))
  have BN := Lib.hid (show ∀ X Y, Below N w X → Below X.heap.size X Y → Below N w Y from fun X Y h h' => h.trans (h'.mono (by have := h.size; omega)))
  obtain ⟨k, hkk⟩ : ∃ k, k = x + 1 := ⟨_, rfl⟩
  have t3 : (1 : Int) + (x : Int) = (k : Int) := by omega
  have t0 : wrap64 (x : Int) = (x : Int) := (wrap_nat x (by omega)).1
  have t1 : IntKind.i64.wrap (x : Int) = (x : Int) := (wrap_nat x (by omega)).2
  have t4 : wrap64 (k : Int) = (k : Int) := (wrap_nat k (by omega)).1
  have t5 : IntKind.i64.wrap (k : Int) = (k : Int) := (wrap_nat k (by omega)).2
  rw [← hkk] at hm
  have hl : (Dk.new k).sure.length = k := by simp [Dk.new]
  have CA := Lib.hid (show Calls Tryd.prog 7 #[] w fun e w' => e = .returned (.bool true) ∧ Below N w w' from (awake20_any M C w hk).mono fun e w' h => by rw [← hN]; exact h)
  have C1 := Lib.hid (show ∀ X, Below N w X → Calls Tryd.prog 8 #[.int .i64 (k : Int)] X fun e w' => ∃ g F, e = .returned (.tuple #[.pointer (some ⟨g, 0, none⟩), .int .i64 0]) ∧ M.Is N w' g (Dk.new k) F ∧ Below N w w' from fun X hX => (M.new N X k (C.okM (OKN.out X hX)) (by rw [← hN]; exact hX.size) (by omega) (by omega)).mono fun e w' ⟨g, F, h1, h2, h3, h4⟩ => ⟨g, F, h1, h2, BN.out _ _ hX h4⟩)
  have C2 := Lib.hid (show ∀ X g F, Below N w X → M.Is N X g (Dk.new k) F → Calls Tryd.prog 9 #[.pointer (some ⟨g, 0, none⟩), .int .i64 first, .int .i64 n] X fun e w' => e = .returned (.tuple #[.pointer none, .int .i64 1]) ∧ Below N w w' from fun X g F hX hI => (C.newNot N X g (Dk.new k) F first n f1 f2 n1 n2 (OKN.out X hX) hI (by rw [hl]; exact hm)).mono fun e w' ⟨h1, F', h2, h3, h4⟩ => ⟨h1, hX.trans h4.bel⟩)
  have C3 := Lib.hid (show ∀ X, Below N w X → Calls Tryd.prog 11 #[.int .i64 (k : Int)] X fun e w' => ∃ h G, e = .returned (.pointer (some ⟨h, 0, none⟩)) ∧ Rk N w' h (.slice none 0 0) (Dk.new k) G ∧ Below N w w' from fun X hX => (rnewD_any N X k (by rw [← hN]; exact hX.size) (by omega) (by omega)).mono fun e w' ⟨h, G, h1, h2, h3, h4⟩ => ⟨h, G, h1, h2, BN.out _ _ hX h4⟩)
  have C4 := Lib.hid (show ∀ X h G, Rk N X h (.slice none 0 0) (Dk.new k) G → Calls Tryd.prog 10 #[.pointer (some ⟨h, 0, none⟩), .int .i64 first, .int .i64 n] X fun e w' => e = .returned (.bool false) ∧ X = w' from fun X h G r => by
    have := rmay20_any N X h (Dk.new k) G r first n f1 f2 n1 n2
    rw [hl, hm] at this
    exact this)
  obtain ⟨m, hmm⟩ : ∃ m : Int, m = (room n : Int) := ⟨_, rfl⟩
  have C5 := Lib.hid (show ∀ X, Below N w X → Calls Tryd.prog 12 #[.int .i64 n] X fun e w' => e = .returned (.int .i64 m) ∧ Below N w w' from fun X hX => by rw [hmm]; exact (C.room X n n1 n2 (OKN.out X hX)).mono fun e w' ⟨h1, h2⟩ => ⟨h1, BN.out _ _ hX h2⟩)
  have C6 := Lib.hid (show ∀ X, Calls Tryd.prog 13 #[.int .i64 n] X fun e w' => e = .returned (.int .i64 m) ∧ X = w' from fun X => by rw [hmm]; exact rroom_any n n1 n2 X)
  clear hk hx hm hkk hl hmm n1 n2 f1 f2
  go_enter Tryd.func3, Tryd.ntmps3
  go_wp2_with (first
    | (go_at_call 7; ((with_reducible refine CA.out.mono ?_); rintro e w1 ⟨rfl, b1⟩; have B1 := Lib.hid b1; clear b1))
    | (go_at_call 8; ((with_reducible refine (C1.out w1 B1.out).mono ?_); rintro e w2 ⟨g, F2, rfl, i2, b2⟩; have I2 := Lib.hid i2; have B2 := Lib.hid b2; clear i2 b2))
    | (go_at_call 9; ((with_reducible refine (C2.out w2 g F2 B2.out I2.out).mono ?_); rintro e w3 ⟨rfl, b3⟩; have B3 := Lib.hid b3; clear b3))
    | (go_at_call 11; ((with_reducible refine (C3.out w3 B3.out).mono ?_); rintro e w4 ⟨h, G4, rfl, r4, b4⟩; have R4 := Lib.hid r4; have B4 := Lib.hid b4; clear r4 b4))
    | (go_at_call 10; ((with_reducible refine (C4.out w4 h G4 R4.out).mono ?_); rintro e w5 ⟨rfl, rfl⟩))
    | (go_at_call 12; ((with_reducible refine (C5.out w4 B4.out).mono ?_); rintro e w6 ⟨rfl, b6⟩; have B6 := Lib.hid b6; clear b6))
    | (go_at_call 13; ((with_reducible refine (C6.out w6).mono ?_); rintro e w7 ⟨rfl, rfl⟩)))
  go_ret
  exact ⟨rfl, by first | exact B6.out | (rw [HN.out]; exact B6.out)⟩
theorem slotsAreas_walk (M : DC) (C : SlC M) (w : World) (hk : C.ok w) (x : Nat) (hx : x < 256) (first n : Int) (f1 : -9223372036854775808 ≤ first) (f2 : first < 9223372036854775808) (n1 : -9223372036854775808 ≤ n) (n2 : n < 9223372036854775808) : Calls Tryd.prog 3 #[.int .u8 (x : Int), .int .i64 first, .int .i64 n] w fun e w' => e = .returned (.bool true) ∧ Below w.heap.size w w' := by
  by_cases hm : may (x + 1) first n = true
  · exact areas_yes M C w hk x hx first n f1 f2 n1 n2 hm
  · exact areas_no M C w hk x hx first n f1 f2 n1 n2 (by simpa using hm)
end Go.Proofs.YtdbamdbdogdpjaaDoor.S20

/-
  Sectors and pending writes as cells, one behind the other, in plain words. No statement is proved here.
-/
namespace Go.Proofs.YtdbamdbdogdpjaaDoor.S19
set_option linter.unusedSimpArgs false
set_option linter.unusedVariables false
open Go.RowKit

/-- The cells of rows, one behind the other. -/
def rowsV (s : List (List UInt8)) : List Value := s.flatMap bv
/-- The cells of what is pending. -/
def pendV (p : List (Nat × List UInt8)) : List Value := p.flatMap fun q => Value.int .i64 (q.1 : Int) :: bv q.2
theorem flat_len {α : Type} (f : α → List Value) (n : Nat) : ∀ (s : List α), (∀ b ∈ s, (f b).length = n) → (s.flatMap f).length = n * s.length
  | [], _ => by simp
  | b :: s, h => by
    rw [List.flatMap_cons, List.length_append, h b (by simp), flat_len f n s fun c hc => h c (by simp [hc]), List.length_cons, Nat.mul_succ]; omega
theorem rowsV_len {s : List (List UInt8)} (h : ∀ b ∈ s, b.length = 64) : (rowsV s).length = 64 * s.length := flat_len bv 64 s fun b hb => by rw [bv_length]; exact h b hb
theorem pendV_len {p : List (Nat × List UInt8)} (h : ∀ q ∈ p, q.2.length = 64) : (pendV p).length = 65 * p.length := flat_len _ 65 p fun q hq => by rw [List.length_cons, bv_length, h q hq]
theorem rowsV_append (s t : List (List UInt8)) : rowsV (s ++ t) = rowsV s ++ rowsV t := by simp [rowsV]
theorem pendV_snoc (p : List (Nat × List UInt8)) (i : Nat) (b : List UInt8) : pendV (p ++ [(i, b)]) = pendV p ++ (Value.int .i64 (i : Int) :: bv b) := by simp [pendV]
theorem rowsV_split {s : List (List UInt8)} {i : Nat} (h : i < s.length) : rowsV s = rowsV (s.take i) ++ bv (s.getD i []) ++ rowsV (s.drop (i + 1)) := by
  have e : s = s.take i ++ [s.getD i []] ++ s.drop (i + 1) := by
    rw [List.getD_eq_getElem?_getD, List.getElem?_eq_getElem h]
    simp
  conv => lhs; rw [e]
  rw [rowsV_append, rowsV_append]
  simp [rowsV]
theorem rowsV_set {s : List (List UInt8)} {i : Nat} (h : i < s.length) (b : List UInt8) : rowsV (s.set i b) = rowsV (s.take i) ++ bv b ++ rowsV (s.drop (i + 1)) := by
  have h' : i < (s.set i b).length := by simpa using h
  have e1 : (s.set i b).take i = s.take i := by rw [List.take_set_of_le (Nat.le_refl i)]
  have e2 : (s.set i b).getD i [] = b := by rw [List.getD_eq_getElem?_getD, List.getElem?_set_self h]; rfl
  have e3 : (s.set i b).drop (i + 1) = s.drop (i + 1) := by rw [List.drop_set_of_lt (by omega)]
  rw [rowsV_split h', e1, e2, e3]
theorem take_rows {s : List (List UInt8)} (h : ∀ b ∈ s, b.length = 64) (i : Nat) (hi : i ≤ s.length) : (rowsV (s.take i)).length = 64 * i := by
  rw [rowsV_len fun b hb => h b (List.mem_of_mem_take hb), List.length_take, Nat.min_eq_left hi]
theorem pend_split {p : List (Nat × List UInt8)} {i : Nat} (h : i < p.length) : pendV p = pendV (p.take i) ++ (Value.int .i64 (p[i].1 : Int) :: bv p[i].2) ++ pendV (p.drop (i + 1)) := by
  have e : p = p.take i ++ [p[i]] ++ p.drop (i + 1) := by simp
  have h3 : ∀ a b c : List (Nat × List UInt8), pendV (a ++ b ++ c) = pendV a ++ pendV b ++ pendV c := by intro a b c; simp [pendV]
  conv => lhs; rw [e]
  rw [h3]
  simp [pendV]
theorem take_pend {p : List (Nat × List UInt8)} (h : ∀ q ∈ p, q.2.length = 64) (i : Nat) (hi : i ≤ p.length) : (pendV (p.take i)).length = 65 * i := by
  rw [pendV_len fun q hq => h q (List.mem_of_mem_take hq), List.length_take, Nat.min_eq_left hi]
theorem getD_mem {s : List (List UInt8)} {i : Nat} (h : i < s.length) : s.getD i [] ∈ s := by
  rw [List.getD_eq_getElem?_getD, List.getElem?_eq_getElem h]
  exact List.getElem_mem h
/-- The cells of a sector, where it lies. -/
theorem rowsV_at {s : List (List UInt8)} (h : ∀ b ∈ s, b.length = 64) {i j : Nat} (hi : i < s.length) (hj : j < 64) : (rowsV s)[64 * i + j]? = some (.int .u8 (((s.getD i []).getD j 0).toNat : Int)) := by
  have hl := take_rows h i (Nat.le_of_lt hi)
  have hb := h _ (getD_mem hi)
  rw [rowsV_split hi, List.append_assoc, List.getElem?_append_right (by omega), hl, Nat.add_sub_cancel_left]
  generalize s.getD i [] = x at hb ⊢
  rw [List.getElem?_append_left (by rw [bv_length]; omega), bv_at _ _ (by omega), List.getD_eq_getElem?_getD, List.getElem?_eq_getElem (show j < x.length by omega)]
  rfl
theorem rowsV_one (s : List (List UInt8)) : ∀ u ∈ rowsV s, u.oneCell' = true := by
  intro u hu
  obtain ⟨b, _, hb⟩ := List.mem_flatMap.1 hu
  exact bv_one b u hb
theorem pendV_one (p : List (Nat × List UInt8)) : ∀ u ∈ pendV p, u.oneCell' = true := by
  intro u hu
  obtain ⟨q, _, hq⟩ := List.mem_flatMap.1 hu
  rcases List.mem_cons.1 hq with rfl | hq
  · rfl
  · exact bv_one q.2 u hq
theorem rowsV_zero (k : Nat) : rowsV (List.replicate k (List.replicate 64 0)) = List.replicate (64 * k) (Value.int .u8 0) := by
  induction k with
  | zero => simp [rowsV]
  | succ k ih =>
    rw [List.replicate_succ, rowsV, List.flatMap_cons]
    have : (List.replicate k (List.replicate 64 (0 : UInt8))).flatMap bv = rowsV (List.replicate k (List.replicate 64 0)) := rfl
    rw [this, ih, Nat.mul_succ, Nat.add_comm, ← List.replicate_append_replicate]
    congr 1
/-- What was written is laid: one more. -/
theorem laid_sn1 : ∀ (p : List (Nat × List UInt8)) (s : List (List UInt8)) (i : Nat) (b : List UInt8), Dk.laid (p ++ [(i, b)]) s = (Dk.laid p s).set i b
  | [], s, i, b => rfl
  | q :: p, s, i, b => by rw [List.cons_append, Dk.laid, laid_sn1 p, Dk.laid]
end Go.Proofs.YtdbamdbdogdpjaaDoor.S19

/-
  What the landed package leave does: Need and Told. No statement is proved here.
-/
namespace Go.Proofs.YtdbamdbdogdpjaaDoor.LV
set_option linter.unusedSimpArgs false
set_option linter.unusedVariables false
open Go.RowKit

/-- What a call leaves by: the code k. -/
def wrg (k : Int) : PanicEntry := { v := .iface 89 (.agg #[.int .i64 k]), recovered := false }
theorem told_nil (w : World) : Calls Tryd.prog 24 #[.nilIface] w fun e w' => e = .returned (.int .i64 0) ∧ w = w' := by
  go_enter Tryd.func24, Tryd.ntmps24
  go_wp2
  go_ret
  exact ⟨rfl, rfl⟩
theorem told_wrong (k : Int) (w : World) : Calls Tryd.prog 24 #[.iface 89 (.agg #[.int .i64 k])] w fun e w' => e = .returned (.int .i64 k) ∧ Below w.heap.size w w' := by
  have ta : ∀ w, (Instr.typeAssert (.iface 89 (.agg #[.int .i64 k])) 20 89 true).run Tryd.prog w = .ok (.tuple #[.agg #[.int .i64 k], .bool true]) w := fun _ => by kernel_rfl
  go_enter Tryd.func24, Tryd.ntmps24
  go_wp2
  go_ret
  exact ⟨rfl, (Below.refl _ _).alloc (Nat.le_refl _) _⟩
theorem need_yes (k : Int) (w : World) : Calls Tryd.prog 25 #[.bool true, .int .i64 k] w fun e w' => e = .returned (.tuple #[]) ∧ w = w' := by
  go_enter Tryd.func25, Tryd.ntmps25
  go_wp2
  go_end0
  exact ⟨rfl, rfl⟩
theorem need_no (k : Int) (w : World) : Calls Tryd.prog 25 #[.bool false, .int .i64 k] w fun e w' => e = .panicked [wrg k] ∧ w = w' := by
  go_enter Tryd.func25, Tryd.ntmps25
  go_wp2
  exact ⟨rfl, rfl, rfl⟩
end Go.Proofs.YtdbamdbdogdpjaaDoor.LV
