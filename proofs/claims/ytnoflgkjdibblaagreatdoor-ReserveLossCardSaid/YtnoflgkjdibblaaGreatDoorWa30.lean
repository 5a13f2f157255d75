/-
  Texts put together: SkA, SkB, Sk3, Sk4. No statement is proved here.
-/
import Derived.Test.YtnoflgkjdibblaaGreatDoorWa24
import Derived.Test.YtnoflgkjdibblaaGreatDoorWa27
import Derived.Test.YtnoflgkjdibblaaGreatDoorWa29
import Derived.Deep.RegionHeld3
import Derived.Test.YtnoflgkjdibblaaGreatDoorWa13
import Derived.Test.YtnoflgkjdibblaaGreatDoorWa05

/-
  What the landed slots.New does. No statement is proved here.
-/
namespace Go.Proofs.YtnoflgkjdibblaaGreatDoor.S20
set_option linter.unusedSimpArgs false
set_option linter.unusedVariables false
set_option maxRecDepth 8192
open Go.RowKit S19

theorem snew_fin (N : Nat) (w w1 X : World) (g g3 s : Nat) (D : Dk) (F F1 : Nat → Prop) (first n : Nat) (hN : N ≤ w.heap.size) (hg3 : w.heap.size = g3) (k1 : Kn N w1 g D F1) (f1 : ∀ b, F1 b → F b ∨ g3 + 1 ≤ b) (m1 : Mv N F w w1) (hF : ¬ F g3) (hs : w1.heap.size = s)
    (hX : Below w1.heap.size w1 X) (hK : Bk X s 85 #[.pointer (some ⟨g, 0, none⟩), .int .i64 (first : Int), .int .i64 (n : Int), .int .u64 0, .slice none 0 0, .int .i64 0]) (h3 : g3 < w1.heap.size) :
    ∃ s' S F', Ending.returned (Value.tuple #[.pointer (some ⟨s, 0, none⟩), .int .i64 0]) = .returned (.tuple #[.pointer (some ⟨s', 0, none⟩), .int .i64 0]) ∧ Sz N (X.setCell ⟨g3, 0, none⟩ (.int .i64 0)) s' g (Sl.new first n) S ∧ Kn N (X.setCell ⟨g3, 0, none⟩ (.int .i64 0)) g D F' ∧ (∀ b, S b → w.heap.size ≤ b) ∧ (∀ b, F' b → F b ∨ w.heap.size ≤ b) ∧ (∀ b, F' b → ¬ S b) ∧ Mv N F w (X.setCell ⟨g3, 0, none⟩ (.int .i64 0)) := by
  have hsz := m1.size
  have h31 : ¬ F1 g3 := fun h => (f1 _ h).elim hF (by omega)
  refine ⟨s, fun b => b = s, F1, rfl, ⟨⟨none, 0, hK.far (show s ≠ g3 by omega) _, Rd.nil_ _, fun a h => absurd h (by show ¬ 0 < 0; omega)⟩, rfl, fun b e => ?_, by show 0 ≤ _; omega⟩, ?_, fun b e => ?_, fun b e => (f1 b e).imp id (by omega), fun b h e => ?_, ?_⟩
  · subst e
    exact ⟨by omega, by simpa using hK.lt⟩
  · exact (k1.below hX).keep (by simp) fun b hb _ => Below.heap_setCell _ ⟨g3, 0, none⟩ _ b fun e => h31 (by rw [e] at hb; exact hb)
  · subst e; omega
  · have := (k1.lt b h).2
    omega
  · have m2 : Mv N F w1 X := Mv.of (by omega) hX
    have m3 : Mv N (fun b => b = g3) X (X.setCell ⟨g3, 0, none⟩ (.int .i64 0)) := ⟨(Below.refl _ _).setCell (show N ≤ (⟨g3, 0, none⟩ : Addr).block from by show N ≤ g3; omega) _, fun b _ h => Below.heap_setCell _ ⟨g3, 0, none⟩ _ b h⟩
    exact (m1.trans m2 fun b h => .inl h).trans m3 fun b h => .inr (by omega)
set_option maxHeartbeats 4000000 in
theorem snew_any (N : Nat) (w : World) (g : Nat) (D : Dk) (F : Nat → Prop) (first n : Nat) (tk : Kn N w g D F) (hm : may D.sure.length first n = true) : Calls Tryz.prog 8 #[.pointer (some ⟨g, 0, none⟩), .int .i64 (first : Int), .int .i64 (n : Int)] w fun e w' =>
    ∃ s S F', e = .returned (.tuple #[.pointer (some ⟨s, 0, none⟩), .int .i64 0]) ∧ Sz N w' s g (Sl.new first n) S ∧ Kn N w' g D F' ∧ (∀ b, S b → w.heap.size ≤ b) ∧ (∀ b, F' b → F b ∨ w.heap.size ≤ b) ∧ (∀ b, F' b → ¬ S b) ∧ Mv N F w w' := by
  have hmf : ∀ (fn : Fn) (first cap : Array Value) (w : World), (Instr.makeFunc fn first cap).run Tryz.prog w = .ok (.func fn first cap) w := fun _ _ _ _ => rfl
  have HN := Lib.hid (fun X => LV.need_yes 1 X)
  have hm' := of_decide_eq_true hm
  have hmost := tk.ok.most
  obtain ⟨g3, hg3⟩ : ∃ g3, w.heap.size = g3 := ⟨_, rfl⟩
  obtain ⟨w0, hw0⟩ : ∃ w0, w.alloc (.cells #[.int .i64 0] 29) = w0 := ⟨_, rfl⟩
  have B0 := Lib.hid (show Below w.heap.size w w0 by rw [← hw0]; exact (Below.refl _ _).alloc (Nat.le_refl _) _)
  have S0 := Lib.hid (show w0.heap.size = g3 + 1 by rw [← hw0, ← hg3]; simp)
  have K3 := Lib.hid (show Bk w0 g3 29 #[.int .i64 0] by rw [← hw0]; exact Bk.newAt _ _ _ _ hg3)
  have hNN : N ≤ w.heap.size := by
    obtain ⟨ok, V, hb, r⟩ := tk
    have := r.gN g r.fg
    omega
  have hF3 : ¬ F g3 := fun h => by have := (tk.lt _ h).2; omega
  obtain ⟨k, hk⟩ : ∃ k, k = D.sure.length := ⟨_, rfl⟩
  have SU := Lib.hid (show Calls Tryz.prog 24 #[.pointer (some ⟨g, 0, none⟩)] w0 fun e w' => ∃ A c F1, e = .returned (.slice A k c) ∧ Kn N w' g D F1 ∧ (∀ b, F1 b → F b ∨ g3 + 1 ≤ b) ∧ Mv N F w0 w' from (sure_any N w0 g D F (tk.below B0.out)).mono fun e w' ⟨A, c, F', h1, _, h2, h3, h4⟩ => ⟨A, c, F', by rw [hk]; exact h1, h2, fun b hb => (h3 b hb).imp id (fun h => by rw [S0.out] at h; exact h), h4⟩)
  obtain ⟨p, hp⟩ : ∃ p, p = 2 * n := ⟨_, rfl⟩
  obtain ⟨q, hq⟩ : ∃ q, q = k - p := ⟨_, rfl⟩
  have u1 : (1 : Int) ≤ (n : Int) := by omega
  have u2 : (n : Int) ≤ 8 := by omega
  have p1 : (2 : Int) * (n : Int) = (p : Int) := by omega
  have q1 : (k : Int) - (p : Int) = (q : Int) := by omega
  have u3 : (first : Int) ≤ (q : Int) := by omega
  have bp : p ≤ 1000000 := by omega
  have bq : q ≤ 1000000 := by omega
  have z1 : wrap64 (p : Int) = (p : Int) := (wrap_nat p bp).1
  have z2 : wrap64 (q : Int) = (q : Int) := (wrap_nat q bq).1
  have HG := Lib.hid hg3
  have FIN := Lib.hid (fun w1 X s F1 k1 f1 m1 hs hX hK h3 => snew_fin N w w1 X g g3 s D F F1 first n hNN hg3 k1 f1 m1 hF3 hs hX hK h3)
  have HNN := Lib.hid hNN
  have HF3 := Lib.hid hF3
  clear hm hm' hmost hk hp hq bp bq tk hNN hF3
  go_enter_defers Tryz.func8, Tryz.ntmps8
  go_wp2_with (first
    | (go_at_call 30; ((with_reducible refine (HN.out _).mono ?_); rintro e w1 ⟨rfl, rfl⟩))
    | (go_at_call 24; ((with_reducible refine SU.out.mono ?_); rintro e w2 ⟨A2, c2, F2, rfl, k2, f2, m2⟩; have K2 := Lib.hid k2; have F2S := Lib.hid f2; have M2 := Lib.hid m2; have K32 := Lib.hid (m2.bk K3.out HF3.out); have M02 := Lib.hid (show Mv N F w w2 from (Mv.of HNN.out B0.out).trans m2 (fun b h => .inl h)); have L2 := Lib.hid (show g3 < w2.heap.size from K32.out.lt); obtain ⟨s, hs⟩ : ∃ s, w2.heap.size = s := ⟨_, rfl⟩; obtain ⟨w3, hw3⟩ : ∃ w3, w2.alloc (.cells #[.pointer (some ⟨g, 0, none⟩), .int .i64 (first : Int), .int .i64 (n : Int), .int .u64 0, .slice none 0 0, .int .i64 0] 85) = w3 := ⟨_, rfl⟩; have K4 := Lib.hid (show Bk w3 s 85 #[.pointer (some ⟨g, 0, none⟩), .int .i64 (first : Int), .int .i64 (n : Int), .int .u64 0, .slice none 0 0, .int .i64 0] by rw [← hw3]; exact Bk.newAt _ _ _ _ hs); have B4 := Lib.hid (show Below w2.heap.size w2 w3 by rw [← hw3]; exact (Below.refl _ _).alloc (Nat.le_refl _) _); have HS := Lib.hid hs; have K34 := Lib.hid (K32.out.below B4.out K32.out.lt); have i0 := cell_of_one K34.out; have i1 := free_of_one K34.out; clear k2 f2 m2)))
  refine snew_ret rfl (y := 0) (K34.out.put 0 _) rfl ?_
  have hX : (w3.setCell ⟨g3, 0, none⟩ (.int .i64 0)).setCell ⟨g3, 0, none⟩ (.int .i64 0) = w3.setCell ⟨g3, 0, none⟩ (.int .i64 0) := set_set _ _ _ _ _
  rw [hX]
  exact FIN.out w2 w3 s F2 K2.out F2S.out M02.out HS.out B4.out K4.out L2.out
end Go.Proofs.YtnoflgkjdibblaaGreatDoor.S20

/-
  What the landed slots.New does where there may be no slots. No statement is proved here.
-/
namespace Go.Proofs.YtnoflgkjdibblaaGreatDoor.S20
set_option linter.unusedSimpArgs false
set_option linter.unusedVariables false
set_option maxRecDepth 8192
open Go.RowKit S19

theorem snot_fin (N : Nat) (w w1 X : World) (g g3 : Nat) (D : Dk) (F F1 : Nat → Prop) (hN : N ≤ w.heap.size) (hg3 : w.heap.size = g3) (k1 : Kn N w1 g D F1) (f1 : ∀ b, F1 b → F b ∨ g3 + 1 ≤ b) (m1 : Mv N F w w1) (hF : ¬ F g3) (hX : Below w1.heap.size w1 X) :
    ∃ F', Kn N (X.setCell ⟨g3, 0, none⟩ (.int .i64 1)) g D F' ∧ (∀ b, F' b → F b ∨ w.heap.size ≤ b) ∧ Mv N F w (X.setCell ⟨g3, 0, none⟩ (.int .i64 1)) := by
  have hsz := m1.size
  have h31 : ¬ F1 g3 := fun h => (f1 _ h).elim hF (by omega)
  refine ⟨F1, ?_, fun b e => (f1 b e).imp id (by omega), ?_⟩
  · exact (k1.below hX).keep (by simp) fun b hb _ => Below.heap_setCell _ ⟨g3, 0, none⟩ _ b fun e => h31 (by rw [e] at hb; exact hb)
  · have m2 : Mv N F w1 X := Mv.of (by omega) hX
    have m3 : Mv N (fun b => b = g3) X (X.setCell ⟨g3, 0, none⟩ (.int .i64 1)) := ⟨(Below.refl _ _).setCell (show N ≤ (⟨g3, 0, none⟩ : Addr).block from by show N ≤ g3; omega) _, fun b _ h => Below.heap_setCell _ ⟨g3, 0, none⟩ _ b h⟩
    exact (m1.trans m2 fun b h => .inl h).trans m3 fun b h => .inr (by omega)
set_option maxHeartbeats 4000000 in
theorem snewNot_any (N : Nat) (w : World) (g : Nat) (D : Dk) (F : Nat → Prop) (first n : Int) (tk : Kn N w g D F) (hm : may D.sure.length first n = false) : Calls Tryz.prog 8 #[.pointer (some ⟨g, 0, none⟩), .int .i64 first, .int .i64 n] w fun e w' =>
    e = .returned (.tuple #[.pointer none, .int .i64 1]) ∧ ∃ F', Kn N w' g D F' ∧ (∀ b, F' b → F b ∨ w.heap.size ≤ b) ∧ Mv N F w w' := by
  have hmf : ∀ (fn : Fn) (first cap : Array Value) (w : World), (Instr.makeFunc fn first cap).run Tryz.prog w = .ok (.func fn first cap) w := fun _ _ _ _ => rfl
  have HY := Lib.hid (fun X => LV.need_yes 1 X)
  have HN := Lib.hid (fun X => LV.need_no 1 X)
  have hm' := of_decide_eq_false hm
  have hmost := tk.ok.most
  obtain ⟨g3, hg3⟩ : ∃ g3, w.heap.size = g3 := ⟨_, rfl⟩
  obtain ⟨w0, hw0⟩ : ∃ w0, w.alloc (.cells #[.int .i64 0] 29) = w0 := ⟨_, rfl⟩
  have B0 := Lib.hid (show Below w.heap.size w w0 by rw [← hw0]; exact (Below.refl _ _).alloc (Nat.le_refl _) _)
  have S0 := Lib.hid (show w0.heap.size = g3 + 1 by rw [← hw0, ← hg3]; simp)
  have K3 := Lib.hid (show Bk w0 g3 29 #[.int .i64 0] by rw [← hw0]; exact Bk.newAt _ _ _ _ hg3)
  have hNN : N ≤ w.heap.size := by
    obtain ⟨ok, V, hb, r⟩ := tk
    have := r.gN g r.fg
    omega
  have hF3 : ¬ F g3 := fun h => by have := (tk.lt _ h).2; omega
  obtain ⟨k, hk⟩ : ∃ k, k = D.sure.length := ⟨_, rfl⟩
  have SU := Lib.hid (show Calls Tryz.prog 24 #[.pointer (some ⟨g, 0, none⟩)] w0 fun e w' => ∃ A c F1, e = .returned (.slice A k c) ∧ Kn N w' g D F1 ∧ (∀ b, F1 b → F b ∨ g3 + 1 ≤ b) ∧ Mv N F w0 w' from (sure_any N w0 g D F (tk.below B0.out)).mono fun e w' ⟨A, c, F', h1, _, h2, h3, h4⟩ => ⟨A, c, F', by rw [hk]; exact h1, h2, fun b hb => (h3 b hb).imp id (fun h => by rw [S0.out] at h; exact h), h4⟩)
  have M0 := Lib.hid (show Mv N F w w0 from Mv.of hNN B0.out)
  have FIN := Lib.hid (fun w1 F1 k1 f1 m1 X hX => snot_fin N w w1 X g g3 D F F1 hNN hg3 k1 f1 m1 hF3 hX)
  have F0 := Lib.hid (fun X hX => FIN.out w0 F (tk.below B0.out) (fun b h => .inl h) M0.out X hX)
  have HF3 := Lib.hid hF3
  by_cases u1 : 1 ≤ n
  · by_cases u2 : n ≤ 8
    · by_cases u3 : 0 ≤ first
      · obtain ⟨nn, hnn⟩ : ∃ nn : Nat, n = (nn : Int) := ⟨n.toNat, by omega⟩
        subst hnn
        obtain ⟨p, hp⟩ : ∃ p, p = 2 * nn := ⟨_, rfl⟩
        have p1 : (2 : Int) * (nn : Int) = (p : Int) := by omega
        have bp : p ≤ 1000000 := by omega
        obtain ⟨q, hq⟩ : ∃ q : Int, q = (k : Int) - (p : Int) := ⟨_, rfl⟩
        have u4 : ¬ first ≤ q := by omega
        have u5 : decide (first ≤ q) = false := decide_eq_false u4
        have bq : -1000 ≤ q ∧ q ≤ 1000 := by omega
        have q1 : (k : Int) - (p : Int) = q := hq.symm
        have z1 : wrap64 (p : Int) = (p : Int) := (wrap_nat p bp).1
        have z2 : wrap64 q = q := by unfold wrap64; omega
        clear hp bp hq bq
        clear hm hm' hmost hk tk hNN hF3
        go_enter_defers Tryz.func8, Tryz.ntmps8
        go_wp2_with (first
          | (go_at_call 30; ((with_reducible refine (HY.out _).mono ?_); rintro e w1 ⟨rfl, rfl⟩))
          | (go_at_call 30; ((with_reducible refine (HN.out _).mono ?_); rintro e w1 ⟨rfl, rfl⟩))
          | (go_at_call 24; ((with_reducible refine SU.out.mono ?_); rintro e w2 ⟨A2, c2, F2, rfl, k2, f2, m2⟩; have K2 := Lib.hid k2; have F2S := Lib.hid f2; have M2 := Lib.hid m2; have K32 := Lib.hid (m2.bk K3.out HF3.out); have M02 := Lib.hid (show Mv N F w w2 from M0.out.trans m2 (fun b h => .inl h)); clear k2 f2 m2)))
        refine snew_bad rfl (y := 0) K32.out rfl fun w1 hb => ?_
        exact ⟨rfl, FIN.out w2 F2 K2.out F2S.out M02.out w1 hb⟩
      · have u4 : ¬ 0 ≤ first := u3
        clear hm hm' hmost hk tk hNN hF3
        go_enter_defers Tryz.func8, Tryz.ntmps8
        go_wp2_with (first
          | (go_at_call 30; ((with_reducible refine (HY.out _).mono ?_); rintro e w1 ⟨rfl, rfl⟩))
          | (go_at_call 30; ((with_reducible refine (HN.out _).mono ?_); rintro e w1 ⟨rfl, rfl⟩)))
        refine snew_bad rfl (y := 0) K3.out rfl fun w1 hb => ?_
        exact ⟨rfl, F0.out w1 hb⟩
    · clear hm hm' hmost hk tk hNN hF3
      go_enter_defers Tryz.func8, Tryz.ntmps8
      go_wp2_with (first
        | (go_at_call 30; ((with_reducible refine (HY.out _).mono ?_); rintro e w1 ⟨rfl, rfl⟩))
        | (go_at_call 30; ((with_reducible refine (HN.out _).mono ?_); rintro e w1 ⟨rfl, rfl⟩)))
      refine snew_bad rfl (y := 0) K3.out rfl fun w1 hb => ?_
      exact ⟨rfl, F0.out w1 hb⟩
  · clear hm hm' hmost hk tk hNN hF3
    go_enter_defers Tryz.func8, Tryz.ntmps8
    go_wp2_with (first
      | (go_at_call 30; ((with_reducible refine (HY.out _).mono ?_); rintro e w1 ⟨rfl, rfl⟩))
      | (go_at_call 30; ((with_reducible refine (HN.out _).mono ?_); rintro e w1 ⟨rfl, rfl⟩)))
    refine snew_bad rfl (y := 0) K3.out rfl fun w1 hb => ?_
    exact ⟨rfl, F0.out w1 hb⟩
end Go.Proofs.YtnoflgkjdibblaaGreatDoor.S20

/-
  The landed slots: a record as bytes. No statement is proved here.
-/
namespace Go.Proofs.YtnoflgkjdibblaaGreatDoor.S20
set_option linter.unusedSimpArgs false
set_option linter.unusedVariables false
set_option maxRecDepth 8192
open Go.RowKit S19

theorem RdBs.built2To (w : World) (b : Nat) (hb : w.heap.size = b) (T : TypeId) {A A' : Option Addr} {n c n' c' : Nat} {xs ys : List UInt8} (h : Rd w A n c xs) (h' : Rd w A' n' c' ys) :
    RdBs (w.alloc (.cells #[.slice A n c, .slice A' n' c'] T)) (some ⟨b, 0, none⟩) 2 2 [xs, ys] := by
  subst hb
  exact RdBs.built2 w T h h'
theorem RdBs.built1To (w : World) (b : Nat) (hb : w.heap.size = b) (T : TypeId) {A : Option Addr} {n c : Nat} {xs : List UInt8} (h : Rd w A n c xs) :
    RdBs (w.alloc (.cells #[.slice A n c] T)) (some ⟨b, 0, none⟩) 1 1 [xs] := by
  subst hb
  exact RdBs.built1 w T h
theorem full_flat (num : Nat) (b : List UInt8) : [headB num b, (S2.sum (headB num b)).take 16].flatten = fullB num b := by simp [fullB]
theorem rec_flat (num : Nat) (b : List UInt8) (n : Nat) : [fullB num b, List.replicate (64 * n - (28 + b.length)) (0 : UInt8)].flatten = recB num b n := by simp [recB]
theorem wrap_u (m : Nat) (h : m ≤ 1000000) : IntKind.u64.wrap (m : Int) = (m : Int) := by
  rw [IntKind.wrap_u64]
  omega
set_option maxHeartbeats 4000000 in
theorem lay_any (num : Nat) (hnum : num < 18446744073709551616) (A : Option Addr) (nb c : Nat) (b : List UInt8) (n : Nat) (w : World) (hk : S2.GOk w) (hr : Rd w A nb c b) (hn : n ≤ 100) (hl : 28 + nb ≤ 64 * n) :
    Calls Tryz.prog 58 #[.agg #[.int .u64 (num : Int), .slice A nb c], .int .i64 (n : Int)] w (New w.heap.size w (recB num b n)) := by
  obtain ⟨x1, hx1⟩ : ∃ x1, x1 = putL num 8 := ⟨_, rfl⟩
  obtain ⟨x2, hx2⟩ : ∃ x2, x2 = putL nb 4 := ⟨_, rfl⟩
  obtain ⟨hd, hhd⟩ : ∃ hd, hd = headB num b := ⟨_, rfl⟩
  obtain ⟨sm, hsm⟩ : ∃ sm, sm = S2.sum hd := ⟨_, rfl⟩
  obtain ⟨fu, hfu⟩ : ∃ fu, fu = fullB num b := ⟨_, rfl⟩
  obtain ⟨z, hz⟩ : ∃ z, z = 64 * n - (28 + nb) := ⟨_, rfl⟩
  obtain ⟨zs, hzs⟩ : ∃ zs, zs = List.replicate z (0 : UInt8) := ⟨_, rfl⟩
  have hbl := hr.len
  have HFL := Lib.hid (show [x1, x2, b].flatten = hd by rw [hx1, hx2, hhd, ← hbl]; exact head_flat num b)
  have HHL := Lib.hid (show hd.length = 12 + nb by rw [hhd, headB_len, hbl])
  have HSM := Lib.hid (show sm.length = 32 by rw [hsm]; exact S2.sum_length _)
  have HFU := Lib.hid (show [hd, sm.take 16].flatten = fu by rw [hsm, hhd, hfu]; exact full_flat num b)
  have HUL := Lib.hid (show fu.length = 28 + nb by rw [hfu, fullB_len, hbl])
  have HRE := Lib.hid (show [fu, zs].flatten = recB num b n by rw [hzs, hz, hfu, ← hbl]; exact rec_flat num b n)
  have HRL := Lib.hid (show (recB num b n).length ≤ 10000 by rw [recB_len _ _ _ (by omega)]; omega)
  have P8 := Lib.hid (show ∀ X, Calls Tryz.prog 86 #[.int .u64 (num : Int), .int .i64 8] X (New X.heap.size X x1) from fun X => by rw [hx1]; exact put_any num 8 X (by omega) hnum)
  have P4 := Lib.hid (show ∀ X, Calls Tryz.prog 86 #[.int .u64 (nb : Int), .int .i64 4] X (New X.heap.size X x2) from fun X => by rw [hx2]; exact put_any nb 4 X (by omega) (by omega))
  have FI := Lib.hid (show ∀ X, Calls Tryz.prog 63 #[.int .u8 0, .int .i64 (z : Int)] X (New X.heap.size X zs) from fun X => by rw [hzs]; exact fill_any 0 z X (by omega))
  have ON := Lib.hid (show ∀ X A c, Below w.heap.size w X → Rd X A (12 + nb) c hd → Calls Tryz.prog 87 #[.slice A (12 + nb) c] X (New X.heap.size X sm) from fun X A c hX h => by rw [hsm]; exact S2.one_any A (12 + nb) c hd X h (hk.below (Nat.le_refl _) hX) (by omega))
  obtain ⟨q, hq⟩ : ∃ q, q = 64 * n := ⟨_, rfl⟩
  have AR := Lib.hid (show ∀ X, Calls Tryz.prog 79 #[.int .i64 (n : Int)] X fun e w' => e = .returned (.int .i64 (q : Int)) ∧ X = w' from fun X => by rw [hq]; exact area_any n (by omega) X)
  obtain ⟨m, hm⟩ : ∃ m, m = 28 + nb := ⟨_, rfl⟩
  have b1 : nb ≤ 1000000 := by omega
  have b2 : z ≤ 1000000 := by omega
  have HNB := Lib.hid (show nb ≤ 6400 by omega)
  have d1 : (q : Int) - (m : Int) = (z : Int) := by omega
  have d2 : wrap64 ((q : Int) - (m : Int)) = (z : Int) := by rw [d1]; exact (wrap_nat z b2).1
  have d3 : wrap64 (z : Int) = (z : Int) := (wrap_nat z b2).1
  have HM := Lib.hid hm
  have hnb : wrap64 (nb : Int) = (nb : Int) := (wrap_nat nb b1).1
  have hnb2 : IntKind.u64.wrap (nb : Int) = (nb : Int) := wrap_u nb b1
  obtain ⟨g, hg⟩ : ∃ g, w.heap.size = g := ⟨_, rfl⟩
  obtain ⟨w0, hw0⟩ : ∃ w0, w.alloc (.cells #[.int .u64 (num : Int), .slice A nb c] 81) = w0 := ⟨_, rfl⟩
  have K0 := Lib.hid (show Bk w0 g 81 #[.int .u64 (num : Int), .slice A nb c] by rw [← hw0]; exact Bk.newAt _ _ _ _ hg)
  have B0 := Lib.hid (show Below w.heap.size w w0 by rw [← hw0]; exact (Below.refl _ _).alloc (Nat.le_refl _) _)
  have HR := Lib.hid hr
  have HG := Lib.hid hg
  have c0 : w0.cell? ⟨g, 0, none⟩ = some (.int .u64 (num : Int)) := K0.out.cell 0
  have c1 : w0.cell? ⟨g, 1, none⟩ = some (.slice A nb c) := K0.out.cell 1
  have GD := Lib.hid (Below.refl w0.heap.size w0).drew
  have KX := Lib.hid (show ∀ X, Below w0.heap.size w0 X → X.cell? ⟨g, 0, none⟩ = some (.int .u64 (num : Int)) ∧ X.cell? ⟨g, 1, none⟩ = some (.slice A nb c) from fun X hX => ⟨(K0.out.below hX K0.out.lt).cell 0, (K0.out.below hX K0.out.lt).cell 1⟩)
  clear hx1 hx2 hhd hsm hfu hz hzs hbl hr hnum hq hl hn hm hk
  go_enter Tryz.func58, Tryz.ntmps58
  go_upto_region 1 with (fail)
  clear hw0 hg c0 c1
  (go_region_held3 (fun X => X.cell? ⟨g, 0, none⟩ = some (.int .u64 (num : Int)) ∧ X.cell? ⟨g, 1, none⟩ = some (.slice A nb c)) (first
    | exact KX.out _ B3.out
    | exact KX.out _ (B2.out.alloc B2.out.size _)
    | exact KX.out _ B2.out
    | exact KX.out _ B1.out
    | exact KX.out _ GD.out) (first
    | (go_at_call 86; ((with_reducible refine (P8.out _).mono ?_); rintro e w1 ⟨A1, n1, c1, rfl, o1, b1⟩; have R1 := Lib.hid (Rd.own o1); have B1 := Lib.hid (GD.out.trans (b1.mono GD.out.size)); clear o1 b1))
    | (go_at_call 86; ((with_reducible refine (P4.out _).mono ?_); rintro e w2 ⟨A2, n2, c2, rfl, o2, b2⟩; have R2 := Lib.hid (Rd.own o2); have R12 := Lib.hid (R1.out.below b2); have B2 := Lib.hid (B1.out.trans (b2.mono B1.out.size)); clear o2 b2))
    | (go_at_call 32; ((refine (cat_any _ 3 3 [x1, x2, b] _ (RdBs.built3To w2 _ rfl _ R12.out R2.out (HR.out.below (B0.out.trans (B2.out.mono B0.out.size)))) (by rw [HFL.out, HHL.out]; have := HNB.out; omega)).mono ?_); intro e w3 h3; rw [HFL.out] at h3; obtain ⟨A3, n3, c3, rfl, o3, b3⟩ := New.from (B2.out.alloc B2.out.size _) h3; have O3 := Lib.hid o3; have B3 := Lib.hid b3; clear o3 b3 h3))
    | fail))
  have hn3 : n3 = 12 + nb := (own_len O3.out).symm.trans HHL.out
  subst hn3
  have B03 := Lib.hid (show Below w.heap.size w w3 from B0.out.trans (B3.out.mono B0.out.size))
  clear R1 R2 R12 B1 B2
  go_upto_region 3 with (first
    | (go_at_call 87; ((with_reducible refine (ON.out w3 A3 c3 B03.out (Rd.own O3.out)).mono ?_); rintro e w4 ⟨A4, n4, c4, rfl, o4, b4⟩; obtain rfl : 32 = n4 := HSM.out.symm.trans (own_len o4); have R4 := Lib.hid (Rd.own o4); have O4 := Lib.hid (own_below O3.out b4); have B4 := Lib.hid (B03.out.trans (b4.mono B03.out.size)); have hc4 := R4.out.cap; have P1 : ∀ W, (Instr.slice 23 (.slice A4 32 c4) none (some (.int .i64 16)) none).run Tryz.prog W = .ok (.slice A4 16 c4) W := fun W => run_cutSlH (m := 16) rfl (by omega) W; have P2 : ∀ W, (Instr.sliceAt 23 (.slice A4 32 c4) none (some (.int .i64 16)) none).run Tryz.prog W = .ok (.slice A4 16 c4) W := fun W => run_cutSlHAt (m := 16) rfl (by omega) W; clear o4 b4))
    | (go_at_call 32; ((refine (cat_any _ 2 2 [hd, sm.take 16] _ (RdBs.built2To w4 _ rfl _ (Rd.own O4.out) (R4.out.take (by omega))) (by rw [HFU.out, HUL.out]; have := HNB.out; omega)).mono ?_); intro e w5 h5; rw [HFU.out] at h5; obtain ⟨A5, n5, c5, rfl, o5, b5⟩ := New.from (B4.out.alloc B4.out.size _) h5; have O5 := Lib.hid o5; have B5 := Lib.hid b5; clear o5 b5 h5)))
  have hn5 : n5 = m := by rw [HM.out]; exact (own_len O5.out).symm.trans HUL.out
  subst hn5
  clear O3 O4 R4 hc4 P1 P2 B3 B03 B4
  go_wp2_with (first
    | (go_at_call 79; ((with_reducible refine (AR.out _).mono ?_); rintro e w6 ⟨rfl, rfl⟩))
    | (go_at_call 63; ((with_reducible refine (FI.out _).mono ?_); rintro e w6 ⟨A6, n6, c6, rfl, o6, b6⟩; have R6 := Lib.hid (Rd.own o6); have O6 := Lib.hid (own_below O5.out b6); have B6 := Lib.hid (B5.out.trans (b6.mono B5.out.size)); clear o6 b6))
    | (go_at_call 32; ((refine (cat_any _ 2 2 [fu, zs] _ (RdBs.built2To w6 _ rfl _ (Rd.own O6.out) R6.out) (by rw [HRE.out]; have := HRL.out; omega)).mono ?_); intro e w7 h7; rw [HRE.out] at h7; obtain ⟨A7, n7, c7, rfl, o7, b7⟩ := New.from (B6.out.alloc B6.out.size _) h7; have O7 := Lib.hid o7; have B7 := Lib.hid b7; clear o7 b7 h7)))
  go_ret
  exact ⟨A7, n7, c7, rfl, O7.out, B7.out⟩
end Go.Proofs.YtnoflgkjdibblaaGreatDoor.S20

/-
  The landed slots: is an area a record? No statement is proved here.
-/
namespace Go.Proofs.YtnoflgkjdibblaaGreatDoor.S20
set_option linter.unusedSimpArgs false
set_option linter.unusedVariables false
set_option maxRecDepth 8192
open Go.RowKit S19

theorem results_struct_tmp {P : Program} {fn : Func} {p q : Tmp} {ty : TypeId} (h : fn.results = #[.cell p ty, .tmp q]) (tmps : Array Value) (w : World) (g : Nat) (t : TypeId) (cs : Array Value) (fr : Nat × Nat) (d : TypeDesc)
    (hp : tmps.getD p undef = .pointer (some ⟨g, 0, none⟩)) (hg : w.heap[g]? = some (.cells cs t fr))
    (hu : P.underlying ty = some d) (hd : (match d with | .struct _ | .array _ _ => true | _ => false) = true) (hi : (P.info? ty).map (·.size) = some cs.size) :
    (results fn tmps).run P w = .ok (.tuple #[.agg cs, tmps.getD q undef]) w := by
  have hp' : tmps[p]?.getD undef = .pointer (some ⟨g, 0, none⟩) := by simpa using hp
  simp [results, h, hp', asAddr, run_loadVar_row w g t ty cs fr d hg hu hd hi]
theorem Tryz.infoRec : (Tryz.prog.info? 81).map (·.size) = some 2 := by kernel_rfl
theorem Tryz.infoKnown : (Tryz.prog.info? 83).map (·.size) = some 3 := by kernel_rfl
/-- What an area comes to. -/
def GivesT (xs : List UInt8) (n : Nat) (A : Option Addr) (w : World) (e : Ending) (w' : World) : Prop :=
  ∃ (num : Nat) (A' : Option Addr) (m c' : Nat), e = .returned (.tuple #[.agg #[.int .u64 (num : Int), .slice A' m c'], .bool (decide (wholeP xs n))]) ∧ Below w.heap.size w w' ∧
    (wholeP xs n → num = numOf xs ∧ Rd w' A' m c' (dataOf xs) ∧ ∀ a, A' = some a → ∃ a0, A = some a0 ∧ a.block = a0.block)
theorem rec_fin {w X : World} {xs : List UInt8} {n : Nat} {A : Option Addr} {num m c' : Nat} {A' : Option Addr} {r : Bool} (hb : Below w.heap.size w X) (hr : decide (wholeP xs n) = r) (h : wholeP xs n → num = numOf xs ∧ Rd X A' m c' (dataOf xs) ∧ ∀ a, A' = some a → ∃ a0, A = some a0 ∧ a.block = a0.block) :
    GivesT xs n A w (.returned (.tuple #[.agg #[.int .u64 (num : Int), .slice A' m c'], .bool r])) X := by
  subst hr
  exact ⟨num, A', m, c', rfl, hb, h⟩
theorem add_at (a : Addr) (k c : Nat) (A : Option Addr) (h : (if c = k then A else A.map (·.add k)) = some a) : ∃ a0, A = some a0 ∧ a.block = a0.block := by
  split at h
  · exact ⟨a, h, rfl⟩
  · cases A with
    | none => cases h
    | some a0 =>
      injection h with h
      exact ⟨a0, rfl, by rw [← h]; exact add_block a0 k⟩
theorem quo_of {k n : Nat} (h : k = 64 * n) : (k : Int).tdiv 64 = (n : Int) ∧ k / 64 = n ∧ (k : Int) / 64 = (n : Int) := by
  subst h
  refine ⟨?_, by omega, by omega⟩
  rw [Int.tdiv_eq_ediv_of_nonneg (by omega)]
  omega
set_option maxHeartbeats 4000000 in
theorem take_any (A : Option Addr) (k c : Nat) (xs : List UInt8) (n : Nat) (w : World) (hgk : S2.GOk w) (hr : Rd w A k c xs) (hk : k = 64 * n) (h1 : 1 ≤ n) (h8 : n ≤ 8) :
    Calls Tryz.prog 83 #[.slice A k c] w (GivesT xs n A w) := by
  have hrm := room_nat h1 h8
  obtain ⟨rm, hrm2⟩ : ∃ rm, rm = room n := ⟨_, rfl⟩
  have hcap := hr.cap
  have hl := hr.len
  obtain ⟨num, hnum⟩ : ∃ num, num = numOf xs := ⟨_, rfl⟩
  obtain ⟨cnt, hcnt⟩ : ∃ cnt, cnt = cntOf xs := ⟨_, rfl⟩
  have hnl := numOf_lt xs
  have hcl := cntOf_lt xs
  rw [← hnum] at hnl
  rw [← hcnt] at hcl
  obtain ⟨g, hg⟩ : ∃ g, w.heap.size = g := ⟨_, rfl⟩
  obtain ⟨w0, hw0⟩ : ∃ w0, w.alloc (.cells #[.int .u64 0, .slice none 0 0] 81) = w0 := ⟨_, rfl⟩
  have K0 := Lib.hid (show Bk w0 g 81 #[.int .u64 0, .slice none 0 0] by rw [← hw0]; exact Bk.newAt _ _ _ _ hg)
  have B0 := Lib.hid (show Below w.heap.size w w0 by rw [← hw0]; exact (Below.refl _ _).alloc (Nat.le_refl _) _)
  have P1 : ∀ W, (Instr.slice 23 (.slice A k c) none (some (.int .i64 8)) none).run Tryz.prog W = .ok (.slice A 8 c) W := fun W => run_cutSlH (m := 8) rfl (by omega) W
  have P2 : ∀ W, (Instr.sliceAt 23 (.slice A k c) none (some (.int .i64 8)) none).run Tryz.prog W = .ok (.slice A 8 c) W := fun W => run_cutSlHAt (m := 8) rfl (by omega) W
  obtain ⟨A8, hA8⟩ : ∃ A8, A8 = if c = 8 then A else A.map (·.add 8) := ⟨_, rfl⟩
  have P3 : ∀ W, (Instr.slice 23 (.slice A k c) (some (.int .i64 8)) (some (.int .i64 12)) none).run Tryz.prog W = .ok (.slice A8 4 (c - 8)) W := fun W => by rw [hA8]; exact run_cutSlLH (l' := 8) (m := 4) rfl rfl (by omega) W
  have P4 : ∀ W, (Instr.sliceAt 23 (.slice A k c) (some (.int .i64 8)) (some (.int .i64 12)) none).run Tryz.prog W = .ok (.slice A8 4 (c - 8)) W := fun W => by rw [hA8]; exact run_cutSlLHAt (l' := 8) (m := 4) rfl rfl (by omega) W
  have G1 := Lib.hid (show Calls Tryz.prog 109 #[.slice A 8 c] w0 fun e w' => e = .returned (.tuple #[.int .u64 (num : Int), .bool true]) ∧ w0 = w' by rw [hnum]; exact get_any A 8 c _ w0 (by omega) ((hr.below B0.out).take (by omega)))
  have G2 := Lib.hid (show Calls Tryz.prog 109 #[.slice A8 4 (c - 8)] w0 fun e w' => e = .returned (.tuple #[.int .u64 (cnt : Int), .bool true]) ∧ w0 = w' by
    rw [hcnt, hA8]
    exact get_any _ 4 (c - 8) _ w0 (by omega) (((hr.below B0.out).cut (k := 8) (by omega)).take (by omega)))
  have e28 : (k : Int) - 28 = (rm : Int) := by omega
  have brm : rm ≤ 1000000 := by omega
  have W28 := Lib.hid (show wrap64 ((k : Int) - 28) = (rm : Int) ∧ wrap64 (rm : Int) = (rm : Int) ∧ (k : Int) - 28 = (rm : Int) from ⟨by rw [e28]; exact (wrap_nat rm brm).1, (wrap_nat rm brm).1, e28⟩)
  clear e28
  have HG := Lib.hid hg
  have F0 := Lib.hid (show ¬ wholeP xs n → GivesT xs n A w (.returned (.tuple #[.agg #[.int .u64 ((0 : Nat) : Int), .slice none 0 0], .bool false])) ((w0.setCell ⟨g, 0, none⟩ (.int .u64 0)).setCell ⟨g, 1, none⟩ (.slice none 0 0)) from fun h => rec_fin ((B0.out.setCell (p := ⟨g, 0, none⟩) (by rw [HG.out]; exact Nat.le_refl _) _).setCell (p := ⟨g, 1, none⟩) (by rw [HG.out]; exact Nat.le_refl _) _) (decide_eq_false h) (fun h' => absurd h' h))
  have c0 : w0.cell? ⟨g, 0, none⟩ = some (.int .u64 0) := K0.out.cell 0
  have c1 : w0.cell? ⟨g, 1, none⟩ = some (.slice none 0 0) := K0.out.cell 1
  have f0 := K0.out.frozen 0
  have f1 := K0.out.frozen 1
  by_cases q1 : num = 0
  · have F := Lib.hid (F0.out fun h => h.1 (by rw [← hnum]; exact q1))
    have y1 : (num : Int) < 1 := by omega
    clear hk h1 h8 hnum hcnt hA8 hl hcap hrm2 hr hrm hcl hnl F0 brm
    obtain ⟨w28, w29, e28⟩ := W28.out
    go_enter Tryz.func83, Tryz.ntmps83
    go_wp2_with (first
      | (go_at_call 109; ((with_reducible refine G1.out.mono ?_); rintro e w1 ⟨rfl, rfl⟩))
      | (go_at_call 109; ((with_reducible refine G2.out.mono ?_); rintro e w2 ⟨rfl, rfl⟩)))
    refine bodyPost_ret (results_struct_tmp rfl _ _ g _ _ _ _ rfl ((K0.out.put 0 _).put 1 _) Tryz.underlying81 rfl Tryz.infoRec) rfl ?_
    exact F.out
  by_cases q2 : rm < cnt
  · have F := Lib.hid (F0.out fun h => by have := h.2.1; omega)
    have y1 : ¬ (num : Int) < 1 := by omega
    have y2 : (rm : Int) < (cnt : Int) := by omega
    have y3 : rm < 18446744073709551616 := by omega
    clear hk h1 h8 hnum hcnt hA8 hl hcap hrm2 hr hrm hcl hnl q1 q2 F0 brm
    obtain ⟨w28, w29, e28⟩ := W28.out
    go_enter Tryz.func83, Tryz.ntmps83
    go_wp2_with (first
      | (go_at_call 109; ((with_reducible refine G1.out.mono ?_); rintro e w1 ⟨rfl, rfl⟩))
      | (go_at_call 109; ((with_reducible refine G2.out.mono ?_); rintro e w2 ⟨rfl, rfl⟩)))
    refine bodyPost_ret (results_struct_tmp rfl _ _ g _ _ _ _ rfl ((K0.out.put 0 _).put 1 _) Tryz.underlying81 rfl Tryz.infoRec) rfl ?_
    exact F.out
  · obtain ⟨A12, hA12⟩ : ∃ A12, A12 = if c = 12 then A else A.map (·.add 12) := ⟨_, rfl⟩
    have P5 : ∀ W, (Instr.slice 23 (.slice A k c) (some (.int .i64 12)) (some (.int .u64 (12 + (cnt : Int)))) none).run Tryz.prog W = .ok (.slice A12 cnt (c - 12)) W := fun W => by rw [hA12]; exact run_cutLHu (l' := 12) (m := cnt) rfl (by omega) (by omega) W
    have P6 : ∀ W, (Instr.sliceAt 23 (.slice A k c) (some (.int .i64 12)) (some (.int .u64 (12 + (cnt : Int)))) none).run Tryz.prog W = .ok (.slice A12 cnt (c - 12)) W := fun W => by rw [hA12]; exact run_cutLHuAt (l' := 12) (m := cnt) rfl (by omega) (by omega) W
    obtain ⟨dt, hdt⟩ : ∃ dt, dt = dataOf xs := ⟨_, rfl⟩
    have RD := Lib.hid (show Rd w A12 cnt (c - 12) dt by rw [hdt, dataOf, ← hcnt, hA12]; exact (hr.cut (k := 12) (by omega)).take (by omega))
    obtain ⟨rec, hrec⟩ : ∃ rec, rec = recB num dt n := ⟨_, rfl⟩
    have RC := Lib.hid (show ∀ X, Below w.heap.size w X → Calls Tryz.prog 58 #[.agg #[.int .u64 (num : Int), .slice A12 cnt (c - 12)], .int .i64 (n : Int)] X (New X.heap.size X rec) from fun X hX => by rw [hrec]; exact lay_any num hnl A12 cnt (c - 12) dt n X (hgk.below (Nat.le_refl _) hX) (RD.out.below hX) (by omega) (by omega))
    have HR := Lib.hid hr
    have y1 : ¬ (num : Int) < 1 := by omega
    have y2 : ¬ (rm : Int) < (cnt : Int) := by omega
    have y3 : rm < 18446744073709551616 := by omega
    have F := Lib.hid (show ∀ X, Below w.heap.size w X → GivesT xs n A w (.returned (.tuple #[.agg #[.int .u64 (num : Int), .slice A12 cnt (c - 12)], .bool (sameB xs rec)])) X from fun X hX => by
      refine rec_fin hX ?_ fun hw => ⟨hnum, by rw [← hdt]; exact RD.out.below hX, fun a ha => by rw [hA12] at ha; exact add_at a 12 c A ha⟩
      have e : wholeP xs n ↔ xs = rec := ⟨fun h => by rw [hrec, hnum, hdt]; exact h.2.2.symm, fun h => ⟨by rw [← hnum]; exact q1, by rw [← hcnt]; omega, by rw [← hnum, ← hdt, ← hrec]; exact h.symm⟩⟩
      rw [decide_eq_decide.2 e, sameB]
      by_cases h : xs = rec
      · subst h
        simp
      · have h1 : (xs == rec) = false := by simpa using h
        rw [h1]
        exact decide_eq_false h)
    have HN := Lib.hid (show n ≤ 8 ∧ k ≤ 512 from ⟨h8, by omega⟩)
    have bn : n ≤ 1000000 := by omega
    have QN := Lib.hid (show ((k : Int).tdiv 64 = (n : Int) ∧ k / 64 = n ∧ (k : Int) / 64 = (n : Int)) ∧ wrap64 (n : Int) = (n : Int) ∧ IntKind.i64.wrap (n : Int) = (n : Int) from ⟨quo_of hk, wrap_nat n bn⟩)
    obtain ⟨h, hh⟩ : ∃ h, w0.heap.size = h := ⟨_, rfl⟩
    obtain ⟨w1, hw1⟩ : ∃ w1, w0.alloc (.cells #[.int .u64 (num : Int), .slice A12 cnt (c - 12)] 81) = w1 := ⟨_, rfl⟩
    have K1 := Lib.hid (show Bk w1 h 81 #[.int .u64 (num : Int), .slice A12 cnt (c - 12)] by rw [← hw1]; exact Bk.newAt _ _ _ _ hh)
    have B1 := Lib.hid (show Below w0.heap.size w0 w1 by rw [← hw1]; exact (Below.refl _ _).alloc (Nat.le_refl _) _)
    have B01 := Lib.hid (show Below w.heap.size w w1 from B0.out.trans (B1.out.mono B0.out.size))
    have K01 := Lib.hid (show Bk w1 g 81 #[.int .u64 0, .slice none 0 0] from K0.out.below B1.out K0.out.lt)
    clear hk h1 h8 hnum hcnt hA8 hl hcap hrm2 hr hrm q1 q2 hA12 hdt hrec F0 brm hgk bn
    obtain ⟨w28, w29, e28⟩ := W28.out
    have SAM := Lib.hid (fun A' n' c' ys X h' h'' => same_any A A' k c n' c' xs ys X h' h'')
    have GD := Lib.hid (Below.refl w1.heap.size w1).drew
    have KX := Lib.hid (show ∀ X : World, X.heap[h]? = w1.heap[h]? → X.cell? ⟨h, 0, none⟩ = some (.int .u64 (num : Int)) ∧ X.cell? ⟨h, 1, none⟩ = some (.slice A12 cnt (c - 12)) from fun X hX => by
      have hb : Bk X h 81 #[.int .u64 (num : Int), .slice A12 cnt (c - 12)] := hX.trans K1.out
      exact ⟨hb.cell 0, hb.cell 1⟩)
    have HNE := Lib.hid (show h ≠ g from fun e => by have := K0.out.lt; omega)
    go_enter Tryz.func83, Tryz.ntmps83
    go_upto_region 6 with (first
      | (go_at_call 109; ((with_reducible refine G1.out.mono ?_); rintro e w1 ⟨rfl, rfl⟩))
      | (go_at_call 109; ((with_reducible refine G2.out.mono ?_); rintro e w2 ⟨rfl, rfl⟩)))
    clear hw1 hw0 c0 c1 f0 f1 y1 y2 y3 w28 w29 e28 P1 P2 P3 P4 P5 P6 hg hh G1 G2
    obtain ⟨⟨hq, hd64, hd65⟩, wn, wn2⟩ := QN.out
    (go_region_held3 (fun X => X.cell? ⟨h, 0, none⟩ = some (.int .u64 (num : Int)) ∧ X.cell? ⟨h, 1, none⟩ = some (.slice A12 cnt (c - 12))) (first
      | exact KX.out _ ((Below.heap_setCell _ ⟨g, 1, none⟩ _ h HNE.out).trans ((Below.heap_setCell _ ⟨g, 0, none⟩ _ h HNE.out).trans (B4.out.block h K1.out.lt)))
      | exact KX.out _ (B4.out.block h K1.out.lt)
      | exact KX.out _ (GD.out.block h K1.out.lt)) (first
      | (go_at_call 58; ((with_reducible refine (RC.out _ (B01.out.trans (GD.out.mono B01.out.size))).mono ?_); rintro e w4 ⟨A4, n4, c4, rfl, o4, b4⟩; have R4 := Lib.hid (Rd.own o4); have B4 := Lib.hid (GD.out.trans (b4.mono GD.out.size)); have K4 := Lib.hid (K01.out.below B4.out K01.out.lt); have d0 : w4.cell? ⟨g, 0, none⟩ = some (.int .u64 0) := K4.out.cell 0; have d1 : w4.cell? ⟨g, 1, none⟩ = some (.slice none 0 0) := K4.out.cell 1; have e0 := K4.out.frozen 0; have e1 := K4.out.frozen 1; clear o4 b4))
      | (go_at_call 77; ((with_reducible refine (SAM.out A4 n4 c4 rec w4 (HR.out.below (B01.out.trans (B4.out.mono B01.out.size))) R4.out).mono ?_); rintro e w5 ⟨rfl, rfl⟩))
      | fail))
    go_wp2_with (fail)
    refine bodyPost_ret (results_struct_tmp rfl _ _ g _ _ _ _ rfl ((K4.out.put 0 _).put 1 _) Tryz.underlying81 rfl Tryz.infoRec) rfl ?_
    exact F.out _ (((B01.out.trans (B4.out.mono B01.out.size)).setCell (p := ⟨g, 0, none⟩) (by rw [HG.out]; exact Nat.le_refl _) _).setCell (p := ⟨g, 1, none⟩) (by rw [HG.out]; exact Nat.le_refl _) _)
end Go.Proofs.YtnoflgkjdibblaaGreatDoor.S20
