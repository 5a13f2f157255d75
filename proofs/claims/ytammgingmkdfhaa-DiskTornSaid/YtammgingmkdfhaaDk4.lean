/-
  The statements' first question of layer 19, over the contracts. No statement is proved here.
-/
import Derived.Test.YtammgingmkdfhaaDk3
import Derived.Deep.Cut
import Derived.Deep.RegionHeld3
namespace Go.Proofs.Ytammgingmkdfhaa.S19
set_option linter.unusedSimpArgs false
set_option linter.unusedVariables false
set_option maxRecDepth 4096
open Go.RowKit

theorem DC.grow (M : DC) {N : Nat} {w w' : World} {g : Nat} {D : Dk} {F : Nat → Prop} (h : M.Is N w g D F) (hb : Below w.heap.size w w') : M.Is N w' g D F :=
  M.keep h hb.size fun b _ hlt => hb.block b hlt
/-- A byte of a row that reads so. -/
theorem Rd.byte {w : World} {A : Option Addr} {n c : Nat} {xs : List UInt8} (h : Rd w A n c xs) {i : Nat} (hi : i < n) : ∃ b off, A = some ⟨b, off, none⟩ ∧ w.cell? ⟨b, off + i, none⟩ = some (.int .u8 ((xs.getD i 0).toNat : Int)) := by
  obtain ⟨b, off, rfl, _, hc⟩ := h.at_ (by omega)
  exact ⟨b, off, rfl, hc i hi⟩
theorem rd_litD (w : World) (vs : Array Value) (xs : List UInt8) (h : vs.toList = bv xs) (hm : xs.length ≤ maxLen) (b : Nat) (hb : w.heap.size = b) : Rd (w.alloc (.cells vs 5)) (some ⟨b, 0, none⟩) xs.length xs.length xs := by
  subst hb
  obtain ⟨vs⟩ := vs
  simp only at h
  subst h
  have := World.ownsRow_lit (base := 0) (e := 5) (size := 1) w (bv xs).toArray xs.length (Nat.zero_le _) hm (by simp [bv_length])
  exact Rd.own (B := 0) (e := 5) (by simpa using this)
def awD1 (b : List UInt8) : Dk := { Dk.new 3 with cnt := 1, pend := [(1, b)] }
theorem aw_w1 (b : List UInt8) (h : b.length = 64) : (Dk.new 3).write 1 b = awD1 b ∧ (Dk.new 3).writeC 1 b = 0 := by
  constructor
  · simp [Dk.write, Dk.new, Dk.has, h, Dk.stepC, Dk.step, awD1]
  · simp [Dk.writeC, Dk.new, Dk.has, h, Dk.stepC]
theorem aw_w2 (b b' : List UInt8) (h : b.length = 64) (h' : b'.length = 64) : ((awD1 b).up [42] [] 1).writeC 0 b' = 6 := by
  simp [Dk.writeC, Dk.up, awD1, Dk.new, Dk.has, h', Dk.stepC, Dk.tear_len]
theorem aw_r (b : List UInt8) : ((awD1 b).up [42] [] 1).readC 1 = 0 ∧ ((awD1 b).up [42] [] 1).readB 1 = Dk.torn 42 (List.replicate 64 0) b := by
  have h1 : ((awD1 b).up [42] [] 1).readC 1 = 0 := by simp [Dk.readC, Dk.up, awD1, Dk.new, Dk.has, Dk.tear_len]
  refine ⟨h1, ?_⟩
  rw [Dk.readB, if_pos h1]
  rfl
theorem aw_t (b : List UInt8) : (Dk.torn 42 (List.replicate 64 0) b).getD 9 0 = b.getD 9 0 ∧ (Dk.torn 42 (List.replicate 64 0) b).getD 10 0 = 0 := by
  constructor
  · simp [Dk.torn]
  · simp [Dk.torn]
set_option maxHeartbeats 4000000 in
theorem awake_any (M : DC) (w : World) (hk : M.ok w) : Calls Try.prog 8 #[] w fun e w' => e = .returned (.bool true) ∧ Below w.heap.size w w' := by
  have HK := Lib.hid hk
  obtain ⟨N, hN⟩ : ∃ N, w.heap.size = N := ⟨_, rfl⟩
  obtain ⟨x5, hx5⟩ : ∃ x5, x5 = rowL 5 64 := ⟨_, rfl⟩
  obtain ⟨x1, hx1⟩ : ∃ x1, x1 = rowL 1 64 := ⟨_, rfl⟩
  have l5 : x5.length = 64 := by rw [hx5]; exact rowL_len _ _
  have l1 : x1.length = 64 := by rw [hx1]; exact rowL_len _ _
  have OKN := Lib.hid (show ∀ X, Below N w X → M.ok X from fun X hX => M.bel hk (by rw [hN]; exact hX))
  have C1 := Lib.hid (show ∀ X, Below N w X → Calls Try.prog 9 #[.int .i64 3] X fun e w' => ∃ g F, e = .returned (.tuple #[.pointer (some ⟨g, 0, none⟩), .int .i64 0]) ∧ M.Is N w' g (Dk.new 3) F ∧ (∀ b, F b → X.heap.size ≤ b) ∧ Below X.heap.size X w' from fun X hX => M.new N X 3 (OKN.out X hX) (by rw [← hN]; exact hX.size) (by omega) (by omega))
  have C2 := Lib.hid (show ∀ X, Below N w X → Calls Try.prog 9 #[.int .i64 257] X fun e w' => ∃ v, e = .returned (.tuple #[v, .int .i64 1]) ∧ Below X.heap.size X w' from fun X hX => M.newNot X 257 (OKN.out X hX) (by omega) (by omega) (by omega))
  have C3 := Lib.hid (show ∀ X, Calls Try.prog 16 #[.int .u8 5, .bool false] X (New X.heap.size X x5) from fun X => by rw [hx5]; exact row_any 5 false X)
  have C4 := Lib.hid (show ∀ X g F A c, Below N w X → M.Is N X g (Dk.new 3) F → Rd X A 64 c x5 → (∀ a, 0 < 64 → A = some a → ¬ F a.block) → Calls Try.prog 15 #[.pointer (some ⟨g, 0, none⟩), .int .i64 1, .slice A 64 c] X (Post M.Is N F g X (awD1 x5) (.int .i64 0)) from fun X g F A c hX hI hR hZ => by
    have h := M.write N X g (Dk.new 3) F 1 A 64 c x5 (OKN.out X hX) hI hR hZ (by simp [Dk.new])
    rw [(aw_w1 x5 l5).1, (aw_w1 x5 l5).2] at h
    exact h)
  have C5 := Lib.hid (show ∀ X g F, Below N w X → M.Is N X g (awD1 x5) F → Calls Try.prog 14 #[.pointer (some ⟨g, 0, none⟩)] X (Post M.Is N F g X (awD1 x5) (.tuple #[.int .i64 1, .int .i64 1])) from fun X g F hX hI => M.count N X g (awD1 x5) F (OKN.out X hX) hI)
  obtain ⟨D2, hD2⟩ : ∃ D2, D2 = (awD1 x5).up [42] [] 1 := ⟨_, rfl⟩
  have C6 := Lib.hid (show ∀ X g F b, Below N w X → M.Is N X g (awD1 x5) F → Rd X (some ⟨b, 0, none⟩) 1 1 [42] → ¬ F b → Calls Try.prog 18 #[.pointer (some ⟨g, 0, none⟩), .slice (some ⟨b, 0, none⟩) 1 1, .agg #[.slice none 0 0, .int .i64 1]] X fun e w' => e = .returned (.tuple #[]) ∧ ∃ F', M.Is N w' g D2 F' ∧ (∀ b, F' b → F b ∨ X.heap.size ≤ b) ∧ Mv N F X w' from fun X g F b hX hI hR hZ => (M.up N X g (awD1 x5) F _ 1 1 [42] none 0 0 [] 1 (OKN.out X hX) hI hR (fun a _ e => by cases e; exact hZ) (RI.nil_ _ _) (fun a h => absurd h (by decide)) (by decide)).mono (by
    rintro e w' ⟨h1, F', h2, h3, h4⟩
    refine ⟨h1, F', by rw [hD2]; exact h2, fun b hb => ?_, h4⟩
    rcases h3 b hb with h | h | h
    · exact .inl h
    · exact .inr h
    · obtain ⟨_, a, h, _⟩ := h; omega))
  obtain ⟨xr, hxr⟩ : ∃ xr, xr = Dk.torn 42 (List.replicate 64 0) x5 := ⟨_, rfl⟩
  have lr : xr.length = 64 := by rw [hxr]; exact Dk.torn_len _ _ _
  have C7 := Lib.hid (show ∀ X g F, Below N w X → M.Is N X g D2 F → Calls Try.prog 22 #[.pointer (some ⟨g, 0, none⟩), .int .i64 1] X fun e w' => ∃ A c F', e = .returned (.tuple #[.slice A 64 c, .int .i64 0]) ∧ Rd w' A 64 c xr ∧ (∀ a, 0 < 64 → A = some a → X.heap.size ≤ a.block ∧ ¬ F' a.block) ∧ M.Is N w' g D2 F' ∧ (∀ b, F' b → F b ∨ X.heap.size ≤ b) ∧ Mv N F X w' from fun X g F hX hI => by
    have h := M.read N X g D2 F 1 (OKN.out X hX) hI
    rw [show D2.readB 1 = xr by rw [hD2, hxr]; exact (aw_r x5).2, show D2.readC 1 = 0 by rw [hD2]; exact (aw_r x5).1, lr] at h
    exact h)
  have C8 := Lib.hid (show ∀ X, Calls Try.prog 16 #[.int .u8 1, .bool false] X (New X.heap.size X x1) from fun X => by rw [hx1]; exact row_any 1 false X)
  have C9 := Lib.hid (show ∀ X g F A c, Below N w X → M.Is N X g D2 F → Rd X A 64 c x1 → (∀ a, 0 < 64 → A = some a → ¬ F a.block) → Calls Try.prog 15 #[.pointer (some ⟨g, 0, none⟩), .int .i64 0, .slice A 64 c] X (Post M.Is N F g X (D2.write 0 x1) (.int .i64 6)) from fun X g F A c hX hI hR hZ => by
    have h := M.write N X g D2 F 0 A 64 c x1 (OKN.out X hX) hI hR hZ (by rw [hD2]; simp [Dk.up])
    rw [show D2.writeC 0 x1 = 6 by rw [hD2]; exact aw_w2 x5 x1 l5 l1] at h
    exact h)
  have v9 : xr.getD 9 0 = 14 := by rw [hxr, (aw_t x5).1, hx5, rowL_at _ _ _ (by omega)]; rfl
  have v10 : xr.getD 10 0 = 0 := by rw [hxr, (aw_t x5).2]
  have L5 := Lib.hid l5
  have L1 := Lib.hid l1
  have V9 := Lib.hid v9
  have V10 := Lib.hid v10
  generalize D2.write 0 x1 = D3 at *
  clear hk hx5 hx1 l5 l1 hD2 hxr lr v9 v10 OKN
  have hN0 := Lib.hid hN
  go_enter Try.func8, Try.ntmps8
  go_upto_region 1 with (fail)
  go_upto_region 5 with (first
    | (go_at_call 9; ((with_reducible refine (C1.out _ (Below.refl _ _)).mono ?_); rintro e w1 ⟨g, F1, rfl, i1, s1, b1⟩; have I1 := Lib.hid i1; have S1 := Lib.hid s1; have B1 := Lib.hid (b1.mono (Nat.le_of_eq hN0.out.symm)); clear i1 s1 b1))
    | (go_at_call 9; ((with_reducible refine (C2.out _ B1.out).mono ?_); rintro e w2 ⟨v2, rfl, b2⟩; have I2 := Lib.hid (M.grow I1.out b2); have B2 := Lib.hid (B1.out.trans (b2.mono (by have := B1.out.size; have := hN0.out; omega))); clear b2)))
  have B2' := Lib.hid (show ∀ X, Below w2.heap.size w2 X → Below N w X from fun X hX => B2.out.trans (hX.mono (by have := B2.out.size; have := hN0.out; omega)))
  go_upto_region 8 with (first
    | (go_at_call 16; ((with_reducible refine (C3.out _).mono ?_); rintro e w3 ⟨A3, n3, c3, rfl, q3, b3⟩; obtain rfl : n3 = 64 := (own_len q3).symm.trans L5.out; have R3 := Lib.hid (Rd.own q3); have Z3 := Lib.hid (own_off M I2.out q3); have I3 := Lib.hid (M.grow I2.out b3); have B3 := Lib.hid (B2'.out _ b3); clear q3 b3))
    | (go_at_call 15; ((with_reducible refine (C4.out _ g F1 A3 c3 B3.out I3.out R3.out Z3.out).mono ?_); rintro e w4 ⟨rfl, F4, i4, s4, m4⟩; have I4 := Lib.hid i4; have B4 := Lib.hid (B3.out.trans m4.bel); clear i4 s4 m4))
    | (go_at_call 14; ((with_reducible refine (C5.out _ g F4 B4.out I4.out).mono ?_); rintro e w5 ⟨rfl, F5, i5, s5, m5⟩; have I5 := Lib.hid i5; have B5 := Lib.hid (B4.out.trans m5.bel); clear i5 s5 m5))
    | (go_at_call 18; ((refine (C6.out (w5.alloc (.cells #[.int .u8 42] 5)) g F5 w5.heap.size (B5.out.alloc (by have := B5.out.size; have := hN0.out; omega) _) (M.grow I5.out ((Below.refl _ _).alloc (Nat.le_refl _) _)) (rd_litD w5 #[.int .u8 42] [42] rfl (by decide) _ rfl) (fun h => Nat.lt_irrefl _ (M.lt I5.out _ h).2)).mono ?_); rintro e w6 ⟨rfl, F6, i6, s6, m6⟩; have I6 := Lib.hid i6; have B6 := Lib.hid ((B5.out.alloc (by have := B5.out.size; have := hN0.out; omega) _).trans m6.bel); clear i6 s6 m6)))
  go_upto_region 10 with (first
    | (go_at_call 22; ((with_reducible refine (C7.out _ g F6 B6.out I6.out).mono ?_); rintro e w7 ⟨A7, c7, F7, rfl, r7, a7, i7, s7, m7⟩; have R7 := Lib.hid r7; have I7 := Lib.hid i7; have A7F := Lib.hid a7; have B7 := Lib.hid (B6.out.trans m7.bel); clear r7 i7 a7 s7 m7))
    | (go_at_call 16; ((with_reducible refine (C8.out _).mono ?_); rintro e w8 ⟨A8, n8, c8, rfl, q8, b8⟩; obtain rfl : n8 = 64 := (own_len q8).symm.trans L1.out; have R8 := Lib.hid (Rd.own q8); have Z8 := Lib.hid (own_off M I7.out q8); have I8 := Lib.hid (M.grow I7.out b8); have R78 := Lib.hid (R7.out.below b8); have B8 := Lib.hid (B7.out.trans (b8.mono (by have := B7.out.size; have := hN0.out; omega))); clear q8 b8))
    | (go_at_call 15; ((with_reducible refine (C9.out _ g F7 A8 c8 B8.out I8.out R8.out Z8.out).mono ?_); rintro e w9 ⟨rfl, F9, i9, s9, m9⟩; have R79 := Lib.hid (m9.rd R78.out fun a h1 h2 => (A7F.out a h1 h2).2); have B9 := Lib.hid (B8.out.trans m9.bel); clear i9 s9 m9)))
  obtain ⟨bb, off, rfl, k9⟩ := Rd.byte R79.out (i := 9) (by omega)
  obtain ⟨bb', off', e10, k10⟩ := Rd.byte R79.out (i := 10) (by omega)
  injection e10 with e10
  injection e10 with e10 e11
  subst e10 e11
  rw [V9.out] at k9
  rw [V10.out] at k10
  have k9' : w9.cell? ⟨bb, off + 9, none⟩ = some (.int .u8 14) := k9
  have k10' : w9.cell? ⟨bb, off + 10, none⟩ = some (.int .u8 0) := k10
  clear k9 k10
  go_wp2
  go_ret
  exact ⟨rfl, B9.out⟩
end Go.Proofs.Ytammgingmkdfhaa.S19
