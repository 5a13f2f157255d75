/-
  The call of the statement MacParts of layer 6. (Written by genm4.py.)
-/
import Derived.Test.YtjgcaodicbikiaaDoorMacA
import Derived.Test.YtjgcaodicbikiaaDoorZeros
namespace Go.Proofs.YtjgcaodicbikiaaDoor.S6
set_option linter.unusedSimpArgs false
set_option linter.unusedVariables false
open Go.RowKit

set_option maxHeartbeats 4000000 in
set_option maxRecDepth 20000 in
theorem macParts_walk (M : MC) (w : World) (hk : M.ok w) (q : Int) (wq : (Lit.int .u8 q).wf = true) (A : Option Addr) (n c : Nat) (text : List UInt8) (hr : Rd w A n c text) (i : Int) (wi : (Lit.int .u8 i).wf = true) :
    Calls Tryd.prog 5 #[.int .u8 q, .slice A n c, .int .u8 i] w fun e w' => e = .returned (.bool true) ∧ Below w.heap.size w w' := by
  obtain ⟨i00, hi0, hz0, hz1, hz2⟩ := info_parts Tryd.infoU8
  have HK := Lib.hid hk
  have HR := Lib.hid hr
  have lm : n ≤ maxLen := Nat.le_trans hr.cap hr.max
  unfold maxLen at lm
  have wq' : 0 ≤ q ∧ q ≤ 255 := by simpa [Lit.wf, IntKind.min, IntKind.max, IntKind.signed, IntKind.bits] using wq
  have wi' : 0 ≤ i ∧ i ≤ 255 := by simpa [Lit.wf, IntKind.min, IntKind.max, IntKind.signed, IntKind.bits] using wi
  obtain ⟨Q, rfl⟩ := Int.eq_ofNat_of_zero_le wq'.1
  obtain ⟨J, rfl⟩ := Int.eq_ofNat_of_zero_le wi'.1
  have hQ : Q < 256 := by omega
  have hJ : J < 256 := by omega
  obtain ⟨K, hK⟩ : ∃ K, K = Q % 2 := ⟨_, rfl⟩
  obtain ⟨N, hN⟩ : ∃ N, N = J % 5 := ⟨_, rfl⟩
  have k2 : (Q : Int).tmod 2 = (K : Int) := by rw [Int.tmod_eq_emod_of_nonneg (by omega)]; omega
  have n2 : (J : Int).tmod 5 = (N : Int) := by rw [Int.tmod_eq_emod_of_nonneg (by omega)]; omega
  have hK2 : K = 0 ∨ K = 1 := by omega
  have hN5 : N < 5 := by omega
  have hbK : blK (K : Int) ≠ 0 := by rcases hK2 with h | h <;> subst h <;> decide
  have hs := szK_pos (K : Int) hbK
  obtain ⟨X, hX⟩ : ∃ X, X = macK K [] text := ⟨_, rfl⟩
  obtain ⟨SZ, hSZ⟩ : ∃ SZ, SZ = szK (K : Int) := ⟨_, rfl⟩
  obtain ⟨BL, hBL⟩ : ∃ BL, BL = blK (K : Int) := ⟨_, rfl⟩
  rw [← hBL, ← hSZ] at hs
  obtain ⟨hs1, hs2, hs3, hs4⟩ := hs
  obtain ⟨ZA, hZA⟩ : ∃ Z, Z = maskK K text ((5 * SZ : Nat) : Int) := ⟨_, rfl⟩
  obtain ⟨P, hP⟩ : ∃ P, P = sumK K (text ++ putL N 4) := ⟨_, rfl⟩
  have LX := Lib.hid (show X.length = SZ by rw [hX, hSZ]; exact macK_length K [] text hbK)
  obtain ⟨F5, hF5⟩ : ∃ F5, F5 = 5 * SZ := ⟨_, rfl⟩
  obtain ⟨LN, hLN0⟩ : ∃ LN, LN = N * SZ := ⟨_, rfl⟩
  have hLN : (N : Int) * (SZ : Int) = (LN : Int) := by rw [hLN0]; simp
  have hLN1 : LN + SZ ≤ F5 := by
    have h := Nat.mul_le_mul_right SZ (show N + 1 ≤ 5 by omega)
    rw [Nat.succ_mul, ← hLN0, ← hF5] at h
    exact h
  have hHN : ((N : Int) + 1) * (SZ : Int) = (LN : Int) + (SZ : Int) := by rw [Int.add_mul, hLN, Int.one_mul]
  have f6 : (F5 : Int) = 5 * (SZ : Int) := by rw [hF5]; simp
  have HP4 := Lib.hid (show (#[.int .u8 0, .int .u8 0, .int .u8 0, .int .u8 (N : Int)] : Array Value).toList = bv (putL N 4) by
    have : N = 0 ∨ N = 1 ∨ N = 2 ∨ N = 3 ∨ N = 4 := by omega
    rcases this with h | h | h | h | h <;> subst h <;> rfl)
  have LA := Lib.hid (show ZA.length = F5 by rw [hF5]; rw [hZA, maskK_length K text _ hbK (by omega) (by omega), Int.toNat_natCast])
  have LP := Lib.hid (show P.length = SZ by rw [hP, hSZ]; exact sumK_length _ _)
  have HZ := Lib.hid (show ((ZA.drop LN).take SZ) = P by rw [hLN0, hZA, hP, hSZ]; exact mask_part K text 5 N hbK (by omega) hN5)
  clear hr hk wq wq' wi wi' hK hN
  have k1 : (Q : Int) % 2 = (K : Int) := by rw [← k2, Int.tmod_eq_emod_of_nonneg (by omega)]
  have n1 : (J : Int) % 5 = (N : Int) := by rw [← n2, Int.tmod_eq_emod_of_nonneg (by omega)]
  have HS := Lib.hid (show ∀ V, M.ok V → Calls Tryd.prog 9 #[.int .i64 (K : Int)] V fun e w' => e = .returned (.tuple #[.int .i64 (SZ : Nat), .int .i64 (BL : Nat)]) ∧ Below V.heap.size V w' from fun V g => by rw [hSZ, hBL]; exact M.size K V g)
  by_cases hn : n ≤ 500
  · have i0 : ¬ 500 < (n : Int) := by omega
    have HC1 := Lib.hid (show ∀ V, M.ok V → Rd V A n c text → Calls Tryd.prog 14 #[.int .i64 (K : Int), .slice none 0 0, .slice A n c] V (Gives V.heap.size V X) from fun V g h => by rw [hX]; exact M.mac K none 0 0 [] A n c text V g (Rd.nil_ V) h (by omega) (by omega))
    have HC2 := Lib.hid (show ∀ V B d, M.ok V → Rd V B BL d (List.replicate BL 0) → Rd V A n c text → Calls Tryd.prog 14 #[.int .i64 (K : Int), .slice B BL d, .slice A n c] V (Gives V.heap.size V X) from fun V B d g h h' => by
      have h9 := M.mac K B BL d _ A n c text V g h h' (by omega) (by omega)
      rw [hX, ← macK_zeros K [] text BL (by rw [← hBL]; simp), List.nil_append]; exact h9)
    have HD1 := Lib.hid (show ∀ V, M.ok V → Rd V A n c text → Calls Tryd.prog 16 #[.int .i64 (K : Int), .slice A n c, .int .i64 (5 * (SZ : Int))] V (Gives V.heap.size V ZA) from fun V g h => by rw [hZA]; exact M.mask K A n c text ((5 * SZ : Nat) : Int) V g h (by omega))
    have HM1 := Lib.hid (show ∀ V B d, M.ok V → Rd V B (n + 4) d (text ++ putL N 4) → Calls Tryd.prog 12 #[.int .i64 (K : Int), .slice B (n + 4) d] V (Gives V.heap.size V P) from fun V B d g h => by rw [hP]; exact M.sum K B (n + 4) d _ V g h (by omega))
    have wN : IntKind.u8.wrap (N : Int) = (N : Int) := by rw [IntKind.wrap_u8]; omega
    have w1N : IntKind.i64.wrap ((N : Int) + 1) = (N : Int) + 1 := by rw [IntKind.wrap_i64]; omega
    have w2N : IntKind.i64.wrap ((N : Int) * (SZ : Int)) = (N : Int) * (SZ : Int) := by rw [hLN, IntKind.wrap_i64]; omega
    have w3N : IntKind.i64.wrap (((N : Int) + 1) * (SZ : Int)) = ((N : Int) + 1) * (SZ : Int) := by rw [hHN, IntKind.wrap_i64]; omega
    have f5 : IntKind.i64.wrap (5 * (SZ : Int)) = 5 * (SZ : Int) := by rw [IntKind.wrap_i64]; omega
    clear hX hZA hSZ hBL hbK hK2 hP hLN0 hF5
    go_enter Tryd.func5, Tryd.ntmps5
    go_wp2_with (first
      | (go_at_call 8; ((with_reducible refine (awake_true M _ HK.out).mono ?_); rintro e w1 ⟨rfl, b1⟩; have B1 := Lib.hid b1; clear b1))
      | (go_at_call 9; ((with_reducible refine (HS.out _ (M.bel HK.out B1.out)).mono ?_); rintro e w2 ⟨rfl, b2⟩; have B2 := Lib.hid (B1.out.trans (b2.mono B1.out.size)); clear b2))
      | (go_at_call 14; ((with_reducible refine (HC1.out w2 (M.bel HK.out B2.out) (HR.out.below B2.out)).mono ?_); intro e w3 h3; obtain ⟨A3, c3, rfl, r3, b3⟩ := h3; rw [LX.out] at r3; rw [LX.out]; have R3 := Lib.hid r3; have B3 := Lib.hid (B2.out.trans (b3.mono B2.out.size)); clear r3 b3))
      | (at_make; refine wpList_make_full _ rfl _ _ 22 rfl w3.heap.size 5 i00 (.int .u8 0) 1 Tryd.underlying22 hi0 hz0 hz1 _ _ _ _ BL rfl rfl rfl rfl (by rw [hz2]; omega) (by unfold maxLen; omega) (Nat.le_refl _) ?_; intro w4 o4 g4; have C4 := Lib.hid ((Below.refl w3.heap.size w3).grown g4 (Nat.le_refl _) (fun k h => by cases h)); have B4 := Lib.hid (B3.out.trans (C4.out.mono B3.out.size)); have Q4 := Lib.hid (R3.out.below C4.out); have O4 := Lib.hid (show w4.ownsRow w3.heap.size 5 1 (.slice (some ⟨w3.heap.size, 0, none⟩) BL BL) BL (bv (List.replicate BL 0)) by have h := o4; rw [Nat.mul_one] at h; rw [← bv_zero]; exact h); clear o4 g4)
      | (go_at_call 14; ((with_reducible refine (HC2.out w4 (some ⟨w3.heap.size, 0, none⟩) BL (M.bel HK.out B4.out) (Rd.own O4.out) (HR.out.below B4.out)).mono ?_); intro e w5 h5; obtain ⟨A5, c5, rfl, r5, b5⟩ := h5; rw [LX.out] at r5; rw [LX.out]; have R5 := Lib.hid r5; have Q5 := Lib.hid (Q4.out.below b5); have B5 := Lib.hid (B4.out.trans (b5.mono B4.out.size)); clear r5 b5))
      | (go_at_call 16; ((with_reducible refine (HD1.out w5 (M.bel HK.out B5.out) (HR.out.below B5.out)).mono ?_); intro e w6 h6; obtain ⟨A6, c6, rfl, r6, b6⟩ := h6; rw [LA.out] at r6; rw [LA.out]; have R6 := Lib.hid r6; have QA6 := Lib.hid (Q5.out.below b6); have QB6 := Lib.hid (R5.out.below b6); have B6 := Lib.hid (B5.out.trans (b6.mono B5.out.size)); clear r6 b6))
      | (at_builtin; refine append_rd rfl (.tmp 56) (.tmp 57) rfl w6.heap.size (.slice (some ⟨w6.heap.size, 0, none⟩) 0 0) 0 [] rfl (own_lit_u8 w6 w6.heap.size [] (Nat.le_refl _) (by simp [maxLen])) A n c text rfl ((HR.out.below B6.out).alloc _) (by omega) (by simp) ?_; intro v7 w7 o7 g7; have C7 := Lib.hid (((Below.refl w6.heap.size w6).alloc (Nat.le_refl _) _).grown g7 (by simp) (fun k hk => by simp [Value.ownBlock] at hk; omega)); have O7 := Lib.hid (own_n (show w7.ownsRow w6.heap.size 5 1 v7 (0 + n) (bv ([] ++ text)) from o7)); have hl7 := Lib.hid (show Rd (w7.alloc (.cells #[.int .u8 0, .int .u8 0, .int .u8 0, .int .u8 (N : Int)] 5)) (some ⟨w7.heap.size, 0, none⟩) 4 4 (putL N 4) by have h := rd_lit w7 #[.int .u8 0, .int .u8 0, .int .u8 0, .int .u8 (N : Int)] (putL N 4) HP4.out (by rw [putL_length]; simp [maxLen]) _ rfl; rwa [putL_length] at h); clear o7 g7)
      | (at_builtin; refine append_rd rfl (.tmp 58) (.tmp 61) rfl w6.heap.size v7 n text rfl (own_below O7.out ((Below.refl _ _).alloc (Nat.le_refl _) _)) (some ⟨w7.heap.size, 0, none⟩) 4 4 (putL N 4) rfl hl7.out (by omega) (by have := C7.out.size; simp; omega) ?_; intro v8 w8 o8 g8; have C8 := Lib.hid ((C7.out.alloc C7.out.size _).grown g8 (by have := C7.out.size; simp; omega) (fun k hk => (O7.out.lt k hk).1)); have O8 := Lib.hid o8; clear o8 g8; obtain ⟨A8, c8, rfl⟩ := own_form O8.out; have B8 := Lib.hid (B6.out.trans (C8.out.mono B6.out.size)))
      | (go_at_call 12; ((with_reducible refine (HM1.out w8 A8 c8 (M.bel HK.out B8.out) (Rd.own O8.out)).mono ?_); intro e w9 h9; obtain ⟨A9, c9, rfl, r9, b9⟩ := h9; rw [LP.out] at r9; rw [LP.out]; have R9 := Lib.hid r9; have B9 := Lib.hid (B8.out.trans (b9.mono B8.out.size)); have QA9 := Lib.hid ((QA6.out.below C8.out).below b9); have QB9 := Lib.hid ((QB6.out.below C8.out).below b9); have QM9 := Lib.hid ((R6.out.below C8.out).below b9); have hcap := R6.out.cap; obtain ⟨AD, hAD⟩ : ∃ AD, AD = (if c6 = LN then A6 else A6.map (·.add LN)) := ⟨_, rfl⟩; have HAD := Lib.hid hAD; have hcs := fun W => run_cutSlLH (A := A6) (n := F5) (c := c6) (l' := LN) (m := SZ) (l := (LN : Int)) (h := (LN : Int) + (SZ : Int)) rfl rfl (by omega) W; have hcs' := fun W => run_cutSlLHAt (A := A6) (n := F5) (c := c6) (l' := LN) (m := SZ) (l := (LN : Int)) (h := (LN : Int) + (SZ : Int)) rfl rfl (by omega) W; rw [← hAD] at hcs hcs'; clear hAD r9 b9 hcap))
      | (go_at_call 11; ((with_reducible refine (rsame_true A3 A5 SZ c3 SZ c5 X X w9 QA9.out QB9.out rfl).mono ?_); rintro e w10 ⟨rfl, b10⟩; have B10 := Lib.hid (B9.out.trans (b10.mono B9.out.size)); have R10 := Lib.hid (R9.out.below b10); have QM10 := Lib.hid (QM9.out.below b10); clear b10))
      | (go_at_call 11; ((with_reducible refine (rsame_true AD A9 SZ (c6 - LN) SZ c9 ((ZA.drop LN).take SZ) P w10 (by rw [HAD.out]; exact (QM10.out.cut (k := LN) (by omega)).take (by omega)) R10.out HZ.out).mono ?_); rintro e w11 ⟨rfl, b11⟩; have B11 := Lib.hid (B10.out.trans (b11.mono B10.out.size)); clear b11)))
    go_ret
    exact ⟨rfl, B11.out⟩
  · have i0 : 500 < (n : Int) := by omega
    clear hX hZA hSZ hBL hbK hK2 hP hLN0 hF5
    go_enter Tryd.func5, Tryd.ntmps5
    go_wp2_with (first
      | (go_at_call 8; ((with_reducible refine (awake_true M _ HK.out).mono ?_); rintro e w1 ⟨rfl, b1⟩; have B1 := Lib.hid b1; clear b1)))
    go_ret
    exact ⟨rfl, B1.out⟩
end Go.Proofs.YtjgcaodicbikiaaDoor.S6
