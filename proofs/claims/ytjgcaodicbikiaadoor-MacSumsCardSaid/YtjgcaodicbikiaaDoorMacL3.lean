/-
  The call of the statement MacKeys of layer 6. (Written by genm3.py.)
-/
import Derived.Test.YtjgcaodicbikiaaDoorMacA
import Derived.Test.YtjgcaodicbikiaaDoorZeros
namespace Go.Proofs.YtjgcaodicbikiaaDoor.S6
set_option linter.unusedSimpArgs false
set_option linter.unusedVariables false
open Go.RowKit

set_option maxHeartbeats 4000000 in
set_option maxRecDepth 20000 in
theorem macKeys_walk (M : MC) (w : World) (hk : M.ok w) (q : Int) (wq : (Lit.int .u8 q).wf = true) (A : Option Addr) (n c : Nat) (key : List UInt8) (hr : Rd w A n c key) (At : Option Addr) (nt ct : Nat) (text : List UInt8) (ht : Rd w At nt ct text) (m : Int) :
    Calls Tryd.prog 4 #[.int .u8 q, .slice A n c, .agg #[.slice At nt ct, .int .i64 m]] w fun e w' => e = .returned (.bool true) ∧ Below w.heap.size w w' := by
  have HK := Lib.hid hk
  have HR := Lib.hid hr
  have HT := Lib.hid ht
  have lm : n ≤ maxLen := Nat.le_trans hr.cap hr.max
  have lt : nt ≤ maxLen := Nat.le_trans ht.cap ht.max
  unfold maxLen at lm lt
  have hkl := Lib.hid hr.len
  have HB0 := Lib.hid ((Below.refl w.heap.size w).alloc (Nat.le_refl _) (.cells #[.slice At nt ct, .int .i64 m] 24))
  have HKB := Lib.hid (M.bel hk HB0.out)
  have HX := Lib.hid (show Bk (w.alloc (.cells #[.slice At nt ct, .int .i64 m] 24)) w.heap.size 24 #[.slice At nt ct, .int .i64 m] from Bk.newAt _ _ _ _ rfl)
  have wq' : 0 ≤ q ∧ q ≤ 255 := by simpa [Lit.wf, IntKind.min, IntKind.max, IntKind.signed, IntKind.bits] using wq
  obtain ⟨Q, rfl⟩ := Int.eq_ofNat_of_zero_le wq'.1
  have hQ : Q < 256 := by omega
  obtain ⟨K, hK⟩ : ∃ K, K = Q % 2 := ⟨_, rfl⟩
  have k1 : (Q : Int) % 2 = (K : Int) := by omega
  have k2 : (Q : Int).tmod 2 = (K : Int) := by rw [Int.tmod_eq_emod_of_nonneg (by omega)]; exact k1
  have hK2 : K = 0 ∨ K = 1 := by omega
  obtain ⟨mo, hmo⟩ : ∃ mo : Nat, IntKind.u8.wrap m = (mo : Int) ∧ mo < 256 := by
    have h0 : IntKind.u8.wrap m = m % 256 := by rw [IntKind.wrap_u8]
    exact ⟨(m % 256).toNat, by rw [h0]; omega, by omega⟩
  obtain ⟨hmo1, hmo2⟩ := hmo
  have hmo3 : mo ≤ 300 := by omega
  have hbK : blK (K : Int) ≠ 0 := by rcases hK2 with h | h <;> subst h <;> decide
  have hs := szK_pos (K : Int) hbK
  obtain ⟨X, hX⟩ : ∃ X, X = macK K key text := ⟨_, rfl⟩
  obtain ⟨Y, hY⟩ : ∃ Y, Y = sumK K key := ⟨_, rfl⟩
  obtain ⟨ZA, hZA⟩ : ∃ Z, Z = maskK K text 300 := ⟨_, rfl⟩
  obtain ⟨ZB, hZB⟩ : ∃ Z, Z = maskK K text (mo : Int) := ⟨_, rfl⟩
  obtain ⟨SZ, hSZ⟩ : ∃ SZ, SZ = szK (K : Int) := ⟨_, rfl⟩
  obtain ⟨BL, hBL⟩ : ∃ BL, BL = blK (K : Int) := ⟨_, rfl⟩
  have LA := Lib.hid (show ZA.length = 300 by rw [hZA]; exact maskK_length K text 300 hbK (by omega) (by omega))
  have LB := Lib.hid (show ZB.length = mo by rw [hZB]; exact maskK_length K text mo hbK (by omega) (by omega))
  have HZ := Lib.hid (show ZB = ZA.take mo by rw [hZA, hZB]; exact (maskK_take K text 300 mo hbK (by omega) (by omega)).symm)
  have HSR := Lib.hid (show ∀ V, Calls Tryd.prog 10 #[.int .i64 (K : Int)] V fun e w' => e = .returned (.tuple #[.int .i64 (SZ : Nat), .int .i64 (BL : Nat)]) ∧ V = w' from fun V => by rw [hSZ, hBL]; exact rsize_any K V)
  rw [← hBL, ← hSZ] at hs
  have hBL2 : BL ≤ 128 := hs.2.2.2
  clear hr ht hk wq wq' hK k1
  have k1 : (Q : Int) % 2 = (K : Int) := by rw [← k2, Int.tmod_eq_emod_of_nonneg (by omega)]
  by_cases hn : n ≤ 1000
  · have i0 : ¬ 1000 < (n : Int) := by omega
    by_cases hnt : nt ≤ 1000
    · have i1 : ¬ 1000 < (nt : Int) := by omega
      have HC1 := Lib.hid (show ∀ V, M.ok V → Rd V A n c key → Rd V At nt ct text → Calls Tryd.prog 14 #[.int .i64 (K : Int), .slice A n c, .slice At nt ct] V (Gives V.heap.size V X) from fun V g h h' => by rw [hX]; exact M.mac K A n c key At nt ct text V g h h' (by omega) (by omega))
      have HD1 := Lib.hid (show ∀ V, M.ok V → Rd V At nt ct text → Calls Tryd.prog 16 #[.int .i64 (K : Int), .slice At nt ct, .int .i64 300] V (Gives V.heap.size V ZA) from fun V g h => by rw [hZA]; exact M.mask K At nt ct text 300 V g h (by omega))
      have HD2 := Lib.hid (show ∀ V, M.ok V → Rd V At nt ct text → Calls Tryd.prog 16 #[.int .i64 (K : Int), .slice At nt ct, .int .i64 (mo : Int)] V (Gives V.heap.size V ZB) from fun V g h => by rw [hZB]; exact M.mask K At nt ct text mo V g h (by omega))
      by_cases hlong : BL < n
      · have i2 : (BL : Int) < (n : Int) := by omega
        have HM1 := Lib.hid (show ∀ V, M.ok V → Rd V A n c key → Calls Tryd.prog 12 #[.int .i64 (K : Int), .slice A n c] V (Gives V.heap.size V Y) from fun V g h => by rw [hY]; exact M.sum K A n c key V g h (by omega))
        have HC2 := Lib.hid (show ∀ V B d, M.ok V → Rd V B Y.length d Y → Rd V At nt ct text → Calls Tryd.prog 14 #[.int .i64 (K : Int), .slice B Y.length d, .slice At nt ct] V (Gives V.heap.size V X) from fun V B d g h h' => by
          have h9 := M.mac K B Y.length d Y At nt ct text V g h h' (by rw [hY, sumK_length, ← hSZ]; omega) (by omega)
          rw [hX, ← macK_sum K key text (by rw [← hBL, hkl.out]; exact hlong), ← hY]; exact h9)
        clear hX hY hZA hZB hSZ hBL hbK hs hK2
        go_enter Tryd.func4, Tryd.ntmps4
        go_wp2_with (first
          | (go_at_call 8; ((with_reducible refine (awake_true M _ HKB.out).mono ?_); rintro e w1 ⟨rfl, b1⟩; have B1 := Lib.hid (HB0.out.trans (b1.mono HB0.out.size)); have cl0 : w1.cell? ⟨w.heap.size, 0, none⟩ = some (.slice At nt ct) := (HX.out.below b1 HX.out.lt).cell 0; have cl1 : w1.cell? ⟨w.heap.size, 1, none⟩ = some (.int .i64 m) := (HX.out.below b1 HX.out.lt).cell 1; clear b1))
          | (go_at_call 10; ((with_reducible refine (HSR.out _).mono ?_); rintro e w2 ⟨rfl, rfl⟩))
          | (go_at_call 14; ((with_reducible refine (HC1.out w1 (M.bel HK.out B1.out) (HR.out.below B1.out) (HT.out.below B1.out)).mono ?_); intro e w2 h2; obtain ⟨A2, c2, rfl, r2, b2⟩ := h2; have R2 := Lib.hid r2; have B2 := Lib.hid (B1.out.trans (b2.mono B1.out.size)); clear r2 b2))
          | (go_at_call 12; ((with_reducible refine (HM1.out w2 (M.bel HK.out B2.out) (HR.out.below B2.out)).mono ?_); intro e w3 h3; obtain ⟨A3, c3, rfl, r3, b3⟩ := h3; have R3 := Lib.hid r3; have Q3 := Lib.hid (R2.out.below b3); have B3 := Lib.hid (B2.out.trans (b3.mono B2.out.size)); clear r3 b3))
          | (go_at_call 14; ((with_reducible refine (HC2.out w3 A3 c3 (M.bel HK.out B3.out) R3.out (HT.out.below B3.out)).mono ?_); intro e w4 h4; obtain ⟨A4, c4, rfl, r4, b4⟩ := h4; have R4 := Lib.hid r4; have Q4 := Lib.hid (Q3.out.below b4); have B4 := Lib.hid (B3.out.trans (b4.mono B3.out.size)); clear r4 b4))
          | (go_at_call 11; ((with_reducible refine (rsame_true A2 A4 X.length c2 X.length c4 X X w4 Q4.out R4.out rfl).mono ?_); rintro e w5 ⟨rfl, b5⟩; have B5 := Lib.hid (B4.out.trans (b5.mono B4.out.size)); clear b5))
          | (go_at_call 16; ((with_reducible refine (HD1.out w5 (M.bel HK.out B5.out) (HT.out.below B5.out)).mono ?_); intro e wa ha; obtain ⟨Aa, ca, rfl, ra, ba⟩ := ha; rw [LA.out] at ra; rw [LA.out]; have Ra := Lib.hid ra; have Ba := Lib.hid (B5.out.trans (ba.mono B5.out.size)); have hcap := ra.cap; have hcs := fun W => run_cutSlH (A := Aa) (n := 300) (c := ca) (m := mo) (h := (mo : Int)) rfl (by omega) W; have hcs' := fun W => run_cutSlHAt (A := Aa) (n := 300) (c := ca) (m := mo) (h := (mo : Int)) rfl (by omega) W; clear ra ba hcap))
          | (go_at_call 16; ((with_reducible refine (HD2.out wa (M.bel HK.out Ba.out) (HT.out.below Ba.out)).mono ?_); intro e wb hb; obtain ⟨Ab, cb, rfl, rb, bb⟩ := hb; rw [LB.out] at rb; rw [LB.out]; have Rb := Lib.hid rb; have Qb := Lib.hid (Ra.out.below bb); have Bb := Lib.hid (Ba.out.trans (bb.mono Ba.out.size)); clear rb bb))
          | (go_at_call 11; ((with_reducible refine (rsame_true Ab Aa mo cb mo ca ZB (ZA.take mo) wb Rb.out (Qb.out.take hmo3) HZ.out).mono ?_); rintro e wz ⟨rfl, bz⟩; have Bz := Lib.hid (Bb.out.trans (bz.mono Bb.out.size)); clear bz)))
        go_ret
        exact ⟨rfl, Bz.out⟩
      · have i2 : ¬ (BL : Int) < (n : Int) := by omega
        have i5 : IntKind.i64.wrap ((n : Int) + (mo : Int)) = (n : Int) + (mo : Int) := by rw [IntKind.wrap_i64]; omega
        by_cases hpad : n + mo ≤ BL
        · have i3 : (n : Int) + (mo : Int) ≤ (BL : Int) := by omega
          have HC3 := Lib.hid (show ∀ V B d, M.ok V → Rd V B (n + mo) d (key ++ List.replicate mo 0) → Rd V At nt ct text → Calls Tryd.prog 14 #[.int .i64 (K : Int), .slice B (n + mo) d, .slice At nt ct] V (Gives V.heap.size V X) from fun V B d g h h' => by
            have h9 := M.mac K B (n + mo) d _ At nt ct text V g h h' (by omega) (by omega)
            rw [hX, ← macK_zeros K key text mo (by rw [← hBL, hkl.out]; exact hpad)]; exact h9)
          clear hX hY hZA hZB hSZ hBL hbK hs hK2
          go_enter Tryd.func4, Tryd.ntmps4
          go_wp2_with (first
            | (go_at_call 8; ((with_reducible refine (awake_true M _ HKB.out).mono ?_); rintro e w1 ⟨rfl, b1⟩; have B1 := Lib.hid (HB0.out.trans (b1.mono HB0.out.size)); have cl0 : w1.cell? ⟨w.heap.size, 0, none⟩ = some (.slice At nt ct) := (HX.out.below b1 HX.out.lt).cell 0; have cl1 : w1.cell? ⟨w.heap.size, 1, none⟩ = some (.int .i64 m) := (HX.out.below b1 HX.out.lt).cell 1; clear b1))
            | (go_at_call 10; ((with_reducible refine (HSR.out _).mono ?_); rintro e w2 ⟨rfl, rfl⟩))
            | (go_at_call 14; ((with_reducible refine (HC1.out w1 (M.bel HK.out B1.out) (HR.out.below B1.out) (HT.out.below B1.out)).mono ?_); intro e w2 h2; obtain ⟨A2, c2, rfl, r2, b2⟩ := h2; have R2 := Lib.hid r2; have B2 := Lib.hid (B1.out.trans (b2.mono B1.out.size)); clear r2 b2))
            | (at_builtin; refine append_rd rfl (.tmp 63) (.tmp 64) rfl w2.heap.size (.slice (some ⟨w2.heap.size, 0, none⟩) 0 0) 0 [] rfl (own_lit_u8 w2 w2.heap.size [] (Nat.le_refl _) (by simp [maxLen])) A n c key rfl ((HR.out.below B2.out).alloc _) (by omega) (by simp) ?_; intro v3 w3 o3 g3; have C3 := Lib.hid (((Below.refl w2.heap.size w2).alloc (Nat.le_refl _) _).grown g3 (by simp) (fun k hk => by simp [Value.ownBlock] at hk; omega)); have O3 := Lib.hid (own_n (show w3.ownsRow w2.heap.size 5 1 v3 (0 + n) (bv ([] ++ key)) from o3)); clear o3 g3)
            | (at_builtin; refine append_zr rfl (.tmp 65) (.tmp 67) rfl w2.heap.size v3 n key rfl O3.out mo rfl (by omega) C3.out.size ?_; intro v4 w4 o4 g4; have C4 := Lib.hid (C3.out.grown g4 C3.out.size (fun k hk => (O3.out.lt k hk).1)); have O4 := Lib.hid o4; clear o4 g4; obtain ⟨A4, c4, rfl⟩ := own_form O4.out; have B4 := Lib.hid (B2.out.trans (C4.out.mono B2.out.size)); have Q4 := Lib.hid (R2.out.below C4.out))
            | (go_at_call 14; ((with_reducible refine (HC3.out w4 A4 c4 (M.bel HK.out B4.out) (Rd.own O4.out) (HT.out.below B4.out)).mono ?_); intro e w5 h5; obtain ⟨A5, c5, rfl, r5, b5⟩ := h5; have R5 := Lib.hid r5; have Q5 := Lib.hid (Q4.out.below b5); have B5 := Lib.hid (B4.out.trans (b5.mono B4.out.size)); clear r5 b5))
            | (go_at_call 11; ((with_reducible refine (rsame_true A2 A5 X.length c2 X.length c5 X X w5 Q5.out R5.out rfl).mono ?_); rintro e w6 ⟨rfl, b6⟩; have B6 := Lib.hid (B5.out.trans (b6.mono B5.out.size)); clear b6))
            | (go_at_call 16; ((with_reducible refine (HD1.out w6 (M.bel HK.out B6.out) (HT.out.below B6.out)).mono ?_); intro e wa ha; obtain ⟨Aa, ca, rfl, ra, ba⟩ := ha; rw [LA.out] at ra; rw [LA.out]; have Ra := Lib.hid ra; have Ba := Lib.hid (B6.out.trans (ba.mono B6.out.size)); have hcap := ra.cap; have hcs := fun W => run_cutSlH (A := Aa) (n := 300) (c := ca) (m := mo) (h := (mo : Int)) rfl (by omega) W; have hcs' := fun W => run_cutSlHAt (A := Aa) (n := 300) (c := ca) (m := mo) (h := (mo : Int)) rfl (by omega) W; clear ra ba hcap))
            | (go_at_call 16; ((with_reducible refine (HD2.out wa (M.bel HK.out Ba.out) (HT.out.below Ba.out)).mono ?_); intro e wb hb; obtain ⟨Ab, cb, rfl, rb, bb⟩ := hb; rw [LB.out] at rb; rw [LB.out]; have Rb := Lib.hid rb; have Qb := Lib.hid (Ra.out.below bb); have Bb := Lib.hid (Ba.out.trans (bb.mono Ba.out.size)); clear rb bb))
            | (go_at_call 11; ((with_reducible refine (rsame_true Ab Aa mo cb mo ca ZB (ZA.take mo) wb Rb.out (Qb.out.take hmo3) HZ.out).mono ?_); rintro e wz ⟨rfl, bz⟩; have Bz := Lib.hid (Bb.out.trans (bz.mono Bb.out.size)); clear bz)))
          go_ret
          exact ⟨rfl, Bz.out⟩
        · have i3 : ¬ (n : Int) + (mo : Int) ≤ (BL : Int) := by omega
          clear hX hY hZA hZB hSZ hBL hbK hs hK2
          go_enter Tryd.func4, Tryd.ntmps4
          go_wp2_with (first
            | (go_at_call 8; ((with_reducible refine (awake_true M _ HKB.out).mono ?_); rintro e w1 ⟨rfl, b1⟩; have B1 := Lib.hid (HB0.out.trans (b1.mono HB0.out.size)); have cl0 : w1.cell? ⟨w.heap.size, 0, none⟩ = some (.slice At nt ct) := (HX.out.below b1 HX.out.lt).cell 0; have cl1 : w1.cell? ⟨w.heap.size, 1, none⟩ = some (.int .i64 m) := (HX.out.below b1 HX.out.lt).cell 1; clear b1))
            | (go_at_call 10; ((with_reducible refine (HSR.out _).mono ?_); rintro e w2 ⟨rfl, rfl⟩))
            | (go_at_call 14; ((with_reducible refine (HC1.out w1 (M.bel HK.out B1.out) (HR.out.below B1.out) (HT.out.below B1.out)).mono ?_); intro e w2 h2; obtain ⟨A2, c2, rfl, r2, b2⟩ := h2; have R2 := Lib.hid r2; have B2 := Lib.hid (B1.out.trans (b2.mono B1.out.size)); clear r2 b2))
            | (go_at_call 16; ((with_reducible refine (HD1.out w2 (M.bel HK.out B2.out) (HT.out.below B2.out)).mono ?_); intro e wa ha; obtain ⟨Aa, ca, rfl, ra, ba⟩ := ha; rw [LA.out] at ra; rw [LA.out]; have Ra := Lib.hid ra; have Ba := Lib.hid (B2.out.trans (ba.mono B2.out.size)); have hcap := ra.cap; have hcs := fun W => run_cutSlH (A := Aa) (n := 300) (c := ca) (m := mo) (h := (mo : Int)) rfl (by omega) W; have hcs' := fun W => run_cutSlHAt (A := Aa) (n := 300) (c := ca) (m := mo) (h := (mo : Int)) rfl (by omega) W; clear ra ba hcap))
            | (go_at_call 16; ((with_reducible refine (HD2.out wa (M.bel HK.out Ba.out) (HT.out.below Ba.out)).mono ?_); intro e wb hb; obtain ⟨Ab, cb, rfl, rb, bb⟩ := hb; rw [LB.out] at rb; rw [LB.out]; have Rb := Lib.hid rb; have Qb := Lib.hid (Ra.out.below bb); have Bb := Lib.hid (Ba.out.trans (bb.mono Ba.out.size)); clear rb bb))
            | (go_at_call 11; ((with_reducible refine (rsame_true Ab Aa mo cb mo ca ZB (ZA.take mo) wb Rb.out (Qb.out.take hmo3) HZ.out).mono ?_); rintro e wz ⟨rfl, bz⟩; have Bz := Lib.hid (Bb.out.trans (bz.mono Bb.out.size)); clear bz)))
          go_ret
          exact ⟨rfl, Bz.out⟩
    · have i1 : 1000 < (nt : Int) := by omega
      clear hX hY hZA hZB hSZ hBL hbK hs hK2
      go_enter Tryd.func4, Tryd.ntmps4
      go_wp2_with (first
        | (go_at_call 8; ((with_reducible refine (awake_true M _ HKB.out).mono ?_); rintro e w1 ⟨rfl, b1⟩; have B1 := Lib.hid (HB0.out.trans (b1.mono HB0.out.size)); have cl0 : w1.cell? ⟨w.heap.size, 0, none⟩ = some (.slice At nt ct) := (HX.out.below b1 HX.out.lt).cell 0; have cl1 : w1.cell? ⟨w.heap.size, 1, none⟩ = some (.int .i64 m) := (HX.out.below b1 HX.out.lt).cell 1; clear b1)))
      go_ret
      exact ⟨rfl, B1.out⟩
  · have i0 : 1000 < (n : Int) := by omega
    clear hX hY hZA hZB hSZ hBL hbK hs hK2
    go_enter Tryd.func4, Tryd.ntmps4
    go_wp2_with (first
      | (go_at_call 8; ((with_reducible refine (awake_true M _ HKB.out).mono ?_); rintro e w1 ⟨rfl, b1⟩; have B1 := Lib.hid (HB0.out.trans (b1.mono HB0.out.size)); have cl0 : w1.cell? ⟨w.heap.size, 0, none⟩ = some (.slice At nt ct) := (HX.out.below b1 HX.out.lt).cell 0; have cl1 : w1.cell? ⟨w.heap.size, 1, none⟩ = some (.int .i64 m) := (HX.out.below b1 HX.out.lt).cell 1; clear b1)))
    go_ret
    exact ⟨rfl, B1.out⟩
end Go.Proofs.YtjgcaodicbikiaaDoor.S6
