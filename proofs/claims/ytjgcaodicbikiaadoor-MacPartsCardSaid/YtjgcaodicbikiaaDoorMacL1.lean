/-
  The calls of the statements MacSums and MacKinds of layer 6. (Written by genm1.py.)
-/
import Derived.Test.YtjgcaodicbikiaaDoorMacA
namespace Go.Proofs.YtjgcaodicbikiaaDoor.S6
set_option linter.unusedSimpArgs false
set_option linter.unusedVariables false
open Go.RowKit

set_option maxHeartbeats 4000000 in
set_option maxRecDepth 20000 in
theorem macSums_walk (M : MC) (w : World) (hk : M.ok w) (k : Int) (A : Option Addr) (n c : Nat) (key : List UInt8) (hr : Rd w A n c key) (At : Option Addr) (nt ct : Nat) (text : List UInt8) (ht : Rd w At nt ct text) (m : Int) :
    Calls Tryd.prog 3 #[.int .i64 k, .slice A n c, .agg #[.slice At nt ct, .int .i64 m]] w fun e w' => e = .returned (.bool true) ∧ Below w.heap.size w w' := by
  have HK := Lib.hid hk
  have HR := Lib.hid hr
  have HT := Lib.hid ht
  have lm : n ≤ maxLen := Nat.le_trans hr.cap hr.max
  have lt : nt ≤ maxLen := Nat.le_trans ht.cap ht.max
  unfold maxLen at lm lt
  have HB0 := Lib.hid ((Below.refl w.heap.size w).alloc (Nat.le_refl _) (.cells #[.slice At nt ct, .int .i64 m] 24))
  have HKB := Lib.hid (M.bel hk HB0.out)
  have HX := Lib.hid (show Bk (w.alloc (.cells #[.slice At nt ct, .int .i64 m] 24)) w.heap.size 24 #[.slice At nt ct, .int .i64 m] from Bk.newAt _ _ _ _ rfl)
  obtain ⟨U, hU⟩ : ∃ U, U = sumK k text := ⟨_, rfl⟩
  obtain ⟨V, hV⟩ : ∃ V, V = macK k key text := ⟨_, rfl⟩
  obtain ⟨W, hW⟩ : ∃ W, W = maskK k text m := ⟨_, rfl⟩
  obtain ⟨SZ, hSZ⟩ : ∃ SZ, SZ = szK k := ⟨_, rfl⟩
  obtain ⟨BL, hBL⟩ : ∃ BL, BL = blK k := ⟨_, rfl⟩
  have HS := Lib.hid (show ∀ X, M.ok X → Calls Tryd.prog 9 #[.int .i64 k] X fun e w' => e = .returned (.tuple #[.int .i64 (SZ : Nat), .int .i64 (BL : Nat)]) ∧ Below X.heap.size X w' from fun X g => by rw [hSZ, hBL]; exact M.size k X g)
  have HSR := Lib.hid (show ∀ X, Calls Tryd.prog 10 #[.int .i64 k] X fun e w' => e = .returned (.tuple #[.int .i64 (SZ : Nat), .int .i64 (BL : Nat)]) ∧ X = w' from fun X => by rw [hSZ, hBL]; exact rsize_any k X)
  clear hr ht hk
  by_cases hn : n ≤ 1000
  · have i0 : ¬ 1000 < (n : Int) := by omega
    by_cases hnt : nt ≤ 1000
    · have i1 : ¬ 1000 < (nt : Int) := by omega
      have HM1 := Lib.hid (show ∀ X, M.ok X → Rd X At nt ct text → Calls Tryd.prog 12 #[.int .i64 k, .slice At nt ct] X (Gives X.heap.size X U) from fun X g h => by rw [hU]; exact M.sum k At nt ct text X g h (by omega))
      have HM2 := Lib.hid (show ∀ X, Rd X At nt ct text → Calls Tryd.prog 13 #[.int .i64 k, .slice At nt ct] X (New X.heap.size X U) from fun X h => by rw [hU]; exact rsum_any k At nt ct text X h (by omega))
      have HC1 := Lib.hid (show ∀ X B d, M.ok X → Rd X B n d key → Rd X At nt ct text → Calls Tryd.prog 14 #[.int .i64 k, .slice B n d, .slice At nt ct] X (Gives X.heap.size X V) from fun X B d g h h' => by rw [hV]; exact M.mac k B n d key At nt ct text X g h h' (by omega) (by omega))
      have HC2 := Lib.hid (show ∀ X, Rd X A n c key → Rd X At nt ct text → Calls Tryd.prog 15 #[.int .i64 k, .slice A n c, .slice At nt ct] X (New X.heap.size X V) from fun X h h' => by rw [hV]; exact rmac_any k A n c key At nt ct text X h h' (by omega) (by omega))
      have HD1 := Lib.hid (show ∀ X, M.ok X → Rd X At nt ct text → Calls Tryd.prog 16 #[.int .i64 k, .slice At nt ct, .int .i64 m] X (Gives X.heap.size X W) from fun X g h => by rw [hW]; exact M.mask k At nt ct text m X g h (by omega))
      have HD2 := Lib.hid (show ∀ X, Rd X At nt ct text → Calls Tryd.prog 17 #[.int .i64 k, .slice At nt ct, .int .i64 m] X (Gives X.heap.size X W) from fun X h => by rw [hW]; exact rmask_any k At nt ct text m X h (by omega))
      clear hU hV hW hSZ hBL
      by_cases h2 : 1000 < m
      · by_cases h3 : m ≤ 65536
        · go_enter Tryd.func3, Tryd.ntmps3
          go_wp2_with (go_at_call 8; ((with_reducible refine (awake_true M _ HKB.out).mono ?_); rintro e w1 ⟨rfl, b1⟩; have B1 := Lib.hid (HB0.out.trans (b1.mono HB0.out.size)); have cl0 : w1.cell? ⟨w.heap.size, 0, none⟩ = some (.slice At nt ct) := (HX.out.below b1 HX.out.lt).cell 0; have cl1 : w1.cell? ⟨w.heap.size, 1, none⟩ = some (.int .i64 m) := (HX.out.below b1 HX.out.lt).cell 1; clear b1))
          go_ret
          exact ⟨rfl, B1.out⟩
        · go_enter Tryd.func3, Tryd.ntmps3
          go_wp2_with (first
            | (go_at_call 8; ((with_reducible refine (awake_true M _ HKB.out).mono ?_); rintro e w1 ⟨rfl, b1⟩; have B1 := Lib.hid (HB0.out.trans (b1.mono HB0.out.size)); have cl0 : w1.cell? ⟨w.heap.size, 0, none⟩ = some (.slice At nt ct) := (HX.out.below b1 HX.out.lt).cell 0; have cl1 : w1.cell? ⟨w.heap.size, 1, none⟩ = some (.int .i64 m) := (HX.out.below b1 HX.out.lt).cell 1; clear b1))
            | (at_builtin; refine append_rd rfl (.tmp 36) (.tmp 37) rfl w1.heap.size (.slice (some ⟨w1.heap.size, 0, none⟩) 0 0) 0 [] rfl (own_lit_u8 w1 w1.heap.size [] (Nat.le_refl _) (by simp [maxLen])) A n c key rfl ((HR.out.below B1.out).alloc _) (by omega) (by simp) ?_; intro v2 w2 o2 g2; have B2 := Lib.hid ((B1.out.alloc B1.out.size _).grown g2 (by have := B1.out.size; simp; omega) (fun k hk => by have := B1.out.size; simp [Value.ownBlock] at hk; omega)); have O2 := Lib.hid (own_n (show w2.ownsRow w1.heap.size 5 1 v2 (0 + n) (bv ([] ++ key)) from o2)); clear o2 g2; obtain ⟨A2, c2, rfl⟩ := own_form O2.out; have RO := Lib.hid (Rd.own O2.out))
            | (go_at_call 9; ((with_reducible refine (HS.out _ (M.bel HK.out B2.out)).mono ?_); rintro e w3 ⟨rfl, b3⟩; have B3 := Lib.hid (B2.out.trans (b3.mono B2.out.size)); have C3 := Lib.hid b3; clear b3))
            | (go_at_call 10; ((with_reducible refine (HSR.out _).mono ?_); rintro e w4 ⟨rfl, rfl⟩))
            | (go_at_call 12; ((with_reducible refine (HM1.out _ (M.bel HK.out B3.out) (HT.out.below B3.out)).mono ?_); intro e w4 h4; obtain ⟨A4, c4, rfl, r4, b4⟩ := h4; have R4 := Lib.hid r4; have B4 := Lib.hid (B3.out.trans (b4.mono B3.out.size)); have C4 := Lib.hid (C3.out.trans (b4.mono C3.out.size)); clear r4 b4))
            | (go_at_call 13; ((with_reducible refine (HM2.out _ (HT.out.below B4.out)).mono ?_); intro e w5 h5; obtain ⟨A5, c5, rfl, r5, b5⟩ := new_len h5; have R5 := Lib.hid r5; have Q5 := Lib.hid (R4.out.below b5); have B5 := Lib.hid (B4.out.trans (b5.mono B4.out.size)); have C5 := Lib.hid (C4.out.trans (b5.mono C4.out.size)); clear h5 r5 b5))
            | (go_at_call 11; ((with_reducible refine (rsame_true A4 A5 U.length c4 U.length c5 U U w5 Q5.out R5.out rfl).mono ?_); rintro e w6 ⟨rfl, b6⟩; have B6 := Lib.hid (B5.out.trans (b6.mono B5.out.size)); have C6 := Lib.hid (C5.out.trans (b6.mono C5.out.size)); clear b6))
            | (go_at_call 14; ((with_reducible refine (HC1.out _ A2 c2 (M.bel HK.out B6.out) (RO.out.below C6.out) (HT.out.below B6.out)).mono ?_); intro e w7 h7; obtain ⟨A7, c7, rfl, r7, b7⟩ := h7; have R7 := Lib.hid r7; have B7 := Lib.hid (B6.out.trans (b7.mono B6.out.size)); have C7 := Lib.hid (C6.out.trans (b7.mono C6.out.size)); clear r7 b7))
            | (go_at_call 15; ((with_reducible refine (HC2.out _ (HR.out.below B7.out) (HT.out.below B7.out)).mono ?_); intro e w8 h8; obtain ⟨A8, c8, rfl, r8, b8⟩ := new_len h8; have R8 := Lib.hid r8; have Q8 := Lib.hid (R7.out.below b8); have B8 := Lib.hid (B7.out.trans (b8.mono B7.out.size)); have C8 := Lib.hid (C7.out.trans (b8.mono C7.out.size)); clear h8 r8 b8))
            | (go_at_call 11; ((with_reducible refine (rsame_true A7 A8 V.length c7 V.length c8 V V w8 Q8.out R8.out rfl).mono ?_); rintro e w9 ⟨rfl, b9⟩; have B9 := Lib.hid (B8.out.trans (b9.mono B8.out.size)); have C9 := Lib.hid (C8.out.trans (b9.mono C8.out.size)); clear b9))
            | (go_at_call 16; ((with_reducible refine (HD1.out _ (M.bel HK.out B9.out) (HT.out.below B9.out)).mono ?_); intro e w10 h10; obtain ⟨A10, c10, rfl, r10, b10⟩ := h10; have R10 := Lib.hid r10; have B10 := Lib.hid (B9.out.trans (b10.mono B9.out.size)); have C10 := Lib.hid (C9.out.trans (b10.mono C9.out.size)); clear r10 b10))
            | (go_at_call 17; ((with_reducible refine (HD2.out _ (HT.out.below B10.out)).mono ?_); intro e w11 h11; obtain ⟨A11, c11, rfl, r11, b11⟩ := h11; have R11 := Lib.hid r11; have Q11 := Lib.hid (R10.out.below b11); have B11 := Lib.hid (B10.out.trans (b11.mono B10.out.size)); have C11 := Lib.hid (C10.out.trans (b11.mono C10.out.size)); clear r11 b11))
            | (go_at_call 11; ((with_reducible refine (rsame_true A10 A11 W.length c10 W.length c11 W W w11 Q11.out R11.out rfl).mono ?_); rintro e w12 ⟨rfl, b12⟩; have B12 := Lib.hid (B11.out.trans (b12.mono B11.out.size)); have C12 := Lib.hid (C11.out.trans (b12.mono C11.out.size)); clear b12))
            | (go_at_call 11; ((with_reducible refine (rsame_true A2 A n c2 n c key key w12 (RO.out.below C12.out) (HR.out.below B12.out) rfl).mono ?_); rintro e w13 ⟨rfl, b13⟩; have B13 := Lib.hid (B12.out.trans (b13.mono B12.out.size)); clear b13)))
          go_ret
          exact ⟨rfl, B13.out⟩
      · go_enter Tryd.func3, Tryd.ntmps3
        go_wp2_with (first
          | (go_at_call 8; ((with_reducible refine (awake_true M _ HKB.out).mono ?_); rintro e w1 ⟨rfl, b1⟩; have B1 := Lib.hid (HB0.out.trans (b1.mono HB0.out.size)); have cl0 : w1.cell? ⟨w.heap.size, 0, none⟩ = some (.slice At nt ct) := (HX.out.below b1 HX.out.lt).cell 0; have cl1 : w1.cell? ⟨w.heap.size, 1, none⟩ = some (.int .i64 m) := (HX.out.below b1 HX.out.lt).cell 1; clear b1))
          | (at_builtin; refine append_rd rfl (.tmp 36) (.tmp 37) rfl w1.heap.size (.slice (some ⟨w1.heap.size, 0, none⟩) 0 0) 0 [] rfl (own_lit_u8 w1 w1.heap.size [] (Nat.le_refl _) (by simp [maxLen])) A n c key rfl ((HR.out.below B1.out).alloc _) (by omega) (by simp) ?_; intro v2 w2 o2 g2; have B2 := Lib.hid ((B1.out.alloc B1.out.size _).grown g2 (by have := B1.out.size; simp; omega) (fun k hk => by have := B1.out.size; simp [Value.ownBlock] at hk; omega)); have O2 := Lib.hid (own_n (show w2.ownsRow w1.heap.size 5 1 v2 (0 + n) (bv ([] ++ key)) from o2)); clear o2 g2; obtain ⟨A2, c2, rfl⟩ := own_form O2.out; have RO := Lib.hid (Rd.own O2.out))
          | (go_at_call 9; ((with_reducible refine (HS.out _ (M.bel HK.out B2.out)).mono ?_); rintro e w3 ⟨rfl, b3⟩; have B3 := Lib.hid (B2.out.trans (b3.mono B2.out.size)); have C3 := Lib.hid b3; clear b3))
          | (go_at_call 10; ((with_reducible refine (HSR.out _).mono ?_); rintro e w4 ⟨rfl, rfl⟩))
          | (go_at_call 12; ((with_reducible refine (HM1.out _ (M.bel HK.out B3.out) (HT.out.below B3.out)).mono ?_); intro e w4 h4; obtain ⟨A4, c4, rfl, r4, b4⟩ := h4; have R4 := Lib.hid r4; have B4 := Lib.hid (B3.out.trans (b4.mono B3.out.size)); have C4 := Lib.hid (C3.out.trans (b4.mono C3.out.size)); clear r4 b4))
          | (go_at_call 13; ((with_reducible refine (HM2.out _ (HT.out.below B4.out)).mono ?_); intro e w5 h5; obtain ⟨A5, c5, rfl, r5, b5⟩ := new_len h5; have R5 := Lib.hid r5; have Q5 := Lib.hid (R4.out.below b5); have B5 := Lib.hid (B4.out.trans (b5.mono B4.out.size)); have C5 := Lib.hid (C4.out.trans (b5.mono C4.out.size)); clear h5 r5 b5))
          | (go_at_call 11; ((with_reducible refine (rsame_true A4 A5 U.length c4 U.length c5 U U w5 Q5.out R5.out rfl).mono ?_); rintro e w6 ⟨rfl, b6⟩; have B6 := Lib.hid (B5.out.trans (b6.mono B5.out.size)); have C6 := Lib.hid (C5.out.trans (b6.mono C5.out.size)); clear b6))
          | (go_at_call 14; ((with_reducible refine (HC1.out _ A2 c2 (M.bel HK.out B6.out) (RO.out.below C6.out) (HT.out.below B6.out)).mono ?_); intro e w7 h7; obtain ⟨A7, c7, rfl, r7, b7⟩ := h7; have R7 := Lib.hid r7; have B7 := Lib.hid (B6.out.trans (b7.mono B6.out.size)); have C7 := Lib.hid (C6.out.trans (b7.mono C6.out.size)); clear r7 b7))
          | (go_at_call 15; ((with_reducible refine (HC2.out _ (HR.out.below B7.out) (HT.out.below B7.out)).mono ?_); intro e w8 h8; obtain ⟨A8, c8, rfl, r8, b8⟩ := new_len h8; have R8 := Lib.hid r8; have Q8 := Lib.hid (R7.out.below b8); have B8 := Lib.hid (B7.out.trans (b8.mono B7.out.size)); have C8 := Lib.hid (C7.out.trans (b8.mono C7.out.size)); clear h8 r8 b8))
          | (go_at_call 11; ((with_reducible refine (rsame_true A7 A8 V.length c7 V.length c8 V V w8 Q8.out R8.out rfl).mono ?_); rintro e w9 ⟨rfl, b9⟩; have B9 := Lib.hid (B8.out.trans (b9.mono B8.out.size)); have C9 := Lib.hid (C8.out.trans (b9.mono C8.out.size)); clear b9))
          | (go_at_call 16; ((with_reducible refine (HD1.out _ (M.bel HK.out B9.out) (HT.out.below B9.out)).mono ?_); intro e w10 h10; obtain ⟨A10, c10, rfl, r10, b10⟩ := h10; have R10 := Lib.hid r10; have B10 := Lib.hid (B9.out.trans (b10.mono B9.out.size)); have C10 := Lib.hid (C9.out.trans (b10.mono C9.out.size)); clear r10 b10))
          | (go_at_call 17; ((with_reducible refine (HD2.out _ (HT.out.below B10.out)).mono ?_); intro e w11 h11; obtain ⟨A11, c11, rfl, r11, b11⟩ := h11; have R11 := Lib.hid r11; have Q11 := Lib.hid (R10.out.below b11); have B11 := Lib.hid (B10.out.trans (b11.mono B10.out.size)); have C11 := Lib.hid (C10.out.trans (b11.mono C10.out.size)); clear r11 b11))
          | (go_at_call 11; ((with_reducible refine (rsame_true A10 A11 W.length c10 W.length c11 W W w11 Q11.out R11.out rfl).mono ?_); rintro e w12 ⟨rfl, b12⟩; have B12 := Lib.hid (B11.out.trans (b12.mono B11.out.size)); have C12 := Lib.hid (C11.out.trans (b12.mono C11.out.size)); clear b12))
          | (go_at_call 11; ((with_reducible refine (rsame_true A2 A n c2 n c key key w12 (RO.out.below C12.out) (HR.out.below B12.out) rfl).mono ?_); rintro e w13 ⟨rfl, b13⟩; have B13 := Lib.hid (B12.out.trans (b13.mono B12.out.size)); clear b13)))
        go_ret
        exact ⟨rfl, B13.out⟩
    · have i1 : 1000 < (nt : Int) := by omega
      clear hU hV hW hSZ hBL
      go_enter Tryd.func3, Tryd.ntmps3
      go_wp2_with (go_at_call 8; ((with_reducible refine (awake_true M _ HKB.out).mono ?_); rintro e w1 ⟨rfl, b1⟩; have B1 := Lib.hid (HB0.out.trans (b1.mono HB0.out.size)); have cl0 : w1.cell? ⟨w.heap.size, 0, none⟩ = some (.slice At nt ct) := (HX.out.below b1 HX.out.lt).cell 0; have cl1 : w1.cell? ⟨w.heap.size, 1, none⟩ = some (.int .i64 m) := (HX.out.below b1 HX.out.lt).cell 1; clear b1))
      go_ret
      exact ⟨rfl, B1.out⟩
  · have i0 : 1000 < (n : Int) := by omega
    clear hU hV hW hSZ hBL
    go_enter Tryd.func3, Tryd.ntmps3
    go_wp2_with (go_at_call 8; ((with_reducible refine (awake_true M _ HKB.out).mono ?_); rintro e w1 ⟨rfl, b1⟩; have B1 := Lib.hid (HB0.out.trans (b1.mono HB0.out.size)); have cl0 : w1.cell? ⟨w.heap.size, 0, none⟩ = some (.slice At nt ct) := (HX.out.below b1 HX.out.lt).cell 0; have cl1 : w1.cell? ⟨w.heap.size, 1, none⟩ = some (.int .i64 m) := (HX.out.below b1 HX.out.lt).cell 1; clear b1))
    go_ret
    exact ⟨rfl, B1.out⟩
end Go.Proofs.YtjgcaodicbikiaaDoor.S6
