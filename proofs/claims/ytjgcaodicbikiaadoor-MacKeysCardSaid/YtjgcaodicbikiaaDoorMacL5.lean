/-
  The call of the statement MacTwice of layer 6. (Written by genm5.py.)
-/
import Derived.Test.YtjgcaodicbikiaaDoorMacA
namespace Go.Proofs.YtjgcaodicbikiaaDoor.S6
set_option linter.unusedSimpArgs false
set_option linter.unusedVariables false
open Go.RowKit

set_option maxHeartbeats 4000000 in
set_option maxRecDepth 20000 in
theorem macTwice_walk (M : MC) (w : World) (hk : M.ok w) (q : Int) (wq : (Lit.int .u8 q).wf = true) (A : Option Addr) (n c : Nat) (key : List UInt8) (hr : Rd w A n c key) (At : Option Addr) (nt ct : Nat) (text : List UInt8) (ht : Rd w At nt ct text) :
    Calls Tryd.prog 7 #[.int .u8 q, .slice A n c, .slice At nt ct] w fun e w' => e = .returned (.bool true) ∧ Below w.heap.size w w' := by
  have HK := Lib.hid hk
  have HR := Lib.hid hr
  have HT := Lib.hid ht
  have lm : n ≤ maxLen := Nat.le_trans hr.cap hr.max
  have lt : nt ≤ maxLen := Nat.le_trans ht.cap ht.max
  unfold maxLen at lm lt
  have hkl := Lib.hid hr.len
  have htl := Lib.hid ht.len
  have wq' : 0 ≤ q ∧ q ≤ 255 := by simpa [Lit.wf, IntKind.min, IntKind.max, IntKind.signed, IntKind.bits] using wq
  obtain ⟨Q, rfl⟩ := Int.eq_ofNat_of_zero_le wq'.1
  have hQ : Q < 256 := by omega
  obtain ⟨K, hK⟩ : ∃ K, K = Q % 2 := ⟨_, rfl⟩
  have k2 : (Q : Int).tmod 2 = (K : Int) := by rw [Int.tmod_eq_emod_of_nonneg (by omega)]; omega
  have hK2 : K = 0 ∨ K = 1 := by omega
  have hbK : blK (K : Int) ≠ 0 := by rcases hK2 with h | h <;> subst h <;> decide
  obtain ⟨SZ, hSZ⟩ : ∃ SZ, SZ = szK (K : Int) := ⟨_, rfl⟩
  obtain ⟨BL, hBL⟩ : ∃ BL, BL = blK (K : Int) := ⟨_, rfl⟩
  have s1 : SZ = 32 + 32 * K := by rw [hSZ]; rcases hK2 with h | h <;> subst h <;> rfl
  have s2 : BL = 64 + 64 * K := by rw [hBL]; rcases hK2 with h | h <;> subst h <;> rfl
  obtain ⟨ky, hky⟩ : ∃ ky, ky = keyK K key := ⟨_, rfl⟩
  obtain ⟨IN, hIN⟩ : ∃ IN, IN = sumK K (row 54 BL ky ++ text) := ⟨_, rfl⟩
  obtain ⟨X, hX⟩ : ∃ X, X = macK K key text := ⟨_, rfl⟩
  have HXE := Lib.hid (show X = sumK K (row 92 BL ky ++ IN) by rw [hX, macK, if_neg hbK, hIN, hky, hBL])
  have LI := Lib.hid (show IN.length = SZ by rw [hIN, hSZ]; exact sumK_length _ _)
  have LXX := Lib.hid (show X.length = SZ by rw [hX, hSZ]; exact macK_length K key text hbK)
  have hsz : SZ ≤ 64 := by omega
  have hbl : BL ≤ 128 := by omega
  clear hr ht hk wq wq' hK
  have k1 : (Q : Int) % 2 = (K : Int) := by rw [← k2, Int.tmod_eq_emod_of_nonneg (by omega)]
  have hK1 : K ≤ 1 := by omega
  have m1 : IntKind.i64.wrap (32 * (K : Int)) = 32 * (K : Int) := by rw [IntKind.wrap_i64]; omega
  have m2 : IntKind.i64.wrap (32 + 32 * (K : Int)) = 32 + 32 * (K : Int) := by rw [IntKind.wrap_i64]; omega
  have m3 : IntKind.i64.wrap (64 * (K : Int)) = 64 * (K : Int) := by rw [IntKind.wrap_i64]; omega
  have m4 : IntKind.i64.wrap (64 + 64 * (K : Int)) = 64 + 64 * (K : Int) := by rw [IntKind.wrap_i64]; omega
  have m5 : ((SZ : Int) != 32 + 32 * (K : Int)) = false := by simp; omega
  have m6 : ((BL : Int) != 64 + 64 * (K : Int)) = false := by simp; omega
  have HS := Lib.hid (show ∀ V, M.ok V → Calls Tryd.prog 9 #[.int .i64 (K : Int)] V fun e w' => e = .returned (.tuple #[.int .i64 (SZ : Nat), .int .i64 (BL : Nat)]) ∧ Below V.heap.size V w' from fun V g => by rw [hSZ, hBL]; exact M.size K V g)
  by_cases hn : n ≤ 300
  · have i0 : ¬ 300 < (n : Int) := by omega
    by_cases hnt : nt ≤ 300
    · have i1 : ¬ 300 < (nt : Int) := by omega
      have HC1 := Lib.hid (show ∀ V, M.ok V → Rd V A n c key → Rd V At nt ct text → Calls Tryd.prog 14 #[.int .i64 (K : Int), .slice A n c, .slice At nt ct] V (GivesF V.heap.size V X) from fun V g h h' => by rw [hX]; exact M.macF K A n c key At nt ct text V g h h' (by omega) (by omega))
      have HM2 := Lib.hid (show ∀ V B d, M.ok V → Rd V B (BL + nt) d (row 54 BL ky ++ text) → Calls Tryd.prog 12 #[.int .i64 (K : Int), .slice B (BL + nt) d] V (Gives V.heap.size V IN) from fun V B d g h => by rw [hIN]; exact M.sum K B (BL + nt) d _ V g h (by omega))
      have HM3 := Lib.hid (show ∀ V B d, M.ok V → Rd V B (BL + SZ) d (row 92 BL ky ++ IN) → Calls Tryd.prog 12 #[.int .i64 (K : Int), .slice B (BL + SZ) d] V (Gives V.heap.size V X) from fun V B d g h => by rw [HXE.out]; exact M.sum K B (BL + SZ) d _ V g h (by omega))
      by_cases hlong : BL < n
      · have i2 : (BL : Int) < (n : Int) := by omega
        have HM1 := Lib.hid (show ∀ V, M.ok V → Rd V A n c key → Calls Tryd.prog 12 #[.int .i64 (K : Int), .slice A n c] V (Gives V.heap.size V ky) from fun V g h => by rw [hky, keyK, ← hBL, hkl.out, if_pos hlong]; exact M.sum K A n c key V g h (by omega))
        have HYL := Lib.hid (show ky.length = SZ by rw [hky, keyK, ← hBL, hkl.out, if_pos hlong, sumK_length, hSZ])
        clear hX hIN hky hSZ hBL hbK hK2 s1 s2
        go_enter Tryd.func7, Tryd.ntmps7
        go_wp2_with (first
          | (go_at_call 8; ((with_reducible refine (awake_true M _ HK.out).mono ?_); rintro e w1 ⟨rfl, b1⟩; have B1 := Lib.hid b1; clear b1))
          | (go_at_call 9; ((with_reducible refine (HS.out _ (M.bel HK.out B1.out)).mono ?_); rintro e w2 ⟨rfl, b2⟩; have B2 := Lib.hid (B1.out.trans (b2.mono B1.out.size)); clear b2))
          | (at_builtin; refine append_rd rfl (.tmp 46) (.tmp 47) rfl w2.heap.size (.slice (some ⟨w2.heap.size, 0, none⟩) 0 0) 0 [] rfl (own_lit_u8 w2 w2.heap.size [] (Nat.le_refl _) (by simp [maxLen])) A n c key rfl ((HR.out.below B2.out).alloc _) (by omega) (by simp) ?_; intro v3 w3 o3 g3; have B3 := Lib.hid (B2.out.trans ((((Below.refl w2.heap.size w2).alloc (Nat.le_refl _) _).grown g3 (by simp) (fun k hk => by simp [Value.ownBlock] at hk; omega)).mono B2.out.size)); have O3 := Lib.hid (own_n (show w3.ownsRow w2.heap.size 5 1 v3 (0 + n) (bv ([] ++ key)) from o3)); clear o3 g3; obtain ⟨A3, c3, rfl⟩ := own_form O3.out)
          | (go_at_call 12; ((with_reducible refine (HM1.out w3 (M.bel HK.out B3.out) (HR.out.below B3.out)).mono ?_); intro e w4 h4; obtain ⟨A4, c4, rfl, r4, b4⟩ := h4; rw [HYL.out] at r4; rw [HYL.out]; have RK := Lib.hid r4; have BK := Lib.hid (B3.out.trans (b4.mono B3.out.size)); clear r4 b4)))
        try simp only [m5, m6]
        clear m5 m6
        go_loopw [11, 12, 13, 14] (fun a b i _ wr => ∃ j : Nat, j ≤ BL ∧ i = .int .i64 (j : Int) ∧ Two w4.heap.size wr a b j j (row 54 j ky) (row 92 j ky) ∧ Below w4.heap.size w4 wr) (fun _ _ i _ _ => BL - (intOf i).toNat)
        case atStart => exact ⟨0, by omega, rfl, ⟨World.ownsRow_nil _ _ _ _, World.ownsRow_nil _ _ _ _, fun g h => by cases h⟩, Below.refl _ _⟩
        case round =>
          obtain ⟨j, hj, rfl, two, hB⟩ := hrel
          have rk := RK.out.below hB
          by_cases hlt : j < BL
          · have i9 : (j : Int) < (BL : Int) := by omega
            obtain ⟨cv, hcv⟩ : ∃ cv, cv = ky[j]?.getD 0 := ⟨_, rfl⟩
            have x54 := xor54 cv
            have x92 := xor92 cv
            obtain ⟨u, hu⟩ : ∃ u : UInt8, u = cv ^^^ 54 := ⟨_, rfl⟩
            obtain ⟨v, hv⟩ : ∃ v : UInt8, v = cv ^^^ 92 := ⟨_, rfl⟩
            rw [← hu] at x54
            rw [← hv] at x92
            have R54 := Lib.hid (show row 54 (j + 1) ky = row 54 j ky ++ [u] by rw [row_succ, hu, hcv])
            have R92 := Lib.hid (show row 92 (j + 1) ky = row 92 j ky ++ [v] by rw [row_succ, hv, hcv])
            have TW := Lib.hid two
            have hB0 := Lib.hid hB
            have hl1 := Lib.hid (rd_lit wr #[.int .u8 (u.toNat : Int)] [u] rfl (by simp [maxLen]) _ rfl)
            clear hu hv two
            by_cases hjk : j < SZ
            · have hji : (j : Int) < (SZ : Int) := by omega
              obtain ⟨bk, off, rfl, hbk, hcell⟩ := rk.at_ (by omega)
              have hc := hcell j hjk
              rw [show ky.getD j 0 = cv by rw [hcv]; rfl] at hc
              clear hcell hcv rk
              go_wp2_with (first
                | (at_builtin; refine append_rdA rfl (.tmp 69) (.tmp 72) rfl w4.heap.size _ j _ rfl (TW.out.alloc _).oa _ 1 1 [u] rfl hl1.out (by omega) (by have := hB0.out.size; simp; omega) ?_; intro v1 x1 o1 g1 e1; have T1 := Lib.hid ((TW.out.alloc _).app o1 g1 e1); have D1 := Lib.hid ((hB0.out.alloc hB0.out.size _).grown g1 (by have := hB0.out.size; simp; omega) (fun g hg => (TW.out.oa.lt g hg).1)); have hl2 := Lib.hid (rd_lit x1 #[.int .u8 (v.toNat : Int)] [v] rfl (by simp [maxLen]) _ rfl); clear o1 g1 e1)
                | (at_builtin; refine append_rdA rfl (.tmp 74) (.tmp 77) rfl w4.heap.size _ j _ rfl (T1.out.alloc _).ob _ 1 1 [v] rfl hl2.out (by omega) (by have := D1.out.size; simp; omega) ?_; intro v2 x3 o2 g2 e2; have T2 := Lib.hid ((T1.out.alloc _).swap.app o2 g2 e2).swap; have D2 := Lib.hid ((D1.out.alloc D1.out.size _).grown g2 (by have := D1.out.size; simp; omega) (fun g hg => (T1.out.ob.lt g hg).1)); clear o2 g2 e2))
              go_roundw
              case rel => exact ⟨j + 1, by omega, by go_num, by rw [R54.out, R92.out]; exact T2.out, D2.out⟩
              case measure => simp [intOf]; omega
            · have hji : ¬ (j : Int) < (SZ : Int) := by omega
              have h0 : cv = 0 := by rw [hcv, List.getElem?_eq_none (by have := rk.len; omega)]; rfl
              have R54 := Lib.hid (show row 54 (j + 1) ky = row 54 j ky ++ [54] by rw [row_succ, ← hcv, h0]; rfl)
              have R92 := Lib.hid (show row 92 (j + 1) ky = row 92 j ky ++ [92] by rw [row_succ, ← hcv, h0]; rfl)
              have hl1 := Lib.hid (rd_lit wr #[.int .u8 54] [54] rfl (by simp [maxLen]) _ rfl)
              clear x54 x92 hcv h0 rk
              go_wp2_with (first
                | (at_builtin; refine append_rdA rfl (.tmp 69) (.tmp 72) rfl w4.heap.size _ j _ rfl (TW.out.alloc _).oa _ 1 1 [54] rfl hl1.out (by omega) (by have := hB0.out.size; simp; omega) ?_; intro v1 x1 o1 g1 e1; have T1 := Lib.hid ((TW.out.alloc _).app o1 g1 e1); have D1 := Lib.hid ((hB0.out.alloc hB0.out.size _).grown g1 (by have := hB0.out.size; simp; omega) (fun g hg => (TW.out.oa.lt g hg).1)); have hl2 := Lib.hid (rd_lit x1 #[.int .u8 92] [92] rfl (by simp [maxLen]) _ rfl); clear o1 g1 e1)
                | (at_builtin; refine append_rdA rfl (.tmp 74) (.tmp 77) rfl w4.heap.size _ j _ rfl (T1.out.alloc _).ob _ 1 1 [92] rfl hl2.out (by omega) (by have := D1.out.size; simp; omega) ?_; intro v2 x3 o2 g2 e2; have T2 := Lib.hid ((T1.out.alloc _).swap.app o2 g2 e2).swap; have D2 := Lib.hid ((D1.out.alloc D1.out.size _).grown g2 (by have := D1.out.size; simp; omega) (fun g hg => (T1.out.ob.lt g hg).1)); clear o2 g2 e2))
              go_roundw
              case rel => exact ⟨j + 1, by omega, by go_num, by rw [R54.out, R92.out]; exact T2.out, D2.out⟩
              case measure => simp [intOf]; omega
          · obtain rfl : j = BL := by omega
            have i9 : ¬ (j : Int) < (j : Int) := by omega
            have TW := Lib.hid two
            have hB0 := Lib.hid hB
            have BZ := Lib.hid (BK.out.trans (hB.mono BK.out.size))
            clear two hB
            go_wp2_with (first
              | (at_builtin; refine append_rdA rfl (.tmp 80) (.tmp 81) rfl w4.heap.size _ j _ rfl TW.out.oa At nt ct text rfl (HT.out.below BZ.out) (by omega) hB0.out.size ?_; intro v1 y1 o1 g1 e1; have T1 := Lib.hid (TW.out.app o1 g1 e1); have D1 := Lib.hid (hB0.out.grown g1 hB0.out.size (fun g hg => (TW.out.oa.lt g hg).1)); clear o1 g1 e1; obtain ⟨A5, c5, rfl⟩ := own_form T1.out.oa)
              | (go_at_call 12; ((with_reducible refine (HM2.out y1 A5 c5 (M.bel HK.out (BK.out.trans (D1.out.mono BK.out.size))) (Rd.own T1.out.oa)).mono ?_); intro e y2 h5; obtain ⟨A6, c6, rfl, r6, b6⟩ := h5; rw [LI.out] at r6; rw [LI.out]; have R6 := Lib.hid r6; have T6 := Lib.hid (T1.out.below b6); have D6 := Lib.hid (D1.out.trans (b6.mono D1.out.size)); clear r6 b6))
              | (go_at_call 14; ((with_reducible refine (HC1.out y2 (M.bel HK.out (BK.out.trans (D6.out.mono BK.out.size))) (HR.out.below (BK.out.trans (D6.out.mono BK.out.size))) (HT.out.below (BK.out.trans (D6.out.mono BK.out.size)))).mono ?_); intro e y3 h7; obtain ⟨A7, c7, rfl, r7, b7, f7⟩ := h7; rw [LXX.out] at r7; rw [LXX.out]; have F7 := Lib.hid f7; clear f7; have R7 := Lib.hid r7; have Q7 := Lib.hid (R6.out.below b7); have T7 := Lib.hid (T6.out.below b7); have D7 := Lib.hid (D6.out.trans (b7.mono D6.out.size)); clear r7 b7))
              | (at_builtin; refine append_zz (by kernel_rfl) (.tmp 94) (.tmp 95) rfl w4.heap.size _ j _ rfl T7.out.ob A6 SZ c6 _ rfl Q7.out (by omega) D7.out.size ?_; intro v8 y4 o8 g8; have D8 := Lib.hid (D7.out.grown g8 D7.out.size (fun g hg => (T7.out.ob.lt g hg).1)); have O8 := Lib.hid o8; have R8 := Lib.hid (Rd.apart R7.out g8 (fun a ha e => by have h1 := F7.out a ha; have h2 := (T6.out.ob.lt a.block e.symm).2; omega)); clear o8 g8; obtain ⟨A8, c8, rfl⟩ := own_form O8.out)
              | (go_at_call 12; ((with_reducible refine (HM3.out y4 A8 c8 (M.bel HK.out (BK.out.trans (D8.out.mono BK.out.size))) (Rd.own O8.out)).mono ?_); intro e y5 h9; obtain ⟨A9, c9, rfl, r9, b9⟩ := h9; rw [LXX.out] at r9; rw [LXX.out]; have R9 := Lib.hid r9; have Q9 := Lib.hid (R8.out.below b9); have D9 := Lib.hid (D8.out.trans (b9.mono D8.out.size)); clear r9 b9))
              | (go_at_call 11; ((with_reducible refine (rsame_true A7 A9 SZ c7 SZ c9 X X y5 Q9.out R9.out rfl).mono ?_); rintro e y6 ⟨rfl, b10⟩; have D10 := Lib.hid (D9.out.trans (b10.mono D9.out.size)); clear b10)))
            go_ret
            exact ⟨rfl, BK.out.trans (D10.out.mono BK.out.size)⟩
      · have i2 : ¬ (BL : Int) < (n : Int) := by omega
        have hk2 : ky = key := by rw [hky, keyK, ← hBL, hkl.out, if_neg hlong]
        have HKE := Lib.hid hk2
        clear hX hIN hky hSZ hBL hbK hK2 s1 s2 hk2
        go_enter Tryd.func7, Tryd.ntmps7
        go_wp2_with (first
          | (go_at_call 8; ((with_reducible refine (awake_true M _ HK.out).mono ?_); rintro e w1 ⟨rfl, b1⟩; have B1 := Lib.hid b1; clear b1))
          | (go_at_call 9; ((with_reducible refine (HS.out _ (M.bel HK.out B1.out)).mono ?_); rintro e w2 ⟨rfl, b2⟩; have B2 := Lib.hid (B1.out.trans (b2.mono B1.out.size)); clear b2))
          | (at_builtin; refine append_rd rfl (.tmp 46) (.tmp 47) rfl w2.heap.size (.slice (some ⟨w2.heap.size, 0, none⟩) 0 0) 0 [] rfl (own_lit_u8 w2 w2.heap.size [] (Nat.le_refl _) (by simp [maxLen])) A n c key rfl ((HR.out.below B2.out).alloc _) (by omega) (by simp) ?_; intro v3 w3 o3 g3; have B3 := Lib.hid (B2.out.trans ((((Below.refl w2.heap.size w2).alloc (Nat.le_refl _) _).grown g3 (by simp) (fun k hk => by simp [Value.ownBlock] at hk; omega)).mono B2.out.size)); have O3 := Lib.hid (own_n (show w3.ownsRow w2.heap.size 5 1 v3 (0 + n) (bv ([] ++ key)) from o3)); clear o3 g3; obtain ⟨A3, c3, rfl⟩ := own_form O3.out))
        have RK := Lib.hid (show Rd w3 A3 n c3 ky by rw [HKE.out]; exact Rd.own O3.out)
        have BK := B3
        try simp only [m5, m6]
        clear m5 m6
        go_loopw [11, 12, 13, 14] (fun a b i _ wr => ∃ j : Nat, j ≤ BL ∧ i = .int .i64 (j : Int) ∧ Two w3.heap.size wr a b j j (row 54 j ky) (row 92 j ky) ∧ Below w3.heap.size w3 wr) (fun _ _ i _ _ => BL - (intOf i).toNat)
        case atStart => exact ⟨0, by omega, rfl, ⟨World.ownsRow_nil _ _ _ _, World.ownsRow_nil _ _ _ _, fun g h => by cases h⟩, Below.refl _ _⟩
        case round =>
          obtain ⟨j, hj, rfl, two, hB⟩ := hrel
          have rk := RK.out.below hB
          by_cases hlt : j < BL
          · have i9 : (j : Int) < (BL : Int) := by omega
            obtain ⟨cv, hcv⟩ : ∃ cv, cv = ky[j]?.getD 0 := ⟨_, rfl⟩
            have x54 := xor54 cv
            have x92 := xor92 cv
            obtain ⟨u, hu⟩ : ∃ u : UInt8, u = cv ^^^ 54 := ⟨_, rfl⟩
            obtain ⟨v, hv⟩ : ∃ v : UInt8, v = cv ^^^ 92 := ⟨_, rfl⟩
            rw [← hu] at x54
            rw [← hv] at x92
            have R54 := Lib.hid (show row 54 (j + 1) ky = row 54 j ky ++ [u] by rw [row_succ, hu, hcv])
            have R92 := Lib.hid (show row 92 (j + 1) ky = row 92 j ky ++ [v] by rw [row_succ, hv, hcv])
            have TW := Lib.hid two
            have hB0 := Lib.hid hB
            have hl1 := Lib.hid (rd_lit wr #[.int .u8 (u.toNat : Int)] [u] rfl (by simp [maxLen]) _ rfl)
            clear hu hv two
            by_cases hjk : j < n
            · have hji : (j : Int) < (n : Int) := by omega
              obtain ⟨bk, off, rfl, hbk, hcell⟩ := rk.at_ (by omega)
              have hc := hcell j hjk
              rw [show ky.getD j 0 = cv by rw [hcv]; rfl] at hc
              clear hcell hcv rk
              go_wp2_with (first
                | (at_builtin; refine append_rdA rfl (.tmp 69) (.tmp 72) rfl w3.heap.size _ j _ rfl (TW.out.alloc _).oa _ 1 1 [u] rfl hl1.out (by omega) (by have := hB0.out.size; simp; omega) ?_; intro v1 x1 o1 g1 e1; have T1 := Lib.hid ((TW.out.alloc _).app o1 g1 e1); have D1 := Lib.hid ((hB0.out.alloc hB0.out.size _).grown g1 (by have := hB0.out.size; simp; omega) (fun g hg => (TW.out.oa.lt g hg).1)); have hl2 := Lib.hid (rd_lit x1 #[.int .u8 (v.toNat : Int)] [v] rfl (by simp [maxLen]) _ rfl); clear o1 g1 e1)
                | (at_builtin; refine append_rdA rfl (.tmp 74) (.tmp 77) rfl w3.heap.size _ j _ rfl (T1.out.alloc _).ob _ 1 1 [v] rfl hl2.out (by omega) (by have := D1.out.size; simp; omega) ?_; intro v2 x3 o2 g2 e2; have T2 := Lib.hid ((T1.out.alloc _).swap.app o2 g2 e2).swap; have D2 := Lib.hid ((D1.out.alloc D1.out.size _).grown g2 (by have := D1.out.size; simp; omega) (fun g hg => (T1.out.ob.lt g hg).1)); clear o2 g2 e2))
              go_roundw
              case rel => exact ⟨j + 1, by omega, by go_num, by rw [R54.out, R92.out]; exact T2.out, D2.out⟩
              case measure => simp [intOf]; omega
            · have hji : ¬ (j : Int) < (n : Int) := by omega
              have h0 : cv = 0 := by rw [hcv, List.getElem?_eq_none (by have := rk.len; omega)]; rfl
              have R54 := Lib.hid (show row 54 (j + 1) ky = row 54 j ky ++ [54] by rw [row_succ, ← hcv, h0]; rfl)
              have R92 := Lib.hid (show row 92 (j + 1) ky = row 92 j ky ++ [92] by rw [row_succ, ← hcv, h0]; rfl)
              have hl1 := Lib.hid (rd_lit wr #[.int .u8 54] [54] rfl (by simp [maxLen]) _ rfl)
              clear x54 x92 hcv h0 rk
              go_wp2_with (first
                | (at_builtin; refine append_rdA rfl (.tmp 69) (.tmp 72) rfl w3.heap.size _ j _ rfl (TW.out.alloc _).oa _ 1 1 [54] rfl hl1.out (by omega) (by have := hB0.out.size; simp; omega) ?_; intro v1 x1 o1 g1 e1; have T1 := Lib.hid ((TW.out.alloc _).app o1 g1 e1); have D1 := Lib.hid ((hB0.out.alloc hB0.out.size _).grown g1 (by have := hB0.out.size; simp; omega) (fun g hg => (TW.out.oa.lt g hg).1)); have hl2 := Lib.hid (rd_lit x1 #[.int .u8 92] [92] rfl (by simp [maxLen]) _ rfl); clear o1 g1 e1)
                | (at_builtin; refine append_rdA rfl (.tmp 74) (.tmp 77) rfl w3.heap.size _ j _ rfl (T1.out.alloc _).ob _ 1 1 [92] rfl hl2.out (by omega) (by have := D1.out.size; simp; omega) ?_; intro v2 x3 o2 g2 e2; have T2 := Lib.hid ((T1.out.alloc _).swap.app o2 g2 e2).swap; have D2 := Lib.hid ((D1.out.alloc D1.out.size _).grown g2 (by have := D1.out.size; simp; omega) (fun g hg => (T1.out.ob.lt g hg).1)); clear o2 g2 e2))
              go_roundw
              case rel => exact ⟨j + 1, by omega, by go_num, by rw [R54.out, R92.out]; exact T2.out, D2.out⟩
              case measure => simp [intOf]; omega
          · obtain rfl : j = BL := by omega
            have i9 : ¬ (j : Int) < (j : Int) := by omega
            have TW := Lib.hid two
            have hB0 := Lib.hid hB
            have BZ := Lib.hid (BK.out.trans (hB.mono BK.out.size))
            clear two hB
            go_wp2_with (first
              | (at_builtin; refine append_rdA rfl (.tmp 80) (.tmp 81) rfl w3.heap.size _ j _ rfl TW.out.oa At nt ct text rfl (HT.out.below BZ.out) (by omega) hB0.out.size ?_; intro v1 y1 o1 g1 e1; have T1 := Lib.hid (TW.out.app o1 g1 e1); have D1 := Lib.hid (hB0.out.grown g1 hB0.out.size (fun g hg => (TW.out.oa.lt g hg).1)); clear o1 g1 e1; obtain ⟨A5, c5, rfl⟩ := own_form T1.out.oa)
              | (go_at_call 12; ((with_reducible refine (HM2.out y1 A5 c5 (M.bel HK.out (BK.out.trans (D1.out.mono BK.out.size))) (Rd.own T1.out.oa)).mono ?_); intro e y2 h5; obtain ⟨A6, c6, rfl, r6, b6⟩ := h5; rw [LI.out] at r6; rw [LI.out]; have R6 := Lib.hid r6; have T6 := Lib.hid (T1.out.below b6); have D6 := Lib.hid (D1.out.trans (b6.mono D1.out.size)); clear r6 b6))
              | (go_at_call 14; ((with_reducible refine (HC1.out y2 (M.bel HK.out (BK.out.trans (D6.out.mono BK.out.size))) (HR.out.below (BK.out.trans (D6.out.mono BK.out.size))) (HT.out.below (BK.out.trans (D6.out.mono BK.out.size)))).mono ?_); intro e y3 h7; obtain ⟨A7, c7, rfl, r7, b7, f7⟩ := h7; rw [LXX.out] at r7; rw [LXX.out]; have F7 := Lib.hid f7; clear f7; have R7 := Lib.hid r7; have Q7 := Lib.hid (R6.out.below b7); have T7 := Lib.hid (T6.out.below b7); have D7 := Lib.hid (D6.out.trans (b7.mono D6.out.size)); clear r7 b7))
              | (at_builtin; refine append_zz (by kernel_rfl) (.tmp 94) (.tmp 95) rfl w3.heap.size _ j _ rfl T7.out.ob A6 SZ c6 _ rfl Q7.out (by omega) D7.out.size ?_; intro v8 y4 o8 g8; have D8 := Lib.hid (D7.out.grown g8 D7.out.size (fun g hg => (T7.out.ob.lt g hg).1)); have O8 := Lib.hid o8; have R8 := Lib.hid (Rd.apart R7.out g8 (fun a ha e => by have h1 := F7.out a ha; have h2 := (T6.out.ob.lt a.block e.symm).2; omega)); clear o8 g8; obtain ⟨A8, c8, rfl⟩ := own_form O8.out)
              | (go_at_call 12; ((with_reducible refine (HM3.out y4 A8 c8 (M.bel HK.out (BK.out.trans (D8.out.mono BK.out.size))) (Rd.own O8.out)).mono ?_); intro e y5 h9; obtain ⟨A9, c9, rfl, r9, b9⟩ := h9; rw [LXX.out] at r9; rw [LXX.out]; have R9 := Lib.hid r9; have Q9 := Lib.hid (R8.out.below b9); have D9 := Lib.hid (D8.out.trans (b9.mono D8.out.size)); clear r9 b9))
              | (go_at_call 11; ((with_reducible refine (rsame_true A7 A9 SZ c7 SZ c9 X X y5 Q9.out R9.out rfl).mono ?_); rintro e y6 ⟨rfl, b10⟩; have D10 := Lib.hid (D9.out.trans (b10.mono D9.out.size)); clear b10)))
            go_ret
            exact ⟨rfl, BK.out.trans (D10.out.mono BK.out.size)⟩
    · have i1 : 300 < (nt : Int) := by omega
      clear hX hIN hky hSZ hBL hbK hK2
      go_enter Tryd.func7, Tryd.ntmps7
      go_wp2_with (first
        | (go_at_call 8; ((with_reducible refine (awake_true M _ HK.out).mono ?_); rintro e w1 ⟨rfl, b1⟩; have B1 := Lib.hid b1; clear b1))
        | (go_at_call 9; ((with_reducible refine (HS.out _ (M.bel HK.out B1.out)).mono ?_); rintro e w2 ⟨rfl, b2⟩; have B2 := Lib.hid (B1.out.trans (b2.mono B1.out.size)); clear b2)))
      go_ret
      exact ⟨rfl, B2.out⟩
  · have i0 : 300 < (n : Int) := by omega
    clear hX hIN hky hSZ hBL hbK hK2
    go_enter Tryd.func7, Tryd.ntmps7
    go_wp2_with (first
      | (go_at_call 8; ((with_reducible refine (awake_true M _ HK.out).mono ?_); rintro e w1 ⟨rfl, b1⟩; have B1 := Lib.hid b1; clear b1))
      | (go_at_call 9; ((with_reducible refine (HS.out _ (M.bel HK.out B1.out)).mono ?_); rintro e w2 ⟨rfl, b2⟩; have B2 := Lib.hid (B1.out.trans (b2.mono B1.out.size)); clear b2)))
    go_ret
    exact ⟨rfl, B2.out⟩
end Go.Proofs.YtjgcaodicbikiaaDoor.S6
