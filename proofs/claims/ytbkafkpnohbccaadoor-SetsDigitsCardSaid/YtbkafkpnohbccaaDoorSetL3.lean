/-
  The call of the statement SetsFit of layer 8.
-/
import Derived.Test.YtbkafkpnohbccaaDoorSetE
import Derived.Test.YtbkafkpnohbccaaDoorSetP
import Derived.Outline
namespace Go.Proofs.YtbkafkpnohbccaaDoor.S8
set_option linter.unusedSimpArgs false
set_option linter.unusedVariables false
open Go.RowKit S7

set_option maxRecDepth 100000 in
set_option maxHeartbeats 8000000 in
theorem setsFit_walk (M : SC) (W : World) (hk : M.ok W) (q : Int) (wq : (Lit.int .u8 q).wf = true) :
    Calls Tryd.prog 5 #[.int .u8 q] W fun e w' => e = .returned (.bool true) ∧ Below W.heap.size W w' := by
  have wq' : 0 ≤ q ∧ q ≤ 255 := by simpa [Lit.wf, IntKind.min, IntKind.max, IntKind.signed, IntKind.bits] using wq
  obtain ⟨Q, rfl⟩ := Int.eq_ofNat_of_zero_le wq'.1
  have hQ : Q < 256 := by omega
  clear wq wq'
  have HK := Lib.hid hk
  clear hk
  obtain ⟨r, hr⟩ : ∃ r, r = Q % 16 := ⟨_, rfl⟩
  have k2 : (Q : Int).tmod 16 = (r : Int) := by rw [Int.tmod_eq_emod_of_nonneg (by omega)]; omega
  have k3 : (Q : Int) % 16 = (r : Int) := by omega
  obtain ⟨c, hc⟩ : ∃ c, c = r + 1 := ⟨_, rfl⟩
  have k4 : 1 + (r : Int) = (c : Int) := by omega
  have hr16 : r < 16 := by omega
  have hok : okO c = true := by simp [okO]; omega
  have hc17 : c < 17 := by omega
  obtain ⟨n1, n2, n3⟩ := cntF_all c hok
  obtain ⟨K, hK⟩ : ∃ K, K = oK c := ⟨_, rfl⟩
  obtain ⟨N, hN⟩ : ∃ N, N = oN c := ⟨_, rfl⟩
  obtain ⟨V, hV⟩ : ∃ V, V = oW c := ⟨_, rfl⟩
  obtain ⟨P, hP⟩ : ∃ P, P = oP c := ⟨_, rfl⟩
  obtain ⟨S, hS⟩ : ∃ S, S = oS c := ⟨_, rfl⟩
  have HO := Lib.hid (show ∀ X, M.ok X → Calls Tryd.prog 9 #[.int .u32 (c : Int)] X fun e w' => e = .returned (.tuple #[.agg #[.int .u32 (c : Int), .int .i64 (K : Int), .int .i64 (N : Int), .int .i64 (V : Int), .int .i64 (P : Int), .int .i64 (S : Int)], .int .i64 0]) ∧ Below X.heap.size X w' from fun X g => by
    have h := M.ots c X (by omega) g
    rw [otsA, otsE, hok, if_pos rfl, if_pos rfl, ← hK, ← hN, ← hV, ← hP, ← hS] at h
    exact h)
  rw [← hK, ← hN] at n1
  rw [← hK] at n2
  rw [← hN] at n3
  have N1 := Lib.hid n1
  have LT := Lib.hid (show treeL.length = 36 by decide)
  clear hr hc hok n1 hK hN hV hP hS
  go_enter Tryd.func5, Tryd.ntmps5
  go_wp2_with (first
    | (go_at_call 8; ((with_reducible refine (awake_true M _ HK.out).mono ?_); rintro e w1 ⟨rfl, c1⟩; have B1 := Lib.hid c1; clear c1))
    | (go_at_call 9; ((with_reducible refine (HO.out _ (M.bel HK.out B1.out)).mono ?_); rintro e w2 ⟨rfl, c2⟩; have B2 := Lib.hid (B1.out.trans (c2.mono B1.out.size)); have O2 := Lib.hid (Bk.new w2 24 #[.int .u32 (c : Int), .int .i64 (K : Int), .int .i64 (N : Int), .int .i64 (V : Int), .int .i64 (P : Int), .int .i64 (S : Int)]); clear c2))
    | (go_at_call 17; ((with_reducible refine (M.treeC _ (M.bel HK.out (B2.out.alloc B2.out.size _))).mono ?_); intro e w5 h5; obtain ⟨A5, c5, rfl, r5, b5⟩ := h5; rw [LT.out] at r5; rw [LT.out]; have B5 := Lib.hid ((B2.out.alloc B2.out.size _).trans (b5.mono (by have := B2.out.size; simp; omega))); have R5 := Lib.hid r5; have O5 := Lib.hid (O2.out.below b5 O2.out.lt); clear b5 r5)))
  obtain ⟨b, off, rfl, hb, hcell⟩ := R5.out.at_ (by omega)
  have HC := Lib.hid hcell
  have HB := Lib.hid hb
  obtain ⟨g, hg⟩ : ∃ g, g = w2.heap.size := ⟨_, rfl⟩
  rw [← hg] at O5 ⊢
  clear hcell hb hg k2 k3 k4
  go_loopw [6, 7] (fun s i wr => ∃ k : Nat, k ≤ 36 ∧ i = .int .i64 (k : Int) ∧ s = .int .i64 (cntF K N k : Int) ∧ Below w5.heap.size w5 wr) (fun _ i _ => 36 - (intOf i).toNat)
  case atStart => exact ⟨0, by omega, rfl, rfl, Below.refl _ _⟩
  case round =>
    obtain ⟨j, hj, rfl, rfl, hbl⟩ := hrel
    have HBL := Lib.hid hbl
    have o0 := (O5.out.below hbl O5.out.lt).cell 0
    have o1 := (O5.out.below hbl O5.out.lt).cell 1
    have o2 := (O5.out.below hbl O5.out.lt).cell 2
    simp at o0 o1 o2
    by_cases hlt2 : j < 36
    · have i1 : (j : Int) < 36 := by omega
      obtain ⟨f1, f2, f3, f4, f5⟩ := treeL_facts j hlt2
      obtain ⟨C, hC⟩ : ∃ C, C = treeL.getD j 0 := ⟨_, rfl⟩
      have hn := cntF_next K N j hlt2
      have hle := cntF_le K N j
      rw [← hC] at f1 f2 hn
      obtain ⟨K', hK⟩ : ∃ K, K = tK C := ⟨_, rfl⟩
      obtain ⟨N', hN⟩ : ∃ N, N = tN C := ⟨_, rfl⟩
      obtain ⟨H, hH⟩ : ∃ H, H = tH C := ⟨_, rfl⟩
      obtain ⟨d, hd⟩ : ∃ d, d = fitB K N C := ⟨_, rfl⟩
      have HO := Lib.hid (show ∀ X, M.ok X → Calls Tryd.prog 11 #[.int .u32 (C : Int)] X fun e w' => e = .returned (.tuple #[.agg #[.int .u32 (C : Int), .int .i64 (K' : Int), .int .i64 (N' : Int), .int .i64 (H : Int)], .int .i64 0]) ∧ Below X.heap.size X w' from fun X g => by
        have h := M.tree C X f2 g
        rw [treeA, treeE, f1, if_pos rfl, if_pos rfl, ← hK, ← hN, ← hH] at h
        exact h)
      have HF := Lib.hid (show ∀ X, M.ok X → Calls Tryd.prog 13 #[.agg #[.int .u32 (c : Int), .int .i64 (K : Int), .int .i64 (N : Int), .int .i64 (V : Int), .int .i64 (P : Int), .int .i64 (S : Int)], .agg #[.int .u32 (C : Int), .int .i64 (K' : Int), .int .i64 (N' : Int), .int .i64 (H : Int)]] X fun e w' => e = .returned (.bool d) ∧ Below X.heap.size X w' from fun X g => by rw [hd, fitB, ← hK, ← hN]; exact M.fit c K N V P S C K' N' H X g)
      have g0 := (hbl.cell (p := ⟨b, off + j, none⟩) HB.out).trans (HC.out j hlt2)
      rw [← hC] at g0
      rw [← hd] at hn
      obtain ⟨T, hT⟩ : ∃ T, T = cntF K N j := ⟨_, rfl⟩
      rw [← hT] at hn hle ⊢
      have HN := Lib.hid hn
      clear hK hN hH hd f1 f3 f4 f5 hbl hC hn hT o0 o1 o2
      go_upto_region 14 with (go_at_call 11; ((with_reducible refine (HO.out _ (M.bel HK.out (B5.out.trans (HBL.out.mono B5.out.size)))).mono ?_); rintro e w7 ⟨rfl, c7⟩; have B7 := Lib.hid (HBL.out.trans (c7.mono HBL.out.size)); clear c7))
      obtain ⟨w8, hw8⟩ : ∃ w8, w7.alloc (.cells #[.int .u32 (C : Int), .int .i64 (K' : Int), .int .i64 (N' : Int), .int .i64 (H : Int)] 26) = w8 := ⟨_, rfl⟩
      have X8 : Bk w8 w7.heap.size 26 #[.int .u32 (C : Int), .int .i64 (K' : Int), .int .i64 (N' : Int), .int .i64 (H : Int)] := by rw [← hw8]; exact Bk.new _ _ _
      have b8 : Below w5.heap.size w5 w8 := by rw [← hw8]; exact B7.out.alloc B7.out.size _
      rw [hw8]
      have y0 := X8.cell 0
      have y1 := X8.cell 1
      have y2 := X8.cell 2
      have y3 := X8.cell 3
      have O8 := O5.out.below b8 O5.out.lt
      have o0 := O8.cell 0
      have o1 := O8.cell 1
      have o2 := O8.cell 2
      have o3 := O8.cell 3
      have o4 := O8.cell 4
      have o5 := O8.cell 5
      simp at y0 y1 y2 y3 o0 o1 o2 o3 o4 o5
      have B8 := Lib.hid b8
      clear hw8 X8 g0 b8 O8
      cases d
      all_goals
        go_wp2_with (go_at_call 13; ((with_reducible refine (HF.out _ (M.bel HK.out (B5.out.trans (B8.out.mono B5.out.size)))).mono ?_); rintro e w9 ⟨rfl, c9⟩; have B9 := Lib.hid (B8.out.trans (c9.mono B8.out.size)); clear c9))
        go_roundw
        case rel => exact ⟨j + 1, by omega, by go_num, by rw [HN.out]; simp, B9.out⟩
        case measure => simp [intOf]; omega
    · obtain rfl : j = 36 := by omega
      rw [N1.out]
      have B6 := Lib.hid (B5.out.trans (hbl.mono B5.out.size))
      clear hbl HBL HC HB R5 o0 N1
      rcases n2 with hK | hK <;> rcases n3 with hN | hN <;> subst hK <;> subst hN
      all_goals
        go_wp2
        go_ret
        exact ⟨rfl, B6.out⟩
end Go.Proofs.YtbkafkpnohbccaaDoor.S8
