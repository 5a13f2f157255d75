/-
  The call of the statement SetsLeaves of layer 8.
-/
import Derived.Test.YtbkafkpnohbccaaDoorSetE
import Derived.Test.YtbkafkpnohbccaaDoorSetP
namespace Go.Proofs.YtbkafkpnohbccaaDoor.S8
set_option linter.unusedSimpArgs false
set_option linter.unusedVariables false
open Go.RowKit S7

set_option maxRecDepth 100000 in
set_option maxHeartbeats 8000000 in
theorem setsLeaves_walk (M : SC) (W : World) (hk : M.ok W) (h : Int) (wh : (Lit.int .i64 h).wf = true) :
    Calls Tryd.prog 6 #[.int .i64 h] W fun e w' => e = .returned (.bool true) ∧ Below W.heap.size W w' := by
  have HK := Lib.hid hk
  clear hk wh
  obtain ⟨LV, hLV⟩ : ∃ x, x = lvs h := ⟨_, rfl⟩
  have HLH := Lib.hid (show ∀ X, M.ok X → Calls Tryd.prog 14 #[.agg #[.int .u32 0, .int .i64 0, .int .i64 0, .int .i64 h]] X fun e w' => e = .returned (.int .u64 (LV : Int)) ∧ Below X.heap.size X w' from fun X g => by rw [hLV]; exact M.leaves 0 0 0 h X g)
  have HLE := Lib.hid hLV
  clear hLV
  have LT := Lib.hid (show treeL.length = 36 by decide)
  go_enter Tryd.func6, Tryd.ntmps6
  go_wp2_with (first
    | (go_at_call 8; ((with_reducible refine (awake_true M _ HK.out).mono ?_); rintro e w1 ⟨rfl, c1⟩; have B1 := Lib.hid c1; clear c1))
    | (go_at_call 17; ((with_reducible refine (M.treeC _ (M.bel HK.out B1.out)).mono ?_); intro e w5 h5; obtain ⟨A5, c5, rfl, r5, b5⟩ := h5; rw [LT.out] at r5; rw [LT.out]; have B5 := Lib.hid (B1.out.trans (b5.mono B1.out.size)); have R5 := Lib.hid r5; clear b5 r5)))
  obtain ⟨b, off, rfl, hb, hcell⟩ := R5.out.at_ (by omega)
  have HC := Lib.hid hcell
  have HB := Lib.hid hb
  clear hcell hb
  go_loopw [4, 5] (fun s i wr => ∃ k : Nat, k ≤ 36 ∧ i = .int .i64 (k : Int) ∧ s = .int .u64 (sumL k : Int) ∧ Below w5.heap.size w5 wr) (fun _ i _ => 36 - (intOf i).toNat)
  case atStart => exact ⟨0, by omega, rfl, rfl, Below.refl _ _⟩
  case round =>
    obtain ⟨j, hj, rfl, rfl, hbl⟩ := hrel
    have HBL := Lib.hid hbl
    by_cases hlt2 : j < 36
    · have i1 : (j : Int) < 36 := by omega
      obtain ⟨f1, f2, f3, f4, f5⟩ := treeL_facts j hlt2
      obtain ⟨C, hC⟩ : ∃ C, C = treeL.getD j 0 := ⟨_, rfl⟩
      have hn := sumL_next j hlt2
      have hle := sumL_le j hj
      have hle2 := sumL_le (j + 1) hlt2
      rw [← hC] at f1 f2 f4 f5 hn
      obtain ⟨K', hK⟩ : ∃ K, K = tK C := ⟨_, rfl⟩
      obtain ⟨N', hN⟩ : ∃ N, N = tN C := ⟨_, rfl⟩
      obtain ⟨H, hH⟩ : ∃ H, H = tH C := ⟨_, rfl⟩
      rw [← hH] at f4 f5 hn
      obtain ⟨L, hL⟩ : ∃ L, L = 2 ^ H := ⟨_, rfl⟩
      have HO := Lib.hid (show ∀ X, M.ok X → Calls Tryd.prog 11 #[.int .u32 (C : Int)] X fun e w' => e = .returned (.tuple #[.agg #[.int .u32 (C : Int), .int .i64 (K' : Int), .int .i64 (N' : Int), .int .i64 (H : Int)], .int .i64 0]) ∧ Below X.heap.size X w' from fun X g => by
        have h := M.tree C X f2 g
        rw [treeA, treeE, f1, if_pos rfl, if_pos rfl, ← hK, ← hN, ← hH] at h
        exact h)
      have HF := Lib.hid (show ∀ X, M.ok X → Calls Tryd.prog 14 #[.agg #[.int .u32 (C : Int), .int .i64 (K' : Int), .int .i64 (N' : Int), .int .i64 (H : Int)]] X fun e w' => e = .returned (.int .u64 (L : Int)) ∧ Below X.heap.size X w' from fun X g => by rw [hL, ← (lvs_pos H f4 f5).1]; exact M.leaves C K' N' H X g)
      have g0 := (hbl.cell (p := ⟨b, off + j, none⟩) HB.out).trans (HC.out j hlt2)
      rw [← hC] at g0
      rw [← hL] at hn
      obtain ⟨T, hT⟩ : ∃ T, T = sumL j := ⟨_, rfl⟩
      rw [← hT] at hn hle ⊢
      rw [hn] at hle2
      have HN := Lib.hid hn
      clear hK hN hH f1 f3 f4 f5 hbl hC hn hT hL
      go_upto_region 11 with (go_at_call 11; ((with_reducible refine (HO.out _ (M.bel HK.out (B5.out.trans (HBL.out.mono B5.out.size)))).mono ?_); rintro e w7 ⟨rfl, c7⟩; have B7 := Lib.hid (HBL.out.trans (c7.mono HBL.out.size)); clear c7))
      obtain ⟨w8, hw8⟩ : ∃ w8, w7.alloc (.cells #[.int .u32 (C : Int), .int .i64 (K' : Int), .int .i64 (N' : Int), .int .i64 (H : Int)] 26) = w8 := ⟨_, rfl⟩
      have X8 : Bk w8 w7.heap.size 26 #[.int .u32 (C : Int), .int .i64 (K' : Int), .int .i64 (N' : Int), .int .i64 (H : Int)] := by rw [← hw8]; exact Bk.new _ _ _
      have b8 : Below w5.heap.size w5 w8 := by rw [← hw8]; exact B7.out.alloc B7.out.size _
      rw [hw8]
      have y0 := X8.cell 0
      have y1 := X8.cell 1
      have y2 := X8.cell 2
      have y3 := X8.cell 3
      simp at y0 y1 y2 y3
      have B8 := Lib.hid b8
      clear hw8 X8 g0 b8
      go_wp2_with (go_at_call 14; ((with_reducible refine (HF.out _ (M.bel HK.out (B5.out.trans (B8.out.mono B5.out.size)))).mono ?_); rintro e w9 ⟨rfl, c9⟩; have B9 := Lib.hid (B8.out.trans (c9.mono B8.out.size)); clear c9))
      go_roundw
      case rel => exact ⟨j + 1, by omega, by go_num, by rw [HN.out]; go_num, B9.out⟩
      case measure => simp [intOf]; omega
    · obtain rfl : j = 36 := by omega
      rw [sumL_all]
      have B6 := Lib.hid (B5.out.trans (hbl.mono B5.out.size))
      clear hbl HBL HC HB R5
      by_cases h1 : h < 1
      · have q1 : decide (h < 1) = true := by simpa using h1
        have e0 := HLE.out
        rw [lvs, if_neg (by omega)] at e0
        have q3 : ((LV : Int) == 0) = true := by simp [e0]
        clear e0 h1
        go_wp2_with (go_at_call 14; ((with_reducible refine (HLH.out _ (M.bel HK.out B6.out)).mono ?_); rintro e w9 ⟨rfl, c9⟩; have B9 := Lib.hid (B6.out.trans (c9.mono B6.out.size)); clear c9))
        go_ret
        exact ⟨rfl, B9.out⟩
      · have q1 : decide (h < 1) = false := by simpa using h1
        by_cases h2 : 25 < h
        · have q2 : decide (25 < h) = true := by simpa using h2
          have e0 := HLE.out
          rw [lvs, if_neg (by omega)] at e0
          have q3 : ((LV : Int) == 0) = true := by simp [e0]
          clear e0 h1 h2
          go_wp2_with (go_at_call 14; ((with_reducible refine (HLH.out _ (M.bel HK.out B6.out)).mono ?_); rintro e w9 ⟨rfl, c9⟩; have B9 := Lib.hid (B6.out.trans (c9.mono B6.out.size)); clear c9))
          go_ret
          exact ⟨rfl, B9.out⟩
        · have q2 : decide (25 < h) = false := by simpa using h2
          have e0 := HLE.out
          rw [lvs, if_pos (by omega)] at e0
          obtain ⟨n, hnn⟩ : ∃ n : Nat, h = (n : Int) := ⟨h.toNat, by omega⟩
          subst hnn
          rw [Int.toNat_natCast] at e0
          have hn1 : 1 ≤ LV := by rw [e0]; exact Nat.two_pow_pos _
          have hn25 : n ≤ 25 := by omega
          have hlb : LV ≤ 33554432 := by rw [e0]; exact Nat.le_trans (Nat.pow_le_pow_right (by omega) hn25) (by decide)
          have q3 : ((LV : Int) == 0) = false := by simp; omega
          have q4 : (LV : Int) / 2 ^ n = 1 := by
            rw [e0]
            have : ((2 ^ n : Nat) : Int) / 2 ^ n = 1 := by
              rw [Int.natCast_pow]
              have h9 : (0 : Int) < 2 ^ n := Int.pow_pos (by decide)
              exact Int.ediv_self (by omega)
            exact this
          clear e0 h1 h2
          go_wp2_with (go_at_call 14; ((with_reducible refine (HLH.out _ (M.bel HK.out B6.out)).mono ?_); rintro e w9 ⟨rfl, c9⟩; have B9 := Lib.hid (B6.out.trans (c9.mono B6.out.size)); clear c9))
          go_ret
          exact ⟨rfl, B9.out⟩
end Go.Proofs.YtbkafkpnohbccaaDoor.S8
