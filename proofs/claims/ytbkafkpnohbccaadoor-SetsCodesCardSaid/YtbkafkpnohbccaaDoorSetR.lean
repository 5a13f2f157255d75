/-
  What the document's own calls of layer 8 do. No statement is proved here.
-/
import Derived.Test.YtbkafkpnohbccaaDoorSet
import Derived.Test.YtbkafkpnohbccaaDoorDigS
namespace Go.Proofs.YtbkafkpnohbccaaDoor.S8
set_option linter.unusedSimpArgs false
set_option linter.unusedVariables false
open Go.RowKit S7

theorem rsize_i (i : Nat) (h : i < 1000) (W : World) : Calls Tryd.prog 24 #[.int .i64 (i : Int)] W fun e w' => e = .returned (.tuple #[.int .i64 ((i / 2 : Nat) : Int), .int .i64 (szN i : Int)]) ∧ W = w' := by
  obtain ⟨q, hq⟩ : ∃ q, q = i / 2 := ⟨_, rfl⟩
  have q1 : (i : Int) / 2 = (q : Int) := by omega
  have q2 : (i : Int).tdiv 2 = (q : Int) := by rw [Int.tdiv_eq_ediv_of_nonneg (by omega)]; exact q1
  rw [← hq]
  by_cases hm : i % 2 = 1
  · have m1 : (i : Int) % 2 = 1 := by omega
    have m2 : (i : Int).tmod 2 = 1 := by rw [Int.tmod_eq_emod_of_nonneg (by omega)]; exact m1
    rw [szN, if_pos hm]
    clear hq hm
    go_enter Tryd.func24, Tryd.ntmps24
    go_wp2
    go_ret2
    exact ⟨rfl, rfl⟩
  · have m1 : (i : Int) % 2 = 0 := by omega
    have m2 : (i : Int).tmod 2 = 0 := by rw [Int.tmod_eq_emod_of_nonneg (by omega)]; exact m1
    rw [szN, if_neg hm]
    clear hq hm
    go_enter Tryd.func24, Tryd.ntmps24
    go_wp2
    go_ret2
    exact ⟨rfl, rfl⟩
set_option maxHeartbeats 2000000 in
theorem rots_any (c : Nat) (hc : c < 4294967296) (W : World) : Calls Tryd.prog 10 #[.int .u32 (c : Int)] W fun e w' => e = .returned (.tuple #[otsA c, .int .i64 (otsE c : Int)]) ∧ Below W.heap.size W w' := by
  cases hk : okO c with
  | false =>
    rw [otsA, otsE, hk, if_neg (by simp), if_neg (by simp)]
    unfold otsV
    by_cases h1 : c < 1
    · have q1 : decide ((c : Int) < 1) = true := by simp; omega
      clear hk
      go_enter Tryd.func10, Tryd.ntmps10
      go_wp2
      exact bodyPost_ret (v := .tuple #[.agg #[.int .u32 0, .int .i64 0, .int .i64 0, .int .i64 0, .int .i64 0, .int .i64 0], .int .i64 4]) (by simp [results, Tryd.results10, go_sem]) rfl ⟨rfl, (Below.refl _ _).alloc (Nat.le_refl _) _⟩
    · have q1 : decide ((c : Int) < 1) = false := by simp; omega
      have q2 : decide (16 < (c : Int)) = true := by simp [okO] at hk; simp; omega
      clear hk
      go_enter Tryd.func10, Tryd.ntmps10
      go_wp2
      exact bodyPost_ret (v := .tuple #[.agg #[.int .u32 0, .int .i64 0, .int .i64 0, .int .i64 0, .int .i64 0, .int .i64 0], .int .i64 4]) (by simp [results, Tryd.results10, go_sem]) rfl ⟨rfl, (Below.refl _ _).alloc (Nat.le_refl _) _⟩
  | true =>
    have hk1 : 1 ≤ c ∧ c ≤ 16 := by simpa [okO] using hk
    have q1 : decide ((c : Int) < 1) = false := by simp; omega
    have q2 : decide (16 < (c : Int)) = false := by simp; omega
    obtain ⟨hp1, hp2, hp3⟩ := oP_small c hk
    rw [otsA, otsE, hk, if_pos rfl, if_pos rfl]
    obtain ⟨d, hd⟩ : ∃ d, d = c - 1 := ⟨_, rfl⟩
    have d1 : (c : Int) - 1 = (d : Int) := by omega
    have hd16 : d < 16 := by omega
    obtain ⟨i, hi⟩ : ∃ i, i = oI c := ⟨_, rfl⟩
    have hid : i = d / 4 := by rw [hi, oI, hd]
    have hi4 : i < 4 := by omega
    have d2 : (d : Int) / 4 = (i : Int) := by omega
    have d3 : (d : Int).tdiv 4 = (i : Int) := by rw [Int.tdiv_eq_ediv_of_nonneg (by omega)]; exact d2
    obtain ⟨r, hr⟩ : ∃ r, r = d % 4 := ⟨_, rfl⟩
    have hr4 : r < 4 := by omega
    have d4 : (d : Int) % 4 = (r : Int) := by omega
    have d5 : (d : Int).tmod 4 = (r : Int) := by rw [Int.tmod_eq_emod_of_nonneg (by omega)]; exact d4
    obtain ⟨v, hv⟩ : ∃ v, v = oW c := ⟨_, rfl⟩
    have hpk := pk_load (v := v) hr4 (by rw [hv, oW, ← hd, ← hr])
    obtain ⟨n, hn⟩ : ∃ n, n = oN c := ⟨_, rfl⟩
    have hns : szN i = n := by rw [hn, oN, hi]
    have hnb : 1 ≤ n ∧ n ≤ 64 := by rcases szN_cases i with h | h <;> omega
    obtain ⟨k, hkk⟩ : ∃ k, k = oK c := ⟨_, rfl⟩
    have hki : i / 2 = k := by rw [hkk, oK, hi]
    have HSZ := Lib.hid (show ∀ X, Calls Tryd.prog 24 #[.int .i64 (i : Int)] X fun e w' => e = .returned (.tuple #[.int .i64 (k : Int), .int .i64 (n : Int)]) ∧ X = w' from fun X => by rw [← hns, ← hki]; exact rsize_i i (by omega) X)
    obtain ⟨U, hU⟩ : ∃ U, U = shU n v := ⟨_, rfl⟩
    obtain ⟨V, hV⟩ : ∃ V, V = shV n v := ⟨_, rfl⟩
    obtain ⟨L, hL⟩ : ∃ L, L = shL n v := ⟨_, rfl⟩
    have HSH := Lib.hid (show ∀ X, Calls Tryd.prog 25 #[.int .i64 (n : Int), .int .i64 (v : Int)] X fun e w' => e = .returned (.tuple #[.int .i64 (U : Int), .int .i64 (V : Int), .int .i64 (L : Int)]) ∧ X = w' from fun X => by rw [hU, hV, hL]; exact rshape_any n v X hnb.1 hnb.2 (by rw [hv]; exact oW_wid c))
    obtain ⟨P, hP⟩ : ∃ P, P = oP c := ⟨_, rfl⟩
    have hPU : P = U + V := by rw [hP, hp3, hU, hV, hn, hv]
    have d6 : (U : Int) + (V : Int) = (P : Int) := by omega
    have hP9 : P ≤ 265 := by omega
    have hSL : oS c = L := by rw [hL, hn, hv]; rfl
    rw [← hkk, ← hn, ← hv, ← hP, hSL]
    unfold otsV
    clear hk hp1 hp2 hp3 hd hi hid hr hv hn hns hkk hki hU hV hL hP hPU hSL
    go_enter Tryd.func10, Tryd.ntmps10
    go_wp2_with (first
      | (go_at_call 24; ((with_reducible refine (HSZ.out _).mono ?_); rintro e w2 ⟨rfl, rfl⟩))
      | (go_at_call 25; ((with_reducible refine (HSH.out _).mono ?_); rintro e w2 ⟨rfl, rfl⟩)))
    exact bodyPost_ret (v := .tuple #[.agg #[.int .u32 (c : Int), .int .i64 (k : Int), .int .i64 (n : Int), .int .i64 (v : Int), .int .i64 (P : Int), .int .i64 (L : Int)], .int .i64 0]) (by simp [results, Tryd.results10, go_sem]) rfl ⟨rfl, ((Below.refl _ _).alloc (Nat.le_refl _) _).alloc (by simp) _⟩
set_option maxHeartbeats 2000000 in
theorem rtree_any (c : Nat) (hc : c < 4294967296) (W : World) : Calls Tryd.prog 12 #[.int .u32 (c : Int)] W fun e w' => e = .returned (.tuple #[treeA c, .int .i64 (treeE c : Int)]) ∧ Below W.heap.size W w' := by
  by_cases ha : 5 ≤ c ∧ c ≤ 24
  · have hk : okT c = true := by simp [okT]; omega
    have q1 : decide (5 ≤ (c : Int)) = true := by simp; omega
    have q2 : decide ((c : Int) ≤ 24) = true := by simp; omega
    rw [treeA, treeE, hk, if_pos rfl, if_pos rfl]
    obtain ⟨d, hd⟩ : ∃ d, d = c - 5 := ⟨_, rfl⟩
    have d1 : (c : Int) - 5 = (d : Int) := by omega
    have hd20 : d < 20 := by omega
    obtain ⟨i, hi⟩ : ∃ i, i = tI c := ⟨_, rfl⟩
    have hid : i = d / 5 := by rw [hi, tI, if_pos ha.2, hd]
    have d2 : (d : Int) / 5 = (i : Int) := by omega
    have d3 : (d : Int).tdiv 5 = (i : Int) := by rw [Int.tdiv_eq_ediv_of_nonneg (by omega)]; exact d2
    obtain ⟨r, hr⟩ : ∃ r, r = d % 5 := ⟨_, rfl⟩
    have hr5 : r < 5 := by omega
    have d4 : (d : Int) % 5 = (r : Int) := by omega
    have d5 : (d : Int).tmod 5 = (r : Int) := by rw [Int.tmod_eq_emod_of_nonneg (by omega)]; exact d4
    obtain ⟨h, hh⟩ : ∃ h, h = tH c := ⟨_, rfl⟩
    have hhr : h = 5 * (1 + r) := by rw [hh, tH, if_pos ha.2, hr, hd]
    have d6 : 5 * (1 + (r : Int)) = (h : Int) := by omega
    have hhb : h ≤ 25 := by omega
    obtain ⟨n, hn⟩ : ∃ n, n = tN c := ⟨_, rfl⟩
    obtain ⟨k, hkk⟩ : ∃ k, k = tK c := ⟨_, rfl⟩
    have HSZ := Lib.hid (show ∀ X, Calls Tryd.prog 24 #[.int .i64 (i : Int)] X fun e w' => e = .returned (.tuple #[.int .i64 (k : Int), .int .i64 (n : Int)]) ∧ X = w' from fun X => by rw [hn, hkk, tN, tK, ← hi]; exact rsize_i i (by omega) X)
    rw [← hkk, ← hn, ← hh]
    unfold treeV
    have hi4 : i < 4 := by omega
    clear hk hd hi hid hr hh hhr hn hkk ha
    go_enter Tryd.func12, Tryd.ntmps12
    go_wp2_with (go_at_call 24; ((with_reducible refine (HSZ.out _).mono ?_); rintro e w2 ⟨rfl, rfl⟩))
    exact bodyPost_ret (v := .tuple #[.agg #[.int .u32 (c : Int), .int .i64 (k : Int), .int .i64 (n : Int), .int .i64 (h : Int)], .int .i64 0]) (by simp [results, Tryd.results12, go_sem]) rfl ⟨rfl, (Below.refl _ _).alloc (Nat.le_refl _) _⟩
  · by_cases hb : 4026531841 ≤ c ∧ c ≤ 4026531856
    · have hk : okT c = true := by simp [okT]; omega
      have q1 : decide (5 ≤ (c : Int)) = true := by simp; omega
      have q2 : decide ((c : Int) ≤ 24) = false := by simp; omega
      have q3 : decide (4026531841 ≤ (c : Int)) = true := by simp; omega
      have q4 : decide ((c : Int) ≤ 4026531856) = true := by simp; omega
      have h24 : ¬ c ≤ 24 := by omega
      rw [treeA, treeE, hk, if_pos rfl, if_pos rfl]
      obtain ⟨d, hd⟩ : ∃ d, d = c - 4026531841 := ⟨_, rfl⟩
      have d1 : (c : Int) - 4026531841 = (d : Int) := by omega
      have hd20 : d < 16 := by omega
      obtain ⟨i, hi⟩ : ∃ i, i = tI c := ⟨_, rfl⟩
      have hid : i = d / 4 := by rw [hi, tI, if_neg h24, hd]
      have d2 : (d : Int) / 4 = (i : Int) := by omega
      have d3 : (d : Int).tdiv 4 = (i : Int) := by rw [Int.tdiv_eq_ediv_of_nonneg (by omega)]; exact d2
      obtain ⟨r, hr⟩ : ∃ r, r = d % 4 := ⟨_, rfl⟩
      have hr5 : r < 4 := by omega
      have d4 : (d : Int) % 4 = (r : Int) := by omega
      have d5 : (d : Int).tmod 4 = (r : Int) := by rw [Int.tmod_eq_emod_of_nonneg (by omega)]; exact d4
      obtain ⟨h, hh⟩ : ∃ h, h = tH c := ⟨_, rfl⟩
      have hhr : h = 1 + r := by rw [hh, tH, if_neg h24, hr, hd]
      have d6 : 1 + (r : Int) = (h : Int) := by omega
      have hhb : h ≤ 25 := by omega
      obtain ⟨n, hn⟩ : ∃ n, n = tN c := ⟨_, rfl⟩
      obtain ⟨k, hkk⟩ : ∃ k, k = tK c := ⟨_, rfl⟩
      have HSZ := Lib.hid (show ∀ X, Calls Tryd.prog 24 #[.int .i64 (i : Int)] X fun e w' => e = .returned (.tuple #[.int .i64 (k : Int), .int .i64 (n : Int)]) ∧ X = w' from fun X => by rw [hn, hkk, tN, tK, ← hi]; exact rsize_i i (by omega) X)
      rw [← hkk, ← hn, ← hh]
      unfold treeV
      have hi4 : i < 4 := by omega
      clear hk hd hi hid hr hh hhr hn hkk ha hb
      go_enter Tryd.func12, Tryd.ntmps12
      go_wp2_with (go_at_call 24; ((with_reducible refine (HSZ.out _).mono ?_); rintro e w2 ⟨rfl, rfl⟩))
      exact bodyPost_ret (v := .tuple #[.agg #[.int .u32 (c : Int), .int .i64 (k : Int), .int .i64 (n : Int), .int .i64 (h : Int)], .int .i64 0]) (by simp [results, Tryd.results12, go_sem]) rfl ⟨rfl, (Below.refl _ _).alloc (Nat.le_refl _) _⟩
    · have hk : okT c = false := by simp [okT]; omega
      rw [treeA, treeE, hk, if_neg (by simp), if_neg (by simp)]
      unfold treeV
      clear hk
      by_cases h5 : 5 ≤ c
      · have q1 : decide (5 ≤ (c : Int)) = true := by simp; omega
        have q2 : decide ((c : Int) ≤ 24) = false := by simp; omega
        by_cases h6 : 4026531841 ≤ c
        · have q3 : decide (4026531841 ≤ (c : Int)) = true := by simp; omega
          have q4 : decide ((c : Int) ≤ 4026531856) = false := by simp; omega
          clear ha hb h5 h6
          go_enter Tryd.func12, Tryd.ntmps12
          go_wp2
          exact bodyPost_ret (v := .tuple #[.agg #[.int .u32 0, .int .i64 0, .int .i64 0, .int .i64 0], .int .i64 4]) (by simp [results, Tryd.results12, go_sem]) rfl ⟨rfl, (Below.refl _ _).alloc (Nat.le_refl _) _⟩
        · have q3 : decide (4026531841 ≤ (c : Int)) = false := by simp; omega
          clear ha hb h5 h6
          go_enter Tryd.func12, Tryd.ntmps12
          go_wp2
          exact bodyPost_ret (v := .tuple #[.agg #[.int .u32 0, .int .i64 0, .int .i64 0, .int .i64 0], .int .i64 4]) (by simp [results, Tryd.results12, go_sem]) rfl ⟨rfl, (Below.refl _ _).alloc (Nat.le_refl _) _⟩
      · have q1 : decide (5 ≤ (c : Int)) = false := by simp; omega
        have q3 : decide (4026531841 ≤ (c : Int)) = false := by simp; omega
        clear ha hb h5
        go_enter Tryd.func12, Tryd.ntmps12
        go_wp2
        exact bodyPost_ret (v := .tuple #[.agg #[.int .u32 0, .int .i64 0, .int .i64 0, .int .i64 0], .int .i64 4]) (by simp [results, Tryd.results12, go_sem]) rfl ⟨rfl, (Below.refl _ _).alloc (Nat.le_refl _) _⟩
set_option maxHeartbeats 2000000 in
theorem rleaves_any (a b c h : Int) (W : World) : Calls Tryd.prog 15 #[treeV a b c h] W fun e w' => e = .returned (.int .u64 (lvs h : Int)) ∧ Below W.heap.size W w' := by
  unfold treeV
  by_cases h1 : h < 1
  · have q1 : decide (h < 1) = true := by simpa using h1
    have e : lvs h = 0 := by rw [lvs, if_neg (by omega)]
    rw [e]
    clear e h1
    go_enter Tryd.func15, Tryd.ntmps15
    go_wp2
    go_ret
    exact ⟨rfl, (Below.refl _ _).alloc (Nat.le_refl _) _⟩
  · have q1 : decide (h < 1) = false := by simpa using h1
    by_cases h2 : 25 < h
    · have q2 : decide (25 < h) = true := by simpa using h2
      have e : lvs h = 0 := by rw [lvs, if_neg (by omega)]
      rw [e]
      clear e h1 h2
      go_enter Tryd.func15, Tryd.ntmps15
      go_wp2
      go_ret
      exact ⟨rfl, (Below.refl _ _).alloc (Nat.le_refl _) _⟩
    · have q2 : decide (25 < h) = false := by simpa using h2
      obtain ⟨n, rfl⟩ := Int.eq_ofNat_of_zero_le (show 0 ≤ h by omega)
      have hn : n ≤ 25 := by omega
      have HE := Lib.hid (show lvs (n : Int) = 2 ^ n by rw [lvs, if_pos (by omega), Int.toNat_natCast])
      clear h1 h2
      go_enter Tryd.func15, Tryd.ntmps15
      go_wp2
      clear q1 q2
      go_loop [3, 4] (fun x i => ∃ j : Nat, j ≤ n ∧ i = .int .i64 (j : Int) ∧ x = .int .u64 ((2 ^ j : Nat) : Int)) (fun _ i => n - (intOf i).toNat)
      case atStart => exact ⟨0, by omega, rfl, rfl⟩
      case round =>
        obtain ⟨j, hj, rfl, rfl⟩ := hrel
        obtain ⟨P, hP⟩ : ∃ P, P = 2 ^ j := ⟨_, rfl⟩
        have hPb : P ≤ 33554432 := by rw [hP]; exact Nat.le_trans (Nat.pow_le_pow_right (by omega) (Nat.le_trans hj hn)) (by decide)
        by_cases hlt : j < n
        · have i0 : (j : Int) < (n : Int) := by omega
          have HP := Lib.hid (show 2 ^ (j + 1) = P * 2 by rw [hP, Nat.pow_succ])
          rw [← hP]
          clear hP
          go_wp2
          go_round
          case rel => exact ⟨j + 1, by omega, by go_num, by rw [HP.out]; go_num⟩
          case measure => simp [intOf]; omega
        · obtain rfl : j = n := by omega
          have i0 : ¬ (j : Int) < (j : Int) := by omega
          have HPP := Lib.hid hP
          rw [← hP]
          clear hP
          go_wp2
          go_ret
          exact ⟨by have e := HPP.out; rw [← HE.out] at e; rw [← e]; rfl, (Below.refl _ _).alloc (Nat.le_refl _) _⟩
end Go.Proofs.YtbkafkpnohbccaaDoor.S8
