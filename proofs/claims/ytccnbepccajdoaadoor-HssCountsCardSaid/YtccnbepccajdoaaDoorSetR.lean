/-
  What the document's own calls of layer 8 do. No statement is proved here.
-/
import Derived.Test.YtccnbepccajdoaaDoorSet
import Derived.Test.YtccnbepccajdoaaDoorDigS
namespace Go.Proofs.YtccnbepccajdoaaDoor.S8
set_option linter.unusedSimpArgs false
set_option linter.unusedVariables false
open Go.RowKit S7

theorem rsize_i (i : Nat) (h : i < 1000) (W : World) : Calls Tryd.prog 37 #[.int .i64 (i : Int)] W fun e w' => e = .returned (.tuple #[.int .i64 ((i / 2 : Nat) : Int), .int .i64 (szN i : Int)]) ∧ W = w' := by
  obtain ⟨q, hq⟩ : ∃ q, q = i / 2 := ⟨_, rfl⟩
  have q1 : (i : Int) / 2 = (q : Int) := by omega
  have q2 : (i : Int).tdiv 2 = (q : Int) := by rw [Int.tdiv_eq_ediv_of_nonneg (by omega)]; exact q1
  rw [← hq]
  by_cases hm : i % 2 = 1
  · have m1 : (i : Int) % 2 = 1 := by omega
    have m2 : (i : Int).tmod 2 = 1 := by rw [Int.tmod_eq_emod_of_nonneg (by omega)]; exact m1
    rw [szN, if_pos hm]
    clear hq hm
    go_enter Tryd.func37, Tryd.ntmps37
    go_wp2
    go_ret2
    exact ⟨rfl, rfl⟩
  · have m1 : (i : Int) % 2 = 0 := by omega
    have m2 : (i : Int).tmod 2 = 0 := by rw [Int.tmod_eq_emod_of_nonneg (by omega)]; exact m1
    rw [szN, if_neg hm]
    clear hq hm
    go_enter Tryd.func37, Tryd.ntmps37
    go_wp2
    go_ret2
    exact ⟨rfl, rfl⟩
set_option maxHeartbeats 2000000 in
theorem rots_any (c : Nat) (hc : c < 4294967296) (W : World) : Calls Tryd.prog 24 #[.int .u32 (c : Int)] W fun e w' => e = .returned (.tuple #[otsA c, .int .i64 (otsE c : Int)]) ∧ Below W.heap.size W w' := by
  cases hk : okO c with
  | false =>
    rw [otsA, otsE, hk, if_neg (by simp), if_neg (by simp)]
    unfold otsV
    by_cases h1 : c < 1
    · have q1 : decide ((c : Int) < 1) = true := by simp; omega
      clear hk
      go_enter Tryd.func24, Tryd.ntmps24
      go_wp2
      exact bodyPost_ret (v := .tuple #[.agg #[.int .u32 0, .int .i64 0, .int .i64 0, .int .i64 0, .int .i64 0, .int .i64 0], .int .i64 4]) (by simp [results, Tryd.results24, go_sem]) rfl ⟨rfl, (Below.refl _ _).alloc (Nat.le_refl _) _⟩
    · have q1 : decide ((c : Int) < 1) = false := by simp; omega
      have q2 : decide (16 < (c : Int)) = true := by simp [okO] at hk; simp; omega
      clear hk
      go_enter Tryd.func24, Tryd.ntmps24
      go_wp2
      exact bodyPost_ret (v := .tuple #[.agg #[.int .u32 0, .int .i64 0, .int .i64 0, .int .i64 0, .int .i64 0, .int .i64 0], .int .i64 4]) (by simp [results, Tryd.results24, go_sem]) rfl ⟨rfl, (Below.refl _ _).alloc (Nat.le_refl _) _⟩
  | true =>
    have hk1 : 1 ≤ c ∧ c ≤ 16 := by simpa [okO] using hk
    have q1 : decide ((c : Int) < 1) = false := by simp; omega
    have q2 : decide (16 < (c : Int)) = false := by simp; omega
    obtain ⟨hp1, hp2, hp3⟩ := oP_small c hk
    rw [otsA, otsE, hk, if_pos rfl, if_pos rfl]
    obtain ⟨d, hd⟩ : ∃ d, d = c - 1 := ⟨_, rfl⟩
    have d1 : (c : Int) - 1 = (d : Int) := by omega
    have hd16 : d < 16 := by omega
    obtain ⟨i, hi⟩ : ∃ i, i = oI c := ⟨_, rfl⟩
    have hid : i = d / 4 := by rw [hi, oI, hd]
    have hi4 : i < 4 := by omega
    have d2 : (d : Int) / 4 = (i : Int) := by omega
    have d3 : (d : Int).tdiv 4 = (i : Int) := by rw [Int.tdiv_eq_ediv_of_nonneg (by omega)]; exact d2
    obtain ⟨r, hr⟩ : ∃ r, r = d % 4 := ⟨_, rfl⟩
    have hr4 : r < 4 := by omega
    have d4 : (d : Int) % 4 = (r : Int) := by omega
    have d5 : (d : Int).tmod 4 = (r : Int) := by rw [Int.tmod_eq_emod_of_nonneg (by omega)]; exact d4
    obtain ⟨v, hv⟩ : ∃ v, v = oW c := ⟨_, rfl⟩
    have hpk := pk_load (v := v) hr4 (by rw [hv, oW, ← hd, ← hr])
    obtain ⟨n, hn⟩ : ∃ n, n = oN c := ⟨_, rfl⟩
    have hns : szN i = n := by rw [hn, oN, hi]
    have hnb : 1 ≤ n ∧ n ≤ 64 := by rcases szN_cases i with h | h <;> omega
    obtain ⟨k, hkk⟩ : ∃ k, k = oK c := ⟨_, rfl⟩
    have hki : i / 2 = k := by rw [hkk, oK, hi]
    have HSZ := Lib.hid (show ∀ X, Calls Tryd.prog 37 #[.int .i64 (i : Int)] X fun e w' => e = .returned (.tuple #[.int .i64 (k : Int), .int .i64 (n : Int)]) ∧ X = w' from fun X => by rw [← hns, ← hki]; exact rsize_i i (by omega) X)
    obtain ⟨U, hU⟩ : ∃ U, U = shU n v := ⟨_, rfl⟩
    obtain ⟨V, hV⟩ : ∃ V, V = shV n v := ⟨_, rfl⟩
    obtain ⟨L, hL⟩ : ∃ L, L = shL n v := ⟨_, rfl⟩
    have HSH := Lib.hid (show ∀ X, Calls Tryd.prog 38 #[.int .i64 (n : Int), .int .i64 (v : Int)] X fun e w' => e = .returned (.tuple #[.int .i64 (U : Int), .int .i64 (V : Int), .int .i64 (L : Int)]) ∧ X = w' from fun X => by rw [hU, hV, hL]; exact rshape_any n v X hnb.1 hnb.2 (by rw [hv]; exact oW_wid c))
    obtain ⟨P, hP⟩ : ∃ P, P = oP c := ⟨_, rfl⟩
    have hPU : P = U + V := by rw [hP, hp3, hU, hV, hn, hv]
    have d6 : (U : Int) + (V : Int) = (P : Int) := by omega
    have hP9 : P ≤ 265 := by omega
    have hSL : oS c = L := by rw [hL, hn, hv]; rfl
    rw [← hkk, ← hn, ← hv, ← hP, hSL]
    unfold otsV
    clear hk hp1 hp2 hp3 hd hi hid hr hv hn hns hkk hki hU hV hL hP hPU hSL
    go_enter Tryd.func24, Tryd.ntmps24
    go_wp2_with (first
      | (go_at_call 37; ((with_reducible refine (HSZ.out _).mono ?_); rintro e w2 ⟨rfl, rfl⟩))
      | (go_at_call 38; ((with_reducible refine (HSH.out _).mono ?_); rintro e w2 ⟨rfl, rfl⟩)))
    exact bodyPost_ret (v := .tuple #[.agg #[.int .u32 (c : Int), .int .i64 (k : Int), .int .i64 (n : Int), .int .i64 (v : Int), .int .i64 (P : Int), .int .i64 (L : Int)], .int .i64 0]) (by simp [results, Tryd.results24, go_sem]) rfl ⟨rfl, ((Below.refl _ _).alloc (Nat.le_refl _) _).alloc (by simp) _⟩
set_option maxHeartbeats 2000000 in
theorem rtree_any (c : Nat) (hc : c < 4294967296) (W : World) : Calls Tryd.prog 25 #[.int .u32 (c : Int)] W fun e w' => e = .returned (.tuple #[treeA c, .int .i64 (treeE c : Int)]) ∧ Below W.heap.size W w' := by
  by_cases ha : 5 ≤ c ∧ c ≤ 24
  · have hk : okT c = true := by simp [okT]; omega
    have q1 : decide (5 ≤ (c : Int)) = true := by simp; omega
    have q2 : decide ((c : Int) ≤ 24) = true := by simp; omega
    rw [treeA, treeE, hk, if_pos rfl, if_pos rfl]
    obtain ⟨d, hd⟩ : ∃ d, d = c - 5 := ⟨_, rfl⟩
    have d1 : (c : Int) - 5 = (d : Int) := by omega
    have hd20 : d < 20 := by omega
    obtain ⟨i, hi⟩ : ∃ i, i = tI c := ⟨_, rfl⟩
    have hid : i = d / 5 := by rw [hi, tI, if_pos ha.2, hd]
    have d2 : (d : Int) / 5 = (i : Int) := by omega
    have d3 : (d : Int).tdiv 5 = (i : Int) := by rw [Int.tdiv_eq_ediv_of_nonneg (by omega)]; exact d2
    obtain ⟨r, hr⟩ : ∃ r, r = d % 5 := ⟨_, rfl⟩
    have hr5 : r < 5 := by omega
    have d4 : (d : Int) % 5 = (r : Int) := by omega
    have d5 : (d : Int).tmod 5 = (r : Int) := by rw [Int.tmod_eq_emod_of_nonneg (by omega)]; exact d4
    obtain ⟨h, hh⟩ : ∃ h, h = tH c := ⟨_, rfl⟩
    have hhr : h = 5 * (1 + r) := by rw [hh, tH, if_pos ha.2, hr, hd]
    have d6 : 5 * (1 + (r : Int)) = (h : Int) := by omega
    have hhb : h ≤ 25 := by omega
    obtain ⟨n, hn⟩ : ∃ n, n = tN c := ⟨_, rfl⟩
    obtain ⟨k, hkk⟩ : ∃ k, k = tK c := ⟨_, rfl⟩
    have HSZ := Lib.hid (show ∀ X, Calls Tryd.prog 37 #[.int .i64 (i : Int)] X fun e w' => e = .returned (.tuple #[.int .i64 (k : Int), .int .i64 (n : Int)]) ∧ X = w' from fun X => by rw [hn, hkk, tN, tK, ← hi]; exact rsize_i i (by omega) X)
    rw [← hkk, ← hn, ← hh]
    unfold treeV
    have hi4 : i < 4 := by omega
    clear hk hd hi hid hr hh hhr hn hkk ha
    go_enter Tryd.func25, Tryd.ntmps25
    go_wp2_with (go_at_call 37; ((with_reducible refine (HSZ.out _).mono ?_); rintro e w2 ⟨rfl, rfl⟩))
    exact bodyPost_ret (v := .tuple #[.agg #[.int .u32 (c : Int), .int .i64 (k : Int), .int .i64 (n : Int), .int .i64 (h : Int)], .int .i64 0]) (by simp [results, Tryd.results25, go_sem]) rfl ⟨rfl, (Below.refl _ _).alloc (Nat.le_refl _) _⟩
  · by_cases hb : 4026531841 ≤ c ∧ c ≤ 4026531856
    · have hk : okT c = true := by simp [okT]; omega
      have q1 : decide (5 ≤ (c : Int)) = true := by simp; omega
      have q2 : decide ((c : Int) ≤ 24) = false := by simp; omega
      have q3 : decide (4026531841 ≤ (c : Int)) = true := by simp; omega
      have q4 : decide ((c : Int) ≤ 4026531856) = true := by simp; omega
      have h24 : ¬ c ≤ 24 := by omega
      rw [treeA, treeE, hk, if_pos rfl, if_pos rfl]
      obtain ⟨d, hd⟩ : ∃ d, d = c - 4026531841 := ⟨_, rfl⟩
      have d1 : (c : Int) - 4026531841 = (d : Int) := by omega
      have hd20 : d < 16 := by omega
      obtain ⟨i, hi⟩ : ∃ i, i = tI c := ⟨_, rfl⟩
      have hid : i = d / 4 := by rw [hi, tI, if_neg h24, hd]
      have d2 : (d : Int) / 4 = (i : Int) := by omega
      have d3 : (d : Int).tdiv 4 = (i : Int) := by rw [Int.tdiv_eq_ediv_of_nonneg (by omega)]; exact d2
      obtain ⟨r, hr⟩ : ∃ r, r = d % 4 := ⟨_, rfl⟩
      have hr5 : r < 4 := by omega
      have d4 : (d : Int) % 4 = (r : Int) := by omega
      have d5 : (d : Int).tmod 4 = (r : Int) := by rw [Int.tmod_eq_emod_of_nonneg (by omega)]; exact d4
      obtain ⟨h, hh⟩ : ∃ h, h = tH c := ⟨_, rfl⟩
      have hhr : h = 1 + r := by rw [hh, tH, if_neg h24, hr, hd]
      have d6 : 1 + (r : Int) = (h : Int) := by omega
      have hhb : h ≤ 25 := by omega
      obtain ⟨n, hn⟩ : ∃ n, n = tN c := ⟨_, rfl⟩
      obtain ⟨k, hkk⟩ : ∃ k, k = tK c := ⟨_, rfl⟩
      have HSZ := Lib.hid (show ∀ X, Calls Tryd.prog 37 #[.int .i64 (i : Int)] X fun e w' => e = .returned (.tuple #[.int .i64 (k : Int), .int .i64 (n : Int)]) ∧ X = w' from fun X => by rw [hn, hkk, tN, tK, ← hi]; exact rsize_i i (by omega) X)
      rw [← hkk, ← hn, ← hh]
      unfold treeV
      have hi4 : i < 4 := by omega
      clear hk hd hi hid hr hh hhr hn hkk ha hb
      go_enter Tryd.func25, Tryd.ntmps25
      go_wp2_with (go_at_call 37; ((with_reducible refine (HSZ.out _).mono ?_); rintro e w2 ⟨rfl, rfl⟩))
      exact bodyPost_ret (v := .tuple #[.agg #[.int .u32 (c : Int), .int .i64 (k : Int), .int .i64 (n : Int), .int .i64 (h : Int)], .int .i64 0]) (by simp [results, Tryd.results25, go_sem]) rfl ⟨rfl, (Below.refl _ _).alloc (Nat.le_refl _) _⟩
    · have hk : okT c = false := by simp [okT]; omega
      rw [treeA, treeE, hk, if_neg (by simp), if_neg (by simp)]
      unfold treeV
      clear hk
      by_cases h5 : 5 ≤ c
      · have q1 : decide (5 ≤ (c : Int)) = true := by simp; omega
        have q2 : decide ((c : Int) ≤ 24) = false := by simp; omega
        by_cases h6 : 4026531841 ≤ c
        · have q3 : decide (4026531841 ≤ (c : Int)) = true := by simp; omega
          have q4 : decide ((c : Int) ≤ 4026531856) = false := by simp; omega
          clear ha hb h5 h6
          go_enter Tryd.func25, Tryd.ntmps25
          go_wp2
          exact bodyPost_ret (v := .tuple #[.agg #[.int .u32 0, .int .i64 0, .int .i64 0, .int .i64 0], .int .i64 4]) (by simp [results, Tryd.results25, go_sem]) rfl ⟨rfl, (Below.refl _ _).alloc (Nat.le_refl _) _⟩
        · have q3 : decide (4026531841 ≤ (c : Int)) = false := by simp; omega
          clear ha hb h5 h6
          go_enter Tryd.func25, Tryd.ntmps25
          go_wp2
          exact bodyPost_ret (v := .tuple #[.agg #[.int .u32 0, .int .i64 0, .int .i64 0, .int .i64 0], .int .i64 4]) (by simp [results, Tryd.results25, go_sem]) rfl ⟨rfl, (Below.refl _ _).alloc (Nat.le_refl _) _⟩
      · have q1 : decide (5 ≤ (c : Int)) = false := by simp; omega
        have q3 : decide (4026531841 ≤ (c : Int)) = false := by simp; omega
        clear ha hb h5
        go_enter Tryd.func25, Tryd.ntmps25
        go_wp2
        exact bodyPost_ret (v := .tuple #[.agg #[.int .u32 0, .int .i64 0, .int .i64 0, .int .i64 0], .int .i64 4]) (by simp [results, Tryd.results25, go_sem]) rfl ⟨rfl, (Below.refl _ _).alloc (Nat.le_refl _) _⟩
end Go.Proofs.YtccnbepccajdoaaDoor.S8
