/-
  The best of a list: how the document's own loops tell it. Plain facts, of no program.
-/
import Derived.Test.YtkanckphkmilkaaFl6
namespace Go.Proofs.Ytkanckphkmilkaa.F
set_option linter.unusedSimpArgs false
set_option linter.unusedVariables false

/-- Place k speaks against place i. -/
def bad (xs : List Nat) (i k : Nat) : Bool := !isN (xs.getD k 0) && (decide (0 < cmpW (xs.getD k 0) (xs.getD i 0)) || (decide (k < i) && decide (cmpW (xs.getD k 0) (xs.getD i 0) = 0)))
/-- What the inner loop has told of place i, places below m gone through. -/
def goodTo (xs : List Nat) (i m : Nat) : Bool := !isN (xs.getD i 0) && (List.range m).all fun k => !bad xs i k
theorem goodTo_zero (xs : List Nat) (i : Nat) : goodTo xs i 0 = !isN (xs.getD i 0) := by simp [goodTo]
theorem goodTo_succ (xs : List Nat) (i m : Nat) : goodTo xs i (m + 1) = (goodTo xs i m && !bad xs i m) := by
  simp only [goodTo, List.range_succ, List.all_append, List.all_cons, List.all_nil, Bool.and_true, Bool.and_assoc]
theorem good_best {xs : List Nat} {i : Nat} (hi : i < xs.length) (h : goodTo xs i xs.length = true) : IsBest xs i := by
  simp only [goodTo, Bool.and_eq_true, Bool.not_eq_true', List.all_eq_true, List.mem_range] at h
  refine ⟨hi, h.1, fun j hj hn => ?_⟩
  have hb := h.2 j hj
  simp only [bad, hn, Bool.not_false, Bool.true_and, Bool.or_eq_false_iff, Bool.and_eq_false_iff, decide_eq_false_iff_not] at hb
  have h1 : ¬ okey (xs.getD i 0) < okey (xs.getD j 0) := fun e => hb.1 (cmpW_gt.2 e)
  refine ⟨by omega, fun hji => ?_⟩
  have h2 : ¬ cmpW (xs.getD j 0) (xs.getD i 0) = 0 := by
    rcases hb.2 with h2 | h2
    · exact absurd hji h2
    · exact h2
  have h3 : ¬ okey (xs.getD j 0) = okey (xs.getD i 0) := fun e => h2 (cmpW_eq.2 e)
  omega
theorem best_good {xs : List Nat} {i : Nat} (h : IsBest xs i) : goodTo xs i xs.length = true := by
  simp only [goodTo, Bool.and_eq_true, Bool.not_eq_true', List.all_eq_true, List.mem_range]
  refine ⟨h.2.1, fun j hj => ?_⟩
  cases hn : isN (xs.getD j 0) with
  | true => simp only [bad, hn]; rfl
  | false =>
    obtain ⟨h1, h2⟩ := h.2.2 j hj hn
    have h3 : ¬ 0 < cmpW (xs.getD j 0) (xs.getD i 0) := fun e => by have := cmpW_gt.1 e; omega
    simp only [bad, hn, decide_eq_false h3, Bool.not_false, Bool.true_and, Bool.false_or]
    by_cases hji : j < i
    · have h4 : ¬ cmpW (xs.getD j 0) (xs.getD i 0) = 0 := fun e => by have := cmpW_eq.1 e; have := h2 hji; omega
      rw [decide_eq_false h4, Bool.and_false]
    · rw [decide_eq_false hji, Bool.false_and]
/-- Of a list with a number some place is the best. -/
theorem best_ex (xs : List Nat) : ∀ m, m ≤ xs.length → (∀ j, j < m → isN (xs.getD j 0) = true) ∨ ∃ k, k < m ∧ isN (xs.getD k 0) = false ∧ ∀ j, j < m → isN (xs.getD j 0) = false → okey (xs.getD j 0) ≤ okey (xs.getD k 0) ∧ (j < k → okey (xs.getD j 0) < okey (xs.getD k 0))
  | 0, _ => .inl fun j hj => by omega
  | m + 1, hm => by
    rcases best_ex xs m (by omega) with h | ⟨k, h1, h2, h3⟩
    · cases hn : isN (xs.getD m 0) with
      | true =>
        refine .inl fun j hj => ?_
        rcases Nat.lt_or_ge j m with h4 | h4
        · exact h j h4
        · obtain rfl : j = m := by omega
          exact hn
      | false =>
        refine .inr ⟨m, by omega, hn, fun j hj hj2 => ?_⟩
        rcases Nat.lt_or_ge j m with h4 | h4
        · rw [h j h4] at hj2; cases hj2
        · obtain rfl : j = m := by omega
          exact ⟨Int.le_refl _, fun h => by omega⟩
    · by_cases hb : isN (xs.getD m 0) = false ∧ okey (xs.getD k 0) < okey (xs.getD m 0)
      · refine .inr ⟨m, by omega, hb.1, fun j hj hj2 => ?_⟩
        rcases Nat.lt_or_ge j m with h4 | h4
        · have := (h3 j h4 hj2).1
          exact ⟨by omega, fun _ => by omega⟩
        · obtain rfl : j = m := by omega
          exact ⟨Int.le_refl _, fun h => by omega⟩
      · refine .inr ⟨k, by omega, h2, fun j hj hj2 => ?_⟩
        rcases Nat.lt_or_ge j m with h4 | h4
        · exact h3 j h4 hj2
        · obtain rfl : j = m := by omega
          have : ¬ okey (xs.getD k 0) < okey (xs.getD j 0) := fun e => hb ⟨hj2, e⟩
          exact ⟨by omega, fun h => by omega⟩
theorem none_good {xs : List Nat} (h : ∀ i, i < xs.length → goodTo xs i xs.length = false) : BestIs xs (-1) := by
  rcases best_ex xs xs.length (Nat.le_refl _) with h1 | ⟨k, h1, h2, h3⟩
  · exact .inr ⟨rfl, h1⟩
  · have := best_good (xs := xs) (i := k) ⟨h1, h2, h3⟩
    rw [h k h1] at this
    cases this
end Go.Proofs.Ytkanckphkmilkaa.F
