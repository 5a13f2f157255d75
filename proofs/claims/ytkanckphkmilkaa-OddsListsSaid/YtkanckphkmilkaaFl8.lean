/-
  The best of a list, put first; a list without its best. Plain facts, of no program.
-/
import Derived.Test.YtkanckphkmilkaaFl7
namespace Go.Proofs.Ytkanckphkmilkaa.F
set_option linter.unusedSimpArgs false
set_option linter.unusedVariables false

def allT (xs : List Nat) (i : Nat) : Bool := (List.range i).all fun j => isN (xs.getD j 0)
theorem allT_succ (xs : List Nat) (i : Nat) : allT xs (i + 1) = (allT xs i && isN (xs.getD i 0)) := by
  simp only [allT, List.range_succ, List.all_append, List.all_cons, List.all_nil, Bool.and_true]
theorem allT_none {xs : List Nat} (h : ∀ j, j < xs.length → isN (xs.getD j 0) = true) : allT xs xs.length = true := by
  simp only [allT, List.all_eq_true, List.mem_range]
  exact h
theorem allT_some {xs : List Nat} {k : Nat} (h : IsBest xs k) : allT xs xs.length = false := by
  cases hq : allT xs xs.length with
  | false => rfl
  | true =>
    simp only [allT, List.all_eq_true, List.mem_range] at hq
    have := hq k h.1
    rw [h.2.1] at this
    cases this
theorem best_first {xs : List Nat} {k : Nat} {v : Int} (h : IsBest xs k) (hv : BestIs (xs.getD k 0 :: xs) v) : v = 0 := by
  refine BestIs.unique hv (.inl ⟨0, rfl, by simp, by simpa using h.2.1, fun j hj hn => ?_⟩)
  refine ⟨?_, fun h => by omega⟩
  cases j with
  | zero => exact Int.le_refl _
  | succ j =>
    have h1 : j < xs.length := by simpa using hj
    have e : (xs.getD k 0 :: xs).getD (j + 1) 0 = xs.getD j 0 := by simp [List.getD]
    rw [e] at hn ⊢
    exact (h.2.2 j h1 hn).1
/-- A list without place k. -/
def restL (xs : List Nat) (k : Nat) : List Nat := xs.take k ++ xs.drop (k + 1)
theorem restL_length {xs : List Nat} {k : Nat} (h : k < xs.length) : (restL xs k).length = xs.length - 1 := by
  simp [restL]; omega
theorem restL_get {xs : List Nat} {k j : Nat} (h : k < xs.length) (hj : j < (restL xs k).length) : ∃ i, i < xs.length ∧ (restL xs k).getD j 0 = xs.getD i 0 := by
  rw [restL_length h] at hj
  rcases Nat.lt_or_ge j k with h1 | h1
  · refine ⟨j, by omega, ?_⟩
    simp only [restL, List.getD_eq_getElem?_getD]
    rw [List.getElem?_append_left (by simp; omega), List.getElem?_take, if_pos h1]
  · refine ⟨j + 1, by omega, ?_⟩
    simp only [restL, List.getD_eq_getElem?_getD]
    rw [List.getElem?_append_right (by simp; omega), List.getElem?_drop]
    congr 2
    simp
    omega
theorem best_rest {xs : List Nat} {k j : Nat} (h : IsBest xs k) (hv : IsBest (restL xs k) j) : cmpW ((restL xs k).getD j 0) (xs.getD k 0) ≤ 0 := by
  obtain ⟨i, hi, e⟩ := restL_get h.1 hv.1
  have hn := hv.2.1
  rw [e] at hn ⊢
  exact cmpW_le.2 (h.2.2 i hi hn).1
end Go.Proofs.Ytkanckphkmilkaa.F
