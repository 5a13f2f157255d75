/-
  The lists of codes in plain words. No statement is proved here.
-/
import Derived.Test.YtbkafkpnohbccaaDoorSet
namespace Go.Proofs.YtbkafkpnohbccaaDoor.S8
set_option linter.unusedSimpArgs false
set_option linter.unusedVariables false
open Go.RowKit S7

/-- Whether a number is among the first k. -/
def memB (L : List Nat) (q k : Nat) : Bool := decide (q ∈ L.take k)
theorem memB_zero (L : List Nat) (q : Nat) : memB L q 0 = false := by simp [memB]
theorem memB_next (L : List Nat) (q k : Nat) (h : k < L.length) : memB L q (k + 1) = (memB L q k || decide (L.getD k 0 = q)) := by
  unfold memB
  rw [List.take_succ_eq_append_getElem h, Bool.eq_iff_iff]
  simp only [List.mem_append, List.mem_cons, List.not_mem_nil, or_false, Bool.or_eq_true, decide_eq_true_eq, List.getD, List.getElem?_eq_getElem h, Option.getD_some]
  constructor
  · rintro (h | h)
    · exact .inl h
    · exact .inr h.symm
  · rintro (h | h)
    · exact .inl h
    · exact .inr h.symm
theorem memB_ots (q : Nat) : memB otsL q 16 = okO q := by
  unfold memB okO
  rw [List.take_of_length_le (by decide), Bool.eq_iff_iff]
  simp only [otsL, List.mem_map, List.mem_range, Bool.and_eq_true, decide_eq_true_eq]
  constructor
  · rintro ⟨a, h, rfl⟩; omega
  · rintro ⟨h1, h2⟩; exact ⟨q - 1, by omega, by omega⟩
theorem memB_tree (q : Nat) : memB treeL q 36 = okT q := by
  unfold memB okT
  rw [List.take_of_length_le (by decide), Bool.eq_iff_iff]
  simp only [treeL, List.mem_append, List.mem_map, List.mem_range, Bool.and_eq_true, Bool.or_eq_true, decide_eq_true_eq]
  constructor
  · rintro (⟨a, h, rfl⟩ | ⟨a, h, rfl⟩) <;> omega
  · rintro (⟨h1, h2⟩ | ⟨h1, h2⟩)
    · exact .inl ⟨q - 5, by omega, by omega⟩
    · exact .inr ⟨q - 4026531841, by omega, by omega⟩
theorem otsL_facts : ∀ k, k < 16 → okO (otsL.getD k 0) = true ∧ otsL.getD k 0 < 4294967296 ∧ (0 < k → otsL.getD (k - 1) 0 < otsL.getD k 0) := by
  have h : ∀ k ∈ List.range 16, okO (otsL.getD k 0) = true ∧ otsL.getD k 0 < 4294967296 ∧ (0 < k → otsL.getD (k - 1) 0 < otsL.getD k 0) := by decide +kernel
  exact fun k hk => h k (by simpa using hk)
theorem treeL_facts : ∀ k, k < 36 → okT (treeL.getD k 0) = true ∧ treeL.getD k 0 < 4294967296 ∧ (0 < k → treeL.getD (k - 1) 0 < treeL.getD k 0) ∧ 1 ≤ tH (treeL.getD k 0) ∧ tH (treeL.getD k 0) ≤ 25 := by
  have h : ∀ k ∈ List.range 36, okT (treeL.getD k 0) = true ∧ treeL.getD k 0 < 4294967296 ∧ (0 < k → treeL.getD (k - 1) 0 < treeL.getD k 0) ∧ 1 ≤ tH (treeL.getD k 0) ∧ tH (treeL.getD k 0) ≤ 25 := by decide +kernel
  exact fun k hk => h k (by simpa using hk)
theorem lvs_pos (h : Nat) (h1 : 1 ≤ h) (h2 : h ≤ 25) : lvs (h : Int) = 2 ^ h ∧ 1 ≤ lvs (h : Int) := by
  rw [lvs, if_pos (by omega), Int.toNat_natCast]
  exact ⟨rfl, Nat.two_pow_pos _⟩
/-- How many trees go together with a kind and a size, among the first k. -/
def fitB (K N c : Nat) : Bool := ((K : Int) == (tK c : Int)) && ((N : Int) == (tN c : Int))
def cntF (K N k : Nat) : Nat := ((treeL.take k).filter (fitB K N)).length
theorem cntF_next (K N k : Nat) (h : k < 36) : cntF K N (k + 1) = cntF K N k + (if fitB K N (treeL.getD k 0) = true then 1 else 0) := by
  unfold cntF
  have hl : k < treeL.length := h
  rw [List.take_succ_eq_append_getElem hl, List.filter_append, List.length_append]
  simp only [List.getD, List.getElem?_eq_getElem hl, Option.getD_some]
  by_cases hf : fitB K N treeL[k] = true <;> simp [hf]
theorem cntF_le (K N k : Nat) : cntF K N k ≤ 36 := by
  unfold cntF
  refine Nat.le_trans (List.length_filter_le _ _) ?_
  rw [List.length_take]
  exact Nat.min_le_right _ _
theorem cntF_all : ∀ c, okO c = true → cntF (oK c) (oN c) 36 = 9 ∧ (oK c = 0 ∨ oK c = 1) ∧ (oN c = 24 ∨ oN c = 32) := by
  have h : ∀ c ∈ List.range 17, okO c = true → cntF (oK c) (oN c) 36 = 9 ∧ (oK c = 0 ∨ oK c = 1) ∧ (oN c = 24 ∨ oN c = 32) := by decide +kernel
  intro c hc
  exact h c (by simp [okO] at hc; simp; omega) hc
/-- How many leaves the first k trees have. -/
def sumL (k : Nat) : Nat := ((treeL.take k).map fun c => 2 ^ tH c).sum
theorem sumL_next (k : Nat) (h : k < 36) : sumL (k + 1) = sumL k + 2 ^ tH (treeL.getD k 0) := by
  unfold sumL
  have hl : k < treeL.length := h
  rw [List.take_succ_eq_append_getElem hl, List.map_append, List.sum_append]
  simp [List.getD, List.getElem?_eq_getElem hl]
theorem sumL_le : ∀ k, k ≤ 36 → sumL k ≤ 1000000000 := by
  have h : ∀ k ∈ List.range 37, sumL k ≤ 1000000000 := by decide +kernel
  exact fun k hk => h k (by simp; omega)
theorem sumL_all : sumL 36 = 138547448 := by decide +kernel
end Go.Proofs.YtbkafkpnohbccaaDoor.S8
