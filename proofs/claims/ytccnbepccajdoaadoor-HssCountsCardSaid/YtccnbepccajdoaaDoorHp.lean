/-
  Trees below trees in plain words: whether levels may be, how often they sign, the places of an index. No statement is proved here.
-/
import Derived.Test.YtccnbepccajdoaaDoorSet
namespace Go.Proofs.YtccnbepccajdoaaDoor.S13
set_option linter.unusedSimpArgs false
set_option linter.unusedVariables false
open Go.RowKit S7 S8

/-- A pair: the code of the one-time set, and that of the tree. -/
abbrev Pr := Nat × Nat
/-- Whether a pair may be. -/
def okP (p : Pr) : Bool := okO p.1 && okT p.2 && decide (oK p.1 = tK p.2) && decide (oN p.1 = tN p.2)
/-- Whether a pair may be beside the top one. -/
def likeB (q p : Pr) : Bool := okP p && decide (tK p.2 = tK q.2) && decide (tN p.2 = tN q.2)
def hd (L : List Pr) : Pr := L.getD 0 (0, 0)
def at_ (L : List Pr) (i : Nat) : Pr := L.getD i (0, 0)
/-- How high the trees are together. -/
def sumH : List Pr → Nat
  | [] => 0
  | p :: L => tH p.2 + sumH L
def mayL (L : List Pr) : Bool := decide (1 ≤ L.length) && decide (L.length ≤ 8) && L.all (likeB (hd L)) && decide (sumH L ≤ 60)
/-- How often levels sign. -/
def totL (L : List Pr) : Nat := if mayL L = true then 2 ^ sumH L else 0
/-- The place of n at level i. -/
def plc (L : List Pr) (n i : Nat) : Nat := n / 2 ^ sumH (L.drop (i + 1)) % 2 ^ tH (at_ L i).2
def places (L : List Pr) (n : Nat) : List Nat := (List.range L.length).map (plc L n)

theorem tH_bd (c : Nat) (h : okT c = true) : 1 ≤ tH c ∧ tH c ≤ 25 := by
  unfold tH
  split <;> omega
theorem sumH_append (L M : List Pr) : sumH (L ++ M) = sumH L + sumH M := by
  induction L with
  | nil => simp [sumH]
  | cons p L ih => simp only [List.cons_append, sumH, ih]; omega
theorem sumH_drop (L : List Pr) (k : Nat) (h : k < L.length) : sumH (L.drop k) = tH (at_ L k).2 + sumH (L.drop (k + 1)) := by
  rw [List.drop_eq_getElem_cons h]
  simp [sumH, at_, List.getD, h]
theorem sumH_take (L : List Pr) (k : Nat) (h : k < L.length) : sumH (L.take (k + 1)) = sumH (L.take k) + tH (at_ L k).2 := by
  rw [List.take_succ_eq_append_getElem h, sumH_append]
  simp [sumH, at_, List.getD, h]
theorem sumH_all (L : List Pr) : sumH (L.drop L.length) = 0 := by simp [sumH]
theorem sumH_take_all (L : List Pr) (k : Nat) (h : L.length ≤ k) : sumH (L.take k) = sumH L := by rw [List.take_of_length_le h]
theorem sumH_drop_le (L : List Pr) (k : Nat) : sumH (L.drop k) ≤ sumH L := by
  have := sumH_append (L.take k) (L.drop k)
  rw [List.take_append_drop] at this
  omega
theorem sumH_one (p : Pr) : sumH [p] = tH p.2 := by simp [sumH]
/-- What mayL says. -/
theorem mayL_of {L : List Pr} (h : mayL L = true) : 1 ≤ L.length ∧ L.length ≤ 8 ∧ (∀ i, i < L.length → likeB (hd L) (at_ L i) = true) ∧ sumH L ≤ 60 := by
  simp only [mayL, Bool.and_eq_true, decide_eq_true_eq] at h
  refine ⟨h.1.1.1, h.1.1.2, fun i hi => ?_, h.2⟩
  have := List.all_eq_true.1 h.1.2 (L[i]) (List.getElem_mem hi)
  simpa [at_, List.getD, hi] using this
theorem mayL_mk {L : List Pr} (h1 : 1 ≤ L.length) (h2 : L.length ≤ 8) (h3 : ∀ i, i < L.length → likeB (hd L) (at_ L i) = true) (h4 : sumH L ≤ 60) : mayL L = true := by
  simp only [mayL, Bool.and_eq_true, decide_eq_true_eq]
  refine ⟨⟨⟨h1, h2⟩, List.all_eq_true.2 fun p hp => ?_⟩, h4⟩
  obtain ⟨i, hi, rfl⟩ := List.getElem_of_mem hp
  have := h3 i hi
  simpa [at_, List.getD, hi] using this
theorem mayL_bad {L : List Pr} {i : Nat} (hi : i < L.length) (h : likeB (hd L) (at_ L i) = false) : mayL L = false := by
  cases hm : mayL L with
  | false => rfl
  | true => have := (mayL_of hm).2.2.1 i hi; rw [h] at this; cases this
theorem mayL_len {L : List Pr} (h : L.length < 1 ∨ 8 < L.length) : mayL L = false := by
  cases hm : mayL L with
  | false => rfl
  | true => have := mayL_of hm; omega
theorem mayL_high {L : List Pr} (h : 60 < sumH L) : mayL L = false := by
  cases hm : mayL L with
  | false => rfl
  | true => have := (mayL_of hm).2.2.2; omega
theorem likeB_ok {q p : Pr} (h : likeB q p = true) : okP p = true := by simp only [likeB, Bool.and_eq_true] at h; exact h.1.1
theorem okP_T {p : Pr} (h : okP p = true) : okT p.2 = true := by simp only [okP, Bool.and_eq_true] at h; exact h.1.1.2
theorem okP_O {p : Pr} (h : okP p = true) : okO p.1 = true := by simp only [okP, Bool.and_eq_true] at h; exact h.1.1.1
theorem okP_K {p : Pr} (h : okP p = true) : oK p.1 = tK p.2 ∧ oN p.1 = tN p.2 := by simp only [okP, Bool.and_eq_true, decide_eq_true_eq] at h; exact ⟨h.1.2, h.2⟩
theorem likeB_self {p : Pr} (h : okP p = true) : likeB p p = true := by simp [likeB, h]
/-- One level of levels that may be. -/
theorem mayL_one {L : List Pr} (h : mayL L = true) (i : Nat) (hi : i < L.length) : mayL [at_ L i] = true ∧ totL [at_ L i] = 2 ^ tH (at_ L i).2 ∧ 1 ≤ tH (at_ L i).2 ∧ tH (at_ L i).2 ≤ 25 := by
  obtain ⟨h1, h2, h3, h4⟩ := mayL_of h
  have ok := likeB_ok (h3 i hi)
  have hb := tH_bd _ (okP_T ok)
  have hm : mayL [at_ L i] = true := mayL_mk (by simp) (by simp) (fun j hj => by
    obtain rfl : j = 0 := by simp at hj; exact hj
    exact likeB_self ok) (by rw [sumH_one]; omega)
  exact ⟨hm, by rw [totL, if_pos hm, sumH_one], hb⟩
theorem plc_lt (L : List Pr) (n i : Nat) : plc L n i < 2 ^ tH (at_ L i).2 := Nat.mod_lt _ (Nat.pow_pos (by omega))
/-- Counted up, the lowest first. -/
theorem plc_step (L : List Pr) (n i : Nat) (h : i < L.length) : n / 2 ^ sumH (L.drop (i + 1)) = n / 2 ^ sumH (L.drop i) * 2 ^ tH (at_ L i).2 + plc L n i := by
  have h1 := sumH_drop L i h
  unfold plc
  obtain ⟨s, hs⟩ : ∃ s, sumH (L.drop (i + 1)) = s := ⟨_, rfl⟩
  obtain ⟨t, ht⟩ : ∃ t, tH (at_ L i).2 = t := ⟨_, rfl⟩
  rw [hs, ht, Nat.add_comm t s] at h1
  rw [hs, ht, h1, Nat.pow_add, ← Nat.div_div_eq_div_mul, Nat.mul_comm]
  exact (Nat.div_add_mod _ _).symm
theorem plc_div (L : List Pr) (n i : Nat) (h : i < L.length) : n / 2 ^ sumH (L.drop i) = n / 2 ^ sumH (L.drop (i + 1)) / 2 ^ tH (at_ L i).2 := by
  rw [sumH_drop L i h, Nat.add_comm (tH _), Nat.pow_add, ← Nat.div_div_eq_div_mul]
theorem pred_mul_div (a b : Nat) (ha : 0 < a) (hb : 0 < b) : (a * b - 1) / b = a - 1 ∧ (a * b - 1) % b = b - 1 := by
  obtain ⟨c, rfl⟩ : ∃ c, a = c + 1 := ⟨a - 1, by omega⟩
  have e : (c + 1) * b - 1 = (b - 1) + b * c := by rw [Nat.succ_mul, Nat.mul_comm]; omega
  rw [e]
  constructor
  · rw [Nat.add_mul_div_left _ _ hb, Nat.div_eq_of_lt (by omega)]; omega
  · rw [Nat.add_mul_mod_self_left, Nat.mod_eq_of_lt (by omega)]
/-- The last index has the last place everywhere. -/
theorem plc_last (L : List Pr) (i : Nat) (h : i < L.length) : plc L (2 ^ sumH L - 1) i = 2 ^ tH (at_ L i).2 - 1 := by
  have h1 := sumH_drop L i h
  have h2 := sumH_drop_le L i
  obtain ⟨d, hd⟩ : ∃ d, sumH L = d + tH (at_ L i).2 + sumH (L.drop (i + 1)) := ⟨sumH L - sumH (L.drop i), by omega⟩
  unfold plc
  rw [hd, Nat.pow_add, (pred_mul_div _ _ (Nat.pow_pos (by omega)) (Nat.pow_pos (by omega))).1, Nat.pow_add, (pred_mul_div _ _ (Nat.pow_pos (by omega)) (Nat.pow_pos (by omega))).2]
theorem places_length (L : List Pr) (n : Nat) : (places L n).length = L.length := by simp [places]
theorem places_at (L : List Pr) (n i : Nat) (h : i < L.length) : (places L n).getD i 0 = plc L n i := by simp [places, List.getD, h]
theorem pow_25 {h : Nat} (hh : h ≤ 25) : 2 ^ h ≤ 33554432 := Nat.le_trans (Nat.pow_le_pow_right (by omega) hh) (by decide)
theorem pow_60 {h : Nat} (hh : h ≤ 60) : 2 ^ h ≤ 1152921504606846976 := Nat.le_trans (Nat.pow_le_pow_right (by omega) hh) (by decide)
end Go.Proofs.YtccnbepccajdoaaDoor.S13
