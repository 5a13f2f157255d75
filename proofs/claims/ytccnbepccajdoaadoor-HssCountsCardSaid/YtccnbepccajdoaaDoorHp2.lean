/-
  The places of an index, told from the last level up. No statement is proved here.
-/
import Derived.Test.YtccnbepccajdoaaDoorHp
namespace Go.Proofs.YtccnbepccajdoaaDoor.S13
set_option linter.unusedSimpArgs false
set_option linter.unusedVariables false
open Go.RowKit S7 S8

def stp (L : List Pr) (s : Nat × List Nat) (i : Nat) : Nat × List Nat := (s.1 / 2 ^ tH (at_ L i).2, s.2.set i (s.1 % 2 ^ tH (at_ L i).2))
/-- What is left of the index, and the places so far, behind these levels. -/
def st (L : List Pr) (n : Nat) (pre : List Nat) : Nat × List Nat := pre.foldl (stp L) (n, List.replicate L.length 0)
/-- The first k of m - 1, m - 2 and so on. -/
def rv (m k : Nat) : List Nat := (List.range k).map fun j => m - 1 - j
theorem rv_succ (m k : Nat) : rv m (k + 1) = rv m k ++ [m - 1 - k] := by simp [rv, List.range_succ]
theorem rv_length (m k : Nat) : (rv m k).length = k := by simp [rv]
theorem st_nil (L : List Pr) (n : Nat) : st L n [] = (n, List.replicate L.length 0) := rfl
theorem st_snoc (L : List Pr) (n : Nat) (pre : List Nat) (i : Nat) : st L n (pre ++ [i]) = stp L (st L n pre) i := by simp [st, List.foldl_append]
theorem foldl_inv {α β : Type} {p : β → Prop} {f : β → α → β} (hf : ∀ s i, p s → p (f s i)) : ∀ (l : List α) (s : β), p s → p (l.foldl f s)
  | [], _, h => h
  | a :: l, s, h => foldl_inv hf l (f s a) (hf s a h)
theorem st_len (L : List Pr) (n : Nat) (pre : List Nat) : (st L n pre).2.length = L.length :=
  foldl_inv (p := fun s : Nat × List Nat => s.2.length = L.length) (fun s i h => by simp [stp, h]) pre _ (by simp)
theorem st_le (L : List Pr) (n : Nat) (pre : List Nat) : (st L n pre).1 ≤ n :=
  foldl_inv (p := fun s : Nat × List Nat => s.1 ≤ n) (fun s i h => Nat.le_trans (Nat.div_le_self _ _) h) pre _ (Nat.le_refl _)
theorem st_rv (L : List Pr) (n k : Nat) (hk : k ≤ L.length) : st L n (rv L.length k) = (n / 2 ^ sumH (L.drop (L.length - k)), (List.range L.length).map fun j => if L.length - k ≤ j then plc L n j else 0) := by
  induction k with
  | zero =>
    rw [Nat.sub_zero, sumH_all, Nat.pow_zero, Nat.div_one]
    show (n, List.replicate L.length 0) = _
    congr 1
    apply List.ext_getElem
    · simp
    · intro i h1 h2
      have : ¬ L.length ≤ i := by simp at h1; omega
      simp [this]
  | succ k ih =>
    rw [rv_succ, st_snoc, ih (by omega)]
    have hi : L.length - 1 - k < L.length := by omega
    have e : L.length - k = L.length - 1 - k + 1 := by omega
    have e' : L.length - (k + 1) = L.length - 1 - k := by omega
    unfold stp
    simp only
    rw [e, e']
    congr 1
    · exact (plc_div L n _ hi).symm
    · show List.set _ (L.length - 1 - k) (plc L n (L.length - 1 - k)) = _
      apply List.ext_getElem
      · simp
      · intro i h1 h2
        rw [List.getElem_set]
        simp only [List.getElem_map, List.getElem_range]
        by_cases h : L.length - 1 - k = i
        · rw [if_pos h, if_pos (by omega), h]
        · rw [if_neg h]
          by_cases h' : L.length - 1 - k + 1 ≤ i
          · rw [if_pos h', if_pos (by omega)]
          · rw [if_neg h', if_neg (by omega)]
theorem st_done (L : List Pr) (n : Nat) : (st L n (rv L.length L.length)).2 = places L n := by
  rw [st_rv L n _ (Nat.le_refl _)]
  simp [places]
end Go.Proofs.YtccnbepccajdoaaDoor.S13
