/-
  A byte of a row raised or lowered by one digit's one, and what the row lacks then; in plain words. No statement is proved here.
-/
import Derived.Test.YtfhbnfhmicaklaaDoorDigP
namespace Go.Proofs.YtfhbnfhmicaklaaDoor.S7
set_option linter.unusedSimpArgs false
set_option linter.unusedVariables false

/-- What a byte lacks when one of its digits is lowered, or raised, by one. -/
def raiseOk (w k x : Nat) : Bool :=
  if dg w x k = 2 ^ w - 1 then decide (2 ^ (8 - w * (k + 1)) ≤ x) && decide (lk w (ofB w (x - 2 ^ (8 - w * (k + 1)))) = lk w (ofB w x) + 1)
  else decide (x + 2 ^ (8 - w * (k + 1)) < 256) && decide (lk w (ofB w (x + 2 ^ (8 - w * (k + 1)))) + 1 = lk w (ofB w x))
theorem raise_all : ([1, 2, 4, 8].all fun w => (List.range (8 / w)).all fun k => (List.range 256).all fun x => raiseOk w k x) = true := by decide +kernel
theorem raise_one (w k x : Nat) (hw : wid w) (hk : k < 8 / w) (hx : x < 256) : raiseOk w k x = true := by
  have h := raise_all
  rw [List.all_eq_true] at h
  have h1 := h w (by rcases hw with h | h | h | h <;> subst h <;> simp)
  rw [List.all_eq_true] at h1
  have h2 := h1 k (by simpa using hk)
  rw [List.all_eq_true] at h2
  exact h2 x (by simpa using hx)
theorem lk_set (w : Nat) : ∀ (xs : List UInt8) (j : Nat) (y : UInt8), j < xs.length → lk w (ofL w (xs.set j y)) + lk w (ofB w (xs.getD j 0).toNat) = lk w (ofL w xs) + lk w (ofB w y.toNat)
  | [], j, y, h => by simp at h
  | x :: xs, 0, y, h => by
    have e : ∀ (z : UInt8) zs, ofL w (z :: zs) = ofB w z.toNat ++ ofL w zs := fun z zs => by simp [ofL]
    rw [List.set_cons_zero, e, e, lk_append, lk_append]
    simp
    omega
  | x :: xs, j + 1, y, h => by
    have e : ∀ (z : UInt8) zs, ofL w (z :: zs) = ofB w z.toNat ++ ofL w zs := fun z zs => by simp [ofL]
    have ih := lk_set w xs j y (by simpa using h)
    rw [List.set_cons_succ, e, e, lk_append, lk_append]
    have e2 : (x :: xs).getD (j + 1) 0 = xs.getD j 0 := by simp
    rw [e2]
    omega
theorem toNat_of {n : Nat} (h : n < 256) : (UInt8.ofNat n).toNat = n := by rw [UInt8.toNat_ofNat']; exact Nat.mod_eq_of_lt h
/-- Lowered. -/
theorem lk_low (w k : Nat) (hw : wid w) (hk : k < 8 / w) (xs : List UInt8) (j : Nat) (hj : j < xs.length) (hd : dg w (xs.getD j 0).toNat k = 2 ^ w - 1) :
    2 ^ (8 - w * (k + 1)) ≤ (xs.getD j 0).toNat ∧ lk w (ofL w (xs.set j (UInt8.ofNat ((xs.getD j 0).toNat - 2 ^ (8 - w * (k + 1)))))) = lk w (ofL w xs) + 1 := by
  have hx : (xs.getD j 0).toNat < 256 := UInt8.toNat_lt _
  have h := raise_one w k _ hw hk hx
  rw [raiseOk, if_pos hd, Bool.and_eq_true, decide_eq_true_eq, decide_eq_true_eq] at h
  refine ⟨h.1, ?_⟩
  have hs := lk_set w xs j (UInt8.ofNat ((xs.getD j 0).toNat - 2 ^ (8 - w * (k + 1)))) hj
  rw [toNat_of (Nat.lt_of_le_of_lt (Nat.sub_le _ _) hx), h.2] at hs
  omega
/-- Raised. -/
theorem lk_up (w k : Nat) (hw : wid w) (hk : k < 8 / w) (xs : List UInt8) (j : Nat) (hj : j < xs.length) (hd : ¬ dg w (xs.getD j 0).toNat k = 2 ^ w - 1) :
    (xs.getD j 0).toNat + 2 ^ (8 - w * (k + 1)) < 256 ∧ lk w (ofL w (xs.set j (UInt8.ofNat ((xs.getD j 0).toNat + 2 ^ (8 - w * (k + 1)))))) + 1 = lk w (ofL w xs) := by
  have hx : (xs.getD j 0).toNat < 256 := UInt8.toNat_lt _
  have h := raise_one w k _ hw hk hx
  rw [raiseOk, if_neg hd, Bool.and_eq_true, decide_eq_true_eq, decide_eq_true_eq] at h
  refine ⟨h.1, ?_⟩
  have hs := lk_set w xs j (UInt8.ofNat ((xs.getD j 0).toNat + 2 ^ (8 - w * (k + 1)))) hj
  rw [toNat_of h.1] at hs
  omega
end Go.Proofs.YtfhbnfhmicaklaaDoor.S7
