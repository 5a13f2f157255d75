/-
  Whole numbers as floating ones, and one divided by another: what is left of a counter. Plain facts, of no program.
-/
import Derived.Test.YtkanckphkmilkaaFl4
namespace Go.Proofs.Ytkanckphkmilkaa.F
set_option linter.unusedSimpArgs false
set_option linter.unusedVariables false
open Ieee

/-- A whole number as a floating one. -/
def fI (k : Nat) : Nat := double.nearest false k 0
theorem floatOf (k : Nat) : floatOfInt .f64 (k : Int) = fI k := by
  show double.nearest (decide ((k : Int) < 0)) ((k : Int)).natAbs 0 = _
  rw [decide_eq_false (by omega), Int.natAbs_natCast]
  rfl
theorem fI_zero : fI 0 = 0 := by decide
theorem fI_one : fI 1 = one := by decide +kernel
theorem fI_top : fI 18446744073709551616 = 4895412794951729152 := by decide +kernel
theorem fI_thr {k : Nat} (hk : k ≠ 0) : ∃ r, r ≤ 9218868437227405312 ∧ fI k = r ∧ ∀ q, 1 ≤ q → q ≤ 9218868437227405312 → ∀ E, E = 1074 → (q ≤ r ↔ (thr q < 2 * (k * 2 ^ E) ∨ (thr q = 2 * (k * 2 ^ E) ∧ q % 2 = 0))) := by
  obtain ⟨e, r, he, hr, hn, ht⟩ := nearest_rung false k 0 hk
  refine ⟨r, hr, ?_, ?_⟩
  · unfold fI; rw [hn]; rfl
  · intro q q1 q2 E hE
    have := ht q q1 q2 0 (by omega)
    rw [show ((0 : Int) + 1074 + ((0 : Nat) : Int)).toNat = E by omega, Nat.pow_zero, Nat.mul_one] at this
    exact this
theorem fI_mono {a b : Nat} (h : a ≤ b) : fI a ≤ fI b := by
  by_cases ha : a = 0
  · subst ha; rw [fI_zero]; exact Nat.zero_le _
  · obtain ⟨r, hr, e1, t1⟩ := fI_thr ha
    obtain ⟨s, hs, e2, t2⟩ := fI_thr (k := b) (by omega)
    rw [e1, e2]
    by_cases hr0 : r = 0
    · omega
    · obtain ⟨E, hE⟩ : ∃ E, E = 1074 := ⟨_, rfl⟩
      have h1 := (t1 r (by omega) hr E hE).1 (Nat.le_refl _)
      refine (t2 r (by omega) hr E hE).2 ?_
      have h2 : 2 * (a * 2 ^ E) ≤ 2 * (b * 2 ^ E) := Nat.mul_le_mul_left _ (Nat.mul_le_mul_right _ h)
      generalize 2 * (a * 2 ^ E) = X at h1 h2
      generalize 2 * (b * 2 ^ E) = Y at h2 ⊢
      omega
theorem fI_lt {k : Nat} (h : k < 18446744073709551616) : fI k < 9218868437227405312 := by
  have := fI_mono (Nat.le_of_lt h)
  rw [fI_top] at this
  omega
theorem fI_pos {k : Nat} (h : 1 ≤ k) : one ≤ fI k := by
  have := fI_mono h
  rwa [fI_one] at this
theorem rg_small {b : Nat} (h : b < 9223372036854775808) : rg b = b := Nat.mod_eq_of_lt h
theorem sg_small {b : Nat} (h : b < 9223372036854775808) : sg b = false := by
  unfold sg
  rw [Nat.div_eq_of_lt h]
  rfl
theorem isN_small {b : Nat} (h : b ≤ 9218868437227405312) : isN b = false := by
  unfold isN
  rw [rg_small (by omega)]
  simp; omega
theorem key_small {b : Nat} (h : b < 9223372036854775808) : key b = (b : Int) := by
  unfold key
  rw [sg_small h, rg_small h]
  rfl
theorem okey_small {b : Nat} (h : b ≤ 9218868437227405312) : okey b = (b : Int) := by
  unfold okey
  rw [isN_small h, sg_small (by omega), rg_small (by omega)]
  simp
/-- A positive number divided by one: it never falls where the dividend rises. -/
theorem div_pos {x y : Nat} (hx : x < 9218868437227405312) (hx0 : x ≠ 0) (hy : y < 9218868437227405312) (hy0 : y ≠ 0) : ∃ r, r ≤ 9218868437227405312 ∧ double.div x y = some r ∧ ∀ E, E = 1074 → ∀ q, 1 ≤ q → q ≤ 9218868437227405312 → (q ≤ r ↔ (thr q * val y < 2 * (val x * 2 ^ E) ∨ (thr q * val y = 2 * (val x * 2 ^ E) ∧ q % 2 = 0))) := by
  have ex : rg x = x := rg_small (by omega)
  have ey : rg y = y := rg_small (by omega)
  obtain ⟨E, hE⟩ : ∃ E, E = 1074 := ⟨_, rfl⟩
  obtain ⟨r, hr, hd, ht⟩ := div_thr (x := x) (y := y) hE (by rw [ex]; exact hx) (by rw [ex]; exact hx0) (by rw [ey]; exact hy) (by rw [ey]; exact hy0)
  rw [ex, ey] at ht
  rw [sg_small (show x < 9223372036854775808 by omega), sg_small (show y < 9223372036854775808 by omega)] at hd
  exact ⟨r, hr, hd, fun E' hE' q q1 q2 => by rw [hE', ← hE]; exact ht q q1 q2⟩
theorem div_mono {x x' y r r' : Nat} (h : x ≤ x') (hx : x' < 9218868437227405312) (hx0 : x ≠ 0) (hy : y < 9218868437227405312) (hy0 : y ≠ 0) (h1 : double.div x y = some r) (h2 : double.div x' y = some r') : r ≤ r' := by
  obtain ⟨s, hs, e1, t1⟩ := div_pos (x := x) (y := y) (by omega) hx0 hy hy0
  obtain ⟨s', hs', e2, t2⟩ := div_pos (x := x') (y := y) hx (by omega) hy hy0
  obtain rfl : s = r := Option.some.inj (e1.symm.trans h1)
  obtain rfl : s' = r' := Option.some.inj (e2.symm.trans h2)
  by_cases hr0 : s = 0
  · omega
  · obtain ⟨E, hE⟩ : ∃ E, E = 1074 := ⟨_, rfl⟩
    have h1 := (t1 E hE s (by omega) hs).1 (Nat.le_refl _)
    refine (t2 E hE s (by omega) hs).2 ?_
    have h2 : 2 * (val x * 2 ^ E) ≤ 2 * (val x' * 2 ^ E) := Nat.mul_le_mul_left _ (Nat.mul_le_mul_right _ (val_le h))
    generalize 2 * (val x * 2 ^ E) = X at h1 h2
    generalize 2 * (val x' * 2 ^ E) = Y at h2 ⊢
    generalize thr s * val y = Z at h1 ⊢
    clear t1 t2 e1 e2
    omega
/-- So much of n is left: a of it, divided by it. -/
def leftW (n a : Nat) : Nat := (double.div (fI a) (fI n)).getD 0
section
variable {n a b : Nat}
theorem fI_n0 (h : 1 ≤ n) : fI n ≠ 0 := by
  have h1 : 4607182418800017408 ≤ fI n := fI_pos h
  omega
theorem leftW_zero (h1 : 1 ≤ n) (h2 : n < 18446744073709551616) : double.div (fI 0) (fI n) = some 0 := by
  have hl := fI_lt h2
  have h := div_of_zero (x := fI 0) (y := fI n) (by rw [fI_zero]; rfl) (by rw [rg_small (show fI n < 9223372036854775808 by omega)]; exact hl) (by rw [rg_small (show fI n < 9223372036854775808 by omega)]; exact fI_n0 h1)
  rw [fI_zero, sg_small (show fI n < 9223372036854775808 by omega)] at h
  rw [fI_zero]
  exact h
theorem leftW_all (h1 : 1 ≤ n) (h2 : n < 18446744073709551616) : double.div (fI n) (fI n) = some one := by
  have hl := fI_lt h2
  exact div_self (by rw [rg_small (show fI n < 9223372036854775808 by omega)]; exact hl) (by rw [rg_small (show fI n < 9223372036854775808 by omega)]; exact fI_n0 h1)
theorem leftW_div (h1 : 1 ≤ n) (h2 : n < 18446744073709551616) (ha : a ≤ n) : double.div (fI a) (fI n) = some (leftW n a) := by
  unfold leftW
  by_cases h0 : a = 0
  · subst h0; rw [leftW_zero h1 h2]; rfl
  · obtain ⟨r, _, e, _⟩ := div_pos (x := fI a) (y := fI n) (fI_lt (by omega)) (fI_n0 (by omega)) (fI_lt h2) (fI_n0 h1)
    rw [e]; rfl
theorem leftW_mono (h1 : 1 ≤ n) (h2 : n < 18446744073709551616) (hb : b ≤ n) (hab : a ≤ b) : leftW n a ≤ leftW n b := by
  by_cases h0 : a = 0
  · subst h0
    have := leftW_div (a := 0) h1 h2 (by omega)
    rw [leftW_zero h1 h2] at this
    rw [← Option.some.inj this]
    exact Nat.zero_le _
  · exact div_mono (fI_mono hab) (fI_lt (by omega)) (fI_n0 (by omega)) (fI_lt h2) (fI_n0 h1) (leftW_div h1 h2 (by omega)) (leftW_div h1 h2 hb)
theorem leftW_top (h1 : 1 ≤ n) (h2 : n < 18446744073709551616) : leftW n n = one := by
  have := leftW_div (a := n) h1 h2 (Nat.le_refl _)
  rw [leftW_all h1 h2] at this
  exact (Option.some.inj this).symm
theorem leftW_bot (h1 : 1 ≤ n) (h2 : n < 18446744073709551616) : leftW n 0 = 0 := by
  have := leftW_div (a := 0) h1 h2 (Nat.zero_le _)
  rw [leftW_zero h1 h2] at this
  exact (Option.some.inj this).symm
theorem leftW_le (h1 : 1 ≤ n) (h2 : n < 18446744073709551616) (ha : a ≤ n) : leftW n a ≤ one := by
  have := leftW_mono h1 h2 (Nat.le_refl n) ha
  rwa [leftW_top h1 h2] at this
end
/-- 0 divided by 1. -/
theorem zero_by_one : double.div 0 one = some 0 := by decide +kernel
end Go.Proofs.Ytkanckphkmilkaa.F
