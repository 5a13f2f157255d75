/-
  Floating numbers of 64 bits as words: their sign, their rung, how two stand. Plain facts, of no program.
-/
import Derived.Laws.FloatArith
namespace Go.Proofs.Ytkanckphkmilkaa.F
set_option linter.unusedSimpArgs false
set_option linter.unusedVariables false
open Ieee

/-- The sign, and the rung, of a word. (4503599627370496: the rungs of a binade; 9218868437227405312: the rung of infinity.) -/
def sg (b : Nat) : Bool := b / 9223372036854775808 % 2 == 1
def rg (b : Nat) : Nat := b % 9223372036854775808
def isN (b : Nat) : Bool := decide (9218868437227405312 < rg b)
theorem d_sw : double.signWeight = 9223372036854775808 := by decide
theorem d_ir : double.infRung = 9218868437227405312 := by decide
theorem d_bi : double.binade = 4503599627370496 := by decide
theorem d_lp : double.leastPlace = -1074 := by decide
/-- The magnitude of a rung, in units of the least place. -/
def val (r : Nat) : Nat := if r < 4503599627370496 then r else (4503599627370496 + r % 4503599627370496) * 2 ^ (r / 4503599627370496 - 1)
theorem val_step (r : Nat) : val r < val (r + 1) := by
  unfold val
  by_cases h : r < 4503599627370496
  · rw [if_pos h]
    by_cases h2 : r + 1 < 4503599627370496
    · rw [if_pos h2]; omega
    · have e : r + 1 = 4503599627370496 := by omega
      rw [if_neg h2, e]
      have : 4503599627370496 / 4503599627370496 - 1 = 0 := by decide
      rw [this]
      omega
  · rw [if_neg h, if_neg (by omega)]
    by_cases h2 : r % 4503599627370496 + 1 < 4503599627370496
    · have e1 : (r + 1) % 4503599627370496 = r % 4503599627370496 + 1 := by omega
      have e2 : (r + 1) / 4503599627370496 = r / 4503599627370496 := by omega
      rw [e1, e2]
      exact Nat.mul_lt_mul_of_pos_right (by omega) (Nat.two_pow_pos _)
    · have e1 : (r + 1) % 4503599627370496 = 0 := by omega
      have e2 : (r + 1) / 4503599627370496 = r / 4503599627370496 + 1 := by omega
      rw [e1, e2]
      obtain ⟨q, hq⟩ : ∃ q, r / 4503599627370496 = q + 1 := ⟨r / 4503599627370496 - 1, by omega⟩
      rw [hq]
      simp only [Nat.add_sub_cancel, Nat.pow_succ]
      have h3 : r % 4503599627370496 < 4503599627370496 := Nat.mod_lt _ (by decide)
      have h4 : (4503599627370496 + r % 4503599627370496) * 2 ^ q < (2 * 4503599627370496) * 2 ^ q := Nat.mul_lt_mul_of_pos_right (by omega) (Nat.two_pow_pos _)
      calc (4503599627370496 + r % 4503599627370496) * 2 ^ q < (2 * 4503599627370496) * 2 ^ q := h4
        _ = (4503599627370496 + 0) * (2 ^ q * 2) := by rw [Nat.add_zero, Nat.mul_comm 2 4503599627370496, Nat.mul_assoc, Nat.mul_comm 2]
theorem val_mono {r s : Nat} (h : r < s) : val r < val s := by
  induction s with
  | zero => omega
  | succ s ih =>
    rcases Nat.lt_or_ge r s with h1 | h1
    · exact Nat.lt_trans (ih h1) (val_step s)
    · obtain rfl : r = s := by omega
      exact val_step r
theorem val_lt {r s : Nat} : val r < val s ↔ r < s := by
  constructor
  · intro h
    rcases Nat.lt_or_ge r s with h1 | h1
    · exact h1
    · rcases Nat.eq_or_lt_of_le h1 with h2 | h2
      · subst h2; omega
      · have := val_mono h2; omega
  · exact val_mono
theorem val_inj {r s : Nat} (h : val r = val s) : r = s := by
  rcases Nat.lt_trichotomy r s with h1 | h1 | h1
  · have := val_mono h1; omega
  · exact h1
  · have := val_mono h1; omega
theorem val_zero : val 0 = 0 := by decide
theorem sg_read (b : Nat) : (b / double.signWeight % 2 == 1) = sg b := by rw [d_sw]; rfl
/-- What a word is read as. -/
theorem read_fin {b : Nat} (h : rg b < 9218868437227405312) : ∃ m p, double.read b = .number (sg b) m p ∧ (-1074 : Int) ≤ p ∧ m * 2 ^ (p - (-1074)).toNat = val (rg b) := by
  unfold Format.read
  simp only [d_sw, d_ir, d_bi, d_lp]
  by_cases h1 : rg b < 4503599627370496
  · refine ⟨rg b, -1074, ?_, Int.le_refl _, ?_⟩
    · rw [if_pos (show b % 9223372036854775808 < 4503599627370496 from h1)]; rfl
    · rw [val, if_pos h1]; simp
  · refine ⟨4503599627370496 + rg b % 4503599627370496, -1074 + ((rg b / 4503599627370496 - 1 : Nat) : Int), ?_, by omega, ?_⟩
    · rw [if_neg (show ¬ b % 9223372036854775808 < 4503599627370496 from h1), if_pos (show b % 9223372036854775808 < 9218868437227405312 from h)]; rfl
    · rw [val, if_neg h1]
      congr 2
      omega
theorem read_inf {b : Nat} (h : rg b = 9218868437227405312) : double.read b = .infinity (sg b) := by
  unfold Format.read
  simp only [d_sw, d_ir, d_bi, d_lp]
  rw [if_neg (show ¬ b % 9223372036854775808 < 4503599627370496 by unfold rg at h; rw [h]; decide), if_neg (show ¬ b % 9223372036854775808 < 9218868437227405312 by unfold rg at h; omega), if_pos (show b % 9223372036854775808 = 9218868437227405312 from h)]
  rfl
theorem read_nan {b : Nat} (h : isN b = true) : ∃ f, double.read b = .nan (sg b) f := by
  have h' : 9218868437227405312 < rg b := by simpa [isN] using h
  unfold Format.read
  simp only [d_sw, d_ir, d_bi, d_lp]
  unfold rg at h'
  rw [if_neg (show ¬ b % 9223372036854775808 < 4503599627370496 by omega), if_neg (show ¬ b % 9223372036854775808 < 9218868437227405312 by omega), if_neg (show ¬ b % 9223372036854775808 = 9218868437227405312 by omega)]
  exact ⟨_, rfl⟩
/-- Where a word that is a number stands. -/
def key (b : Nat) : Int := if sg b then -(rg b : Int) else (rg b : Int)
theorem signed_val (s : Bool) (m k r : Nat) (h : m * 2 ^ k = val r) : signed s m k = if s then -(val r : Int) else (val r : Int) := by
  unfold signed
  rw [Nat.shiftLeft_eq, h]
theorem cmp_scale (a b : Int) (c : Nat) (hc : 0 < c) : compare (a * c) (b * c) = compare a b := by
  have hc' : (0 : Int) < c := by omega
  rcases Int.lt_trichotomy a b with h | h | h
  · rw [show compare a b = .lt from by rw [Int.compare_eq_lt]; exact h, Int.compare_eq_lt]
    exact Int.mul_lt_mul_of_pos_right h hc'
  · subst h; simp
  · rw [show compare a b = .gt from by rw [Int.compare_eq_gt]; exact h, Int.compare_eq_gt]
    exact Int.mul_lt_mul_of_pos_right h hc'
theorem cmp_iff {a b c d : Int} (h1 : a < b ↔ c < d) (h2 : a = b ↔ c = d) : compare a b = compare c d := by
  rcases Int.lt_trichotomy a b with h | h | h
  · rw [Int.compare_eq_lt.2 h, Int.compare_eq_lt.2 (h1.1 h)]
  · rw [Int.compare_eq_eq.2 h, Int.compare_eq_eq.2 (h2.1 h)]
  · have n1 : ¬ c < d := fun e => by have := h1.2 e; omega
    have n2 : ¬ c = d := fun e => by have := h2.2 e; omega
    rw [Int.compare_eq_gt.2 h, Int.compare_eq_gt.2 (by omega)]
theorem signed_scale (s : Bool) (m k j : Nat) : signed s m k * ((2 ^ j : Nat) : Int) = signed s m (k + j) := by
  unfold signed
  simp only [Nat.shiftLeft_eq, Nat.pow_add]
  split
  · rw [Int.neg_mul, ← Int.natCast_mul, Nat.mul_assoc]
  · rw [← Int.natCast_mul, Nat.mul_assoc]
theorem cmp_val (s t : Bool) (r q : Nat) : compare (if s then -(val r : Int) else (val r : Int)) (if t then -(val q : Int) else (val q : Int)) = compare (if s then -(r : Int) else (r : Int)) (if t then -(q : Int) else (q : Int)) := by
  have hz : ∀ x, val x = 0 ↔ x = 0 := fun x => ⟨fun h => val_inj (h.trans val_zero.symm), fun h => by rw [h]; exact val_zero⟩
  have l1 : val r < val q ↔ r < q := val_lt
  have l2 : val q < val r ↔ q < r := val_lt
  have z1 := hz r
  have z2 := hz q
  apply cmp_iff
  · cases s <;> cases t <;> simp <;> omega
  · have e : val r = val q ↔ r = q := ⟨val_inj, fun h => by rw [h]⟩
    cases s <;> cases t <;> simp <;> omega
theorem order_fin {x y : Nat} (hx : rg x < 9218868437227405312) (hy : rg y < 9218868437227405312) : double.order x y = some (compare (key x) (key y)) := by
  obtain ⟨m, p, e1, l1, v1⟩ := read_fin hx
  obtain ⟨n, q, e2, l2, v2⟩ := read_fin hy
  unfold Format.order
  rw [e1, e2]
  simp only [Datum.order, Option.some.injEq]
  obtain ⟨c, hc⟩ : ∃ c : Nat, min p q - (-1074) = (c : Int) := ⟨(min p q - (-1074)).toNat, by omega⟩
  rw [← cmp_scale _ _ (2 ^ c) (Nat.two_pow_pos _), signed_scale, signed_scale, show (p - min p q).toNat + c = (p - (-1074)).toNat by omega, show (q - min p q).toNat + c = (q - (-1074)).toNat by omega, signed_val _ _ _ _ v1, signed_val _ _ _ _ v2]
  exact cmp_val _ _ _ _
theorem order_nan {x y : Nat} (h : isN x = true ∨ isN y = true) : double.order x y = none := by
  unfold Format.order
  rcases h with h | h
  · obtain ⟨f, e⟩ := read_nan h
    rw [e]; rfl
  · obtain ⟨f, e⟩ := read_nan h
    rw [e]
    cases double.read x <;> rfl
theorem not_nan {b : Nat} (h : isN b = false) : rg b < 9218868437227405312 ∨ rg b = 9218868437227405312 := by
  have : ¬ 9218868437227405312 < rg b := by simpa [isN] using h
  omega
theorem key_abs (b : Nat) : -(rg b : Int) ≤ key b ∧ key b ≤ (rg b : Int) := by
  unfold key; split <;> omega
/-- How two words stand: by their keys; not at all, where one is no number. -/
theorem order_key (x y : Nat) : double.order x y = if isN x || isN y then none else some (compare (key x) (key y)) := by
  by_cases h : (isN x || isN y) = true
  · rw [if_pos h]
    exact order_nan (by simpa using h)
  · rw [if_neg h]
    simp only [Bool.or_eq_true, not_or, Bool.not_eq_true] at h
    rcases not_nan h.1 with hx | hx <;> rcases not_nan h.2 with hy | hy
    · exact order_fin hx hy
    · obtain ⟨m, p, e1, l1, v1⟩ := read_fin hx
      unfold Format.order
      rw [e1, read_inf hy]
      have := key_abs x
      simp only [Datum.order, Option.some.injEq]
      unfold key at this ⊢
      rw [hy]
      cases hs : sg y <;> simp [hs] at this ⊢ <;> symm
      · rw [Int.compare_eq_lt]; omega
      · rw [Int.compare_eq_gt]; omega
    · obtain ⟨m, p, e1, l1, v1⟩ := read_fin hy
      unfold Format.order
      rw [e1, read_inf hx]
      have := key_abs y
      simp only [Datum.order, Option.some.injEq]
      unfold key at this ⊢
      rw [hx]
      cases hs : sg x <;> simp [hs] at this ⊢ <;> symm
      · rw [Int.compare_eq_gt]; omega
      · rw [Int.compare_eq_lt]; omega
    · unfold Format.order
      rw [read_inf hx, read_inf hy]
      simp only [Datum.order, Option.some.injEq]
      unfold key
      rw [hx, hy]
      cases sg x <;> cases sg y <;> rfl
end Go.Proofs.Ytkanckphkmilkaa.F
