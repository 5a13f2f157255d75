/-
  Floating numbers of 64 bits: their kinds, their order, what dividing and taking away give at the edges. Plain facts, of no program.
-/
import Derived.Test.YtkanckphkmilkaaFl1
namespace Go.Proofs.Ytkanckphkmilkaa.F
set_option linter.unusedSimpArgs false
set_option linter.unusedVariables false
open Ieee

/-- The word of a sign and a rung. -/
def mk (s : Bool) (r : Nat) : Nat := if s then 9223372036854775808 + r else r
theorem mk_word (s : Bool) (r : Nat) : double.word s r = mk s r := by unfold Format.word mk; rw [d_sw]
theorem sg_mk (s : Bool) (r : Nat) (h : r < 9223372036854775808) : sg (mk s r) = s := by
  unfold sg mk
  cases s <;> simp <;> omega
theorem rg_mk (s : Bool) (r : Nat) (h : r < 9223372036854775808) : rg (mk s r) = r := by
  unfold rg mk
  cases s <;> simp <;> omega
theorem mk_lt (s : Bool) (r : Nat) (h : r < 9223372036854775808) : mk s r < 18446744073709551616 := by
  unfold mk
  cases s <;> simp <;> omega
theorem mk_self {b : Nat} (h : b < 18446744073709551616) : mk (sg b) (rg b) = b := by
  unfold mk sg rg
  by_cases h1 : b < 9223372036854775808
  · have : b / 9223372036854775808 = 0 := by omega
    rw [this]
    simp
    omega
  · have : b / 9223372036854775808 = 1 := by omega
    rw [this]
    simp
    omega
/-- The kinds: 0, 1 (0), 2 (-0), 3 (+Inf), 4 (-Inf), 5 (NaN). -/
def kindW (b : Nat) : Nat := if isN b then 5 else if rg b = 0 then (if sg b then 2 else 1) else if rg b = 9218868437227405312 then (if sg b then 4 else 3) else 0
/-- Where a word stands in the order. -/
def okey (b : Nat) : Int := if isN b then 9218868437227405312 + 10 else if sg b then -(rg b : Int) - 1 else (rg b : Int)
def cmpW (a b : Nat) : Int := if okey a < okey b then -1 else if okey a = okey b then 0 else 1
theorem cmpW_self (a : Nat) : cmpW a a = 0 := by simp [cmpW]
theorem cmpW_neg (a b : Nat) : cmpW b a = -cmpW a b := by
  unfold cmpW
  rcases Int.lt_trichotomy (okey a) (okey b) with h | h | h
  · rw [if_neg (by omega), if_neg (by omega), if_pos h]; rfl
  · rw [if_neg (by omega), if_pos h.symm, if_neg (by omega), if_pos h]; rfl
  · rw [if_pos h, if_neg (by omega), if_neg (by omega)]
theorem cmpW_le {a b : Nat} : cmpW a b ≤ 0 ↔ okey a ≤ okey b := by
  unfold cmpW; split
  · constructor <;> intro <;> omega
  · split <;> constructor <;> intro <;> omega
theorem cmpW_lt {a b : Nat} : cmpW a b < 0 ↔ okey a < okey b := by
  unfold cmpW; split
  · constructor <;> intro <;> omega
  · split <;> constructor <;> intro <;> omega
theorem cmpW_eq {a b : Nat} : cmpW a b = 0 ↔ okey a = okey b := by
  unfold cmpW; split
  · constructor <;> intro <;> omega
  · split <;> constructor <;> intro <;> omega
theorem cmpW_gt {a b : Nat} : 0 < cmpW a b ↔ okey b < okey a := by
  unfold cmpW; split
  · constructor <;> intro <;> omega
  · split <;> constructor <;> intro <;> omega
theorem cmpW_cases (a b : Nat) : cmpW a b = -1 ∨ cmpW a b = 0 ∨ cmpW a b = 1 := by
  unfold cmpW; split
  · exact .inl rfl
  · split
    · exact .inr (.inl rfl)
    · exact .inr (.inr rfl)
theorem cmp_eqB (a b : Int) : (compare a b == .eq) = decide (a = b) := by
  rcases Int.lt_trichotomy a b with h | h | h
  · rw [Int.compare_eq_lt.2 h, decide_eq_false (by omega)]; rfl
  · rw [Int.compare_eq_eq.2 h, decide_eq_true h]; rfl
  · rw [Int.compare_eq_gt.2 h, decide_eq_false (by omega)]; rfl
theorem cmp_ltB (a b : Int) : (compare a b == .lt) = decide (a < b) := by
  rcases Int.lt_trichotomy a b with h | h | h
  · rw [Int.compare_eq_lt.2 h, decide_eq_true h]; rfl
  · rw [Int.compare_eq_eq.2 h, decide_eq_false (by omega)]; rfl
  · rw [Int.compare_eq_gt.2 h, decide_eq_false (by omega)]; rfl
theorem cmp_gtB (a b : Int) : (compare a b == .gt) = decide (b < a) := by
  rcases Int.lt_trichotomy a b with h | h | h
  · rw [Int.compare_eq_lt.2 h, decide_eq_false (by omega)]; rfl
  · rw [Int.compare_eq_eq.2 h, decide_eq_false (by omega)]; rfl
  · rw [Int.compare_eq_gt.2 h, decide_eq_true h]; rfl
/-- Comparing, as the model has it. -/
theorem ord_eq (x y : Nat) : (double.order x y == some .eq) = (!isN x && !isN y && decide (key x = key y)) := by
  rw [order_key]
  cases isN x <;> cases isN y <;> simp [cmp_eqB]
theorem ord_lt (x y : Nat) : (double.order x y == some .lt) = (!isN x && !isN y && decide (key x < key y)) := by
  rw [order_key]
  cases isN x <;> cases isN y <;> simp [cmp_ltB]
theorem ord_gt (x y : Nat) : (double.order x y == some .gt) = (!isN x && !isN y && decide (key y < key x)) := by
  rw [order_key]
  cases isN x <;> cases isN y <;> simp [cmp_gtB]
theorem ord_ne (x y : Nat) : (double.order x y != some .eq) = (isN x || isN y || decide (key x ≠ key y)) := by
  rw [bne, ord_eq]
  cases isN x <;> cases isN y <;> simp
theorem rg_le {b : Nat} (h : isN b = false) : rg b ≤ 9218868437227405312 := by
  have := not_nan h
  omega
theorem key_zero {b : Nat} : key b = 0 ↔ rg b = 0 := by
  unfold key; split <;> omega
theorem isN_mk (s : Bool) (r : Nat) (h : r ≤ 9218868437227405312) : isN (mk s r) = false := by
  unfold isN
  rw [rg_mk s r (by omega)]
  simp; omega
/-- A zero's magnitude is 0, and no other's. -/
theorem mag_zero {b m : Nat} {p : Int} (v : m * 2 ^ (p - (-1074)).toNat = val (rg b)) : m = 0 ↔ rg b = 0 := by
  have hp : 0 < 2 ^ (p - (-1074)).toNat := Nat.two_pow_pos _
  constructor
  · intro h
    rw [h, Nat.zero_mul] at v
    exact val_inj (v.symm.trans val_zero.symm)
  · intro h
    rw [h, val_zero] at v
    rcases Nat.mul_eq_zero.1 v with h1 | h1
    · exact h1
    · omega
theorem write_inf (s : Bool) : double.write (.infinity s) = mk s 9218868437227405312 := by
  show double.word s double.infRung = _
  rw [mk_word, d_ir]
theorem write_zero (s : Bool) (p : Int) : double.write (.number s 0 p) = mk s 0 := by
  show double.nearest s 0 p = _
  unfold Format.nearest
  rw [if_pos rfl, mk_word]
theorem write_num (s : Bool) (m : Nat) (p : Int) : ∃ r, r ≤ 9218868437227405312 ∧ double.write (.number s m p) = mk s r := by
  show ∃ r, r ≤ 9218868437227405312 ∧ double.nearest s m p = mk s r
  unfold Format.nearest
  split
  · exact ⟨0, by omega, mk_word _ _⟩
  · refine ⟨_, ?_, mk_word _ _⟩
    rw [d_ir]
    exact Nat.min_le_right _ _
theorem div_nan {x y : Nat} (h : isN x = true ∨ isN y = true) : double.div x y = none := by
  unfold Format.div
  rcases h with h | h
  · obtain ⟨f, e⟩ := read_nan h
    rw [e]; rfl
  · obtain ⟨f, e⟩ := read_nan h
    rw [e]
    cases double.read x <;> rfl
theorem div_infs {x y : Nat} (hx : rg x = 9218868437227405312) (hy : rg y = 9218868437227405312) : double.div x y = none := by
  unfold Format.div
  rw [read_inf hx, read_inf hy]
  rfl
theorem div_of_inf {x y : Nat} (hx : rg x = 9218868437227405312) (hy : rg y < 9218868437227405312) : double.div x y = some (mk (sg x ^^ sg y) 9218868437227405312) := by
  obtain ⟨m, p, e, _, _⟩ := read_fin hy
  unfold Format.div
  rw [read_inf hx, e]
  simp only [Datum.quotient, Option.map_some, write_inf]
theorem div_by_inf {x y : Nat} (hx : rg x < 9218868437227405312) (hy : rg y = 9218868437227405312) : double.div x y = some (mk (sg x ^^ sg y) 0) := by
  obtain ⟨m, p, e, _, _⟩ := read_fin hx
  unfold Format.div
  rw [read_inf hy, e]
  simp only [Datum.quotient, Option.map_some, write_zero]
theorem div_zeros {x y : Nat} (hx : rg x = 0) (hy : rg y = 0) : double.div x y = none := by
  obtain ⟨m, p, e, _, v⟩ := read_fin (b := x) (by omega)
  obtain ⟨n, q, e', _, v'⟩ := read_fin (b := y) (by omega)
  unfold Format.div
  rw [e, e']
  simp only [Datum.quotient, (mag_zero v).2 hx, (mag_zero v').2 hy, if_true, Option.map_none]
theorem div_by_zero {x y : Nat} (hx : rg x < 9218868437227405312) (hx0 : rg x ≠ 0) (hy : rg y = 0) : double.div x y = some (mk (sg x ^^ sg y) 9218868437227405312) := by
  obtain ⟨m, p, e, _, v⟩ := read_fin hx
  obtain ⟨n, q, e', _, v'⟩ := read_fin (b := y) (by omega)
  unfold Format.div
  rw [e, e']
  have hm : ¬ m = 0 := fun h => hx0 ((mag_zero v).1 h)
  simp only [Datum.quotient, (mag_zero v').2 hy, if_true, if_neg hm, Option.map_some, write_inf]
theorem div_of_zero {x y : Nat} (hx : rg x = 0) (hy : rg y < 9218868437227405312) (hy0 : rg y ≠ 0) : double.div x y = some (mk (sg x ^^ sg y) 0) := by
  obtain ⟨m, p, e, _, v⟩ := read_fin (b := x) (by omega)
  obtain ⟨n, q, e', _, v'⟩ := read_fin hy
  unfold Format.div
  rw [e, e']
  have hn : ¬ n = 0 := fun h => hy0 ((mag_zero v').1 h)
  simp [Datum.quotient, (mag_zero v).2 hx, hn, write_zero]
theorem div_fin {x y : Nat} (hx : rg x < 9218868437227405312) (hy : rg y < 9218868437227405312) (hy0 : rg y ≠ 0) : ∃ r, r ≤ 9218868437227405312 ∧ double.div x y = some (mk (sg x ^^ sg y) r) := by
  obtain ⟨m, p, e, _, v⟩ := read_fin hx
  obtain ⟨n, q, e', _, v'⟩ := read_fin hy
  unfold Format.div
  rw [e, e']
  have hn : ¬ n = 0 := fun h => hy0 ((mag_zero v').1 h)
  simp only [Datum.quotient, if_neg hn, Option.map_some]
  obtain ⟨r, hr, hw⟩ := write_num (sg x ^^ sg y) (2 * (m <<< (double.fractionBits + 2 + n.log2 - m.log2) / n) + (m <<< (double.fractionBits + 2 + n.log2 - m.log2) % n != 0).toNat) (p - q - ((double.fractionBits + 2 + n.log2 - m.log2 : Nat) : Int) - 1)
  exact ⟨r, hr, by rw [hw]⟩
/-- 1. -/
abbrev one : Nat := 4607182418800017408
theorem one_val : double.nearest false 36028797018963968 (-55) = one := by decide +kernel
theorem div_self {x : Nat} (hx : rg x < 9218868437227405312) (hx0 : rg x ≠ 0) : double.div x x = some one := by
  obtain ⟨m, p, e, _, v⟩ := read_fin hx
  unfold Format.div
  rw [e]
  have hm : ¬ m = 0 := fun h => hx0 ((mag_zero v).1 h)
  have h1 : double.fractionBits + 2 + m.log2 - m.log2 = 54 := by show 52 + 2 + m.log2 - m.log2 = 54; omega
  have h2 : m <<< 54 / m = 18014398509481984 := by
    rw [Nat.shiftLeft_eq, Nat.mul_comm, Nat.mul_div_cancel _ (by omega)]
  have h3 : m <<< 54 % m = 0 := by
    rw [Nat.shiftLeft_eq]
    exact Nat.mul_mod_right m _
  simp only [Datum.quotient, if_neg hm, h1, h2, h3, Option.map_some]
  have h4 : p - p - ((54 : Nat) : Int) - 1 = -55 := by omega
  rw [h4]
  have h5 : (sg x ^^ sg x) = false := by cases sg x <;> rfl
  rw [h5]
  exact congrArg some one_val
theorem sub_self' {x : Nat} (hx : rg x < 9218868437227405312) : double.sub x x = some 0 := by
  obtain ⟨m, p, e, _, v⟩ := read_fin hx
  unfold Format.sub
  rw [e]
  simp only [Datum.opposite, Datum.sum]
  have h0 : signed (sg x) m (p - min p p).toNat + signed (!sg x) m (p - min p p).toNat = 0 := by
    unfold signed
    cases sg x <;> simp <;> omega
  rw [h0]
  have h5 : (sg x && !sg x) = false := by cases sg x <;> rfl
  simp only [if_true, h5, Int.natAbs_zero, Option.map_some, write_zero]
  rfl
theorem sub_infs {x : Nat} (hx : rg x = 9218868437227405312) : double.sub x x = none := by
  unfold Format.sub
  rw [read_inf hx]
  simp only [Datum.opposite, Datum.sum]
  have h5 : ¬ sg x = !sg x := by cases sg x <;> simp
  rw [if_neg h5]
  rfl
/-- A quotient: the number that the standard says, or some word that is no number. -/
def Quo (x y r : Nat) : Prop := r < 18446744073709551616 ∧ (double.div x y = some r ∨ (double.div x y = none ∧ isN r = true))
theorem nanW (t : Nat) : isN (t % 2 * 9223372036854775808 + 9218868437227405312 + 1 + t / 2 % 4503599627370495) = true ∧ t % 2 * 9223372036854775808 + 9218868437227405312 + 1 + t / 2 % 4503599627370495 < 18446744073709551616 := by
  have h1 := Nat.mod_lt t (show 0 < 2 by omega)
  have h2 := Nat.mod_lt (t / 2) (show 0 < 4503599627370495 by omega)
  refine ⟨?_, by omega⟩
  unfold isN rg
  simp only [decide_eq_true_eq]
  rcases Nat.mod_two_eq_zero_or_one t with h | h <;> rw [h] <;> omega
/-- Two words of which each is the other, or both are no numbers. -/
def Alike (a b : Nat) : Prop := a = b ∨ (isN a = true ∧ isN b = true)
theorem Alike.okey {a b : Nat} (h : Alike a b) : okey a = okey b := by
  rcases h with rfl | ⟨h1, h2⟩
  · rfl
  · simp [F.okey, h1, h2]
theorem Alike.cmp {a b : Nat} (h : Alike a b) : cmpW a b = 0 := cmpW_eq.2 h.okey
theorem Quo.alike {x y x' y' r r' : Nat} (hx : Alike x x') (hy : Alike y y') (h : Quo x y r) (h' : Quo x' y' r') : Alike r r' := by
  have key : double.div x y = double.div x' y' := by
    rcases hx with rfl | ⟨a1, a2⟩
    · rcases hy with rfl | ⟨b1, b2⟩
      · rfl
      · rw [div_nan (.inr b1), div_nan (.inr b2)]
    · rw [div_nan (.inl a1), div_nan (.inl a2)]
  rcases h.2 with h | ⟨h, n⟩ <;> rcases h'.2 with h' | ⟨h', n'⟩
  · rw [key, h'] at h; exact .inl (Option.some.inj h).symm
  · rw [key, h'] at h; cases h
  · rw [key, h'] at h; cases h
  · exact .inr ⟨n, n'⟩
end Go.Proofs.Ytkanckphkmilkaa.F
