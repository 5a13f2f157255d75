/-
  What the library's calls on floating numbers do: IsNaN, IsInf, Signbit, NaN, Inf, Compare. No statement is proved here.
-/
import Derived.Test.YtkanckphkmilkaaOdC
import Derived.Laws.Externs
namespace Go.Proofs.Ytkanckphkmilkaa.F
set_option linter.unusedSimpArgs false
set_option linter.unusedVariables false
open Go.RowKit

theorem run_bits (a : Nat) (W : World) : (callFunc 38 #[.float .f64 a]).run Try.prog W = .ok (.value (.int .u64 (a : Int))) W := by
  rw [run_callFunc_extern Try.func38 (e := Extern.MathFloatBits.float64bits) (by kernel_rfl) (by kernel_rfl) (by kernel_rfl) (by kernel_rfl)]
  rfl
theorem run_from (a : Nat) (W : World) : (callFunc 43 #[.int .u64 (a : Int)]).run Try.prog W = .ok (.value (.float .f64 a)) W := by
  rw [run_callFunc_extern Try.func43 (e := Extern.MathFloatBits.float64frombits) (by kernel_rfl) (by kernel_rfl) (by kernel_rfl) (by kernel_rfl)]
  rfl
theorem ne_self (a : Nat) : (FloatKind.f64.format.order a a != some .eq) = isN a := by
  show (Ieee.double.order a a != some .eq) = _
  rw [ord_ne]; cases isN a <;> simp
theorem isnan_any (a : Nat) (W : World) : Calls Try.prog 26 #[.float .f64 a] W fun e w' => e = .returned (.bool (isN a)) ∧ w' = W := by
  have h := ne_self a
  obtain ⟨v, hv⟩ : ∃ v, v = isN a := ⟨_, rfl⟩
  rw [← hv] at h ⊢
  clear hv
  go_enter Try.func26, Try.ntmps26
  go_wp2
  go_ret
  exact ⟨rfl, rfl⟩
theorem wrap_neg (a : Nat) : decide (wrap64 (a : Int) < 0) = sg a := by
  unfold sg
  by_cases h : a % 18446744073709551616 < 9223372036854775808
  · have : a / 9223372036854775808 % 2 = 0 := by omega
    rw [this, decide_eq_false (by unfold wrap64; omega)]; rfl
  · have : a / 9223372036854775808 % 2 = 1 := by omega
    rw [this, decide_eq_true (by unfold wrap64; omega)]; rfl
theorem signbit_any (a : Nat) (W : World) : Calls Try.prog 27 #[.float .f64 a] W fun e w' => e = .returned (.bool (sg a)) ∧ w' = W := by
  have hb := fun W => run_bits a W
  have hs := wrap_neg a
  obtain ⟨v, hv⟩ : ∃ v, v = sg a := ⟨_, rfl⟩
  rw [← hv] at hs ⊢
  clear hv
  go_enter Try.func27, Try.ntmps27
  go_wp2
  go_ret
  exact ⟨rfl, rfl⟩
theorem nan_any (W : World) : Calls Try.prog 42 #[] W fun e w' => e = .returned (.float .f64 9221120237041090561) ∧ w' = W := by
  have hb : ∀ W, (callFunc 43 #[.int .u64 9221120237041090561]).run Try.prog W = .ok (.value (.float .f64 9221120237041090561)) W := fun W => run_from 9221120237041090561 W
  go_enter Try.func42, Try.ntmps42
  go_wp2
  go_ret
  exact ⟨rfl, rfl⟩
theorem rg_neg (a : Nat) : rg (a ^^^ 9223372036854775808) = rg a := by
  unfold rg
  show (a ^^^ 2 ^ 63) % 2 ^ 63 = a % 2 ^ 63
  rw [Nat.xor_mod_two_pow, Nat.mod_self, Nat.xor_zero]
theorem sg_neg (a : Nat) : sg (a ^^^ 9223372036854775808) = !sg a := by
  unfold sg
  show ((a ^^^ 2 ^ 63) / 2 ^ 63 % 2 == 1) = !(a / 2 ^ 63 % 2 == 1)
  rw [← Nat.shiftRight_eq_div_pow, ← Nat.shiftRight_eq_div_pow, Nat.shiftRight_xor_distrib, show (2 ^ 63 : Nat) >>> 63 = 1 by decide]
  have hx : (a >>> 63 ^^^ 1) % 2 = (a >>> 63 % 2) ^^^ 1 := Nat.xor_mod_two_pow (n := 1)
  rw [hx]
  rcases Nat.mod_two_eq_zero_or_one (a >>> 63) with h | h <;> rw [h] <;> rfl
theorem isN_neg (a : Nat) : isN (a ^^^ 9223372036854775808) = isN a := by unfold isN; rw [rg_neg]
/-- Is it the infinite one of this sign? -/
def infB (s : Bool) (a : Nat) : Bool := decide (rg a = 9218868437227405312) && (sg a == s)
theorem gt_max (a : Nat) : (FloatKind.f64.format.order a 9218868437227405311 == some .gt) = infB false a := by
  show (Ieee.double.order a 9218868437227405311 == some .gt) = _
  rw [ord_gt, show isN 9218868437227405311 = false by decide, show key 9218868437227405311 = 9218868437227405311 by decide]
  unfold infB key isN
  by_cases h : sg a = true
  · rw [h]; first | (simp; done) | (simp; omega)
  · rw [Bool.not_eq_true] at h
    rw [h]
    by_cases h2 : rg a = 9218868437227405312
    · rw [h2]; decide
    · rw [decide_eq_false h2]
      by_cases h3 : 9218868437227405312 < rg a
      · rw [decide_eq_true h3]; rfl
      · rw [decide_eq_false h3]
        simp; omega
theorem gt_max_neg (a : Nat) : (FloatKind.f64.format.order (a ^^^ 9223372036854775808) 9218868437227405311 == some .gt) = infB true a := by
  rw [gt_max]
  unfold infB
  rw [rg_neg, sg_neg]
  cases sg a <;> rfl
/-- Both floating numbers, as the library compares them: what is none stands ahead, a 0 is like the other. -/
def lkey (a : Nat) : Int := if isN a then -9218868437227405320 else key a
def lcmp (a b : Nat) : Int := if lkey a < lkey b then -1 else if lkey a = lkey b then 0 else 1
theorem lcmp_lt {a b : Nat} (h : lkey a < lkey b) : lcmp a b = -1 := if_pos h
theorem lcmp_gt {a b : Nat} (h : lkey b < lkey a) : lcmp a b = 1 := by rw [lcmp, if_neg (by omega), if_neg (by omega)]
theorem lcmp_eq {a b : Nat} (h : lkey a = lkey b) : lcmp a b = 0 := by rw [lcmp, if_neg (by omega), if_pos h]
theorem lkey_num {a : Nat} (h : isN a = false) : lkey a = key a ∧ -9218868437227405320 < lkey a := by
  have h1 := key_abs a
  have h2 := rg_le h
  have h3 : lkey a = key a := by rw [lkey, h]; rfl
  exact ⟨h3, by omega⟩
theorem lkey_nan {a : Nat} (h : isN a = true) : lkey a = -9218868437227405320 := by rw [lkey, h]; rfl
end Go.Proofs.Ytkanckphkmilkaa.F
