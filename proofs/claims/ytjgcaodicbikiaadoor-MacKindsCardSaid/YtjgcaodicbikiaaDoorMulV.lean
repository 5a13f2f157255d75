/-
  What bits.Mul64 does with a small number and 8. No statement is proved here.
-/
import Derived.Test.YtjgcaodicbikiaaDoorWords
namespace Go.Proofs.YtjgcaodicbikiaaDoor.S5
set_option linter.unusedSimpArgs false
set_option linter.unusedVariables false
open Go.RowKit

theorem low32 (x : Nat) (h : x < 4294967296) : bits .and .u64 (x : Int) 4294967295 = (x : Int) := by
  rw [u64_and _ _ (by omega) (by omega) (by omega) (by omega), Int.toNat_natCast]
  show ((_ &&& (2 ^ 32 - 1) : Nat) : Int) = _
  rw [Nat.and_two_pow_sub_one_eq_mod]
  omega
theorem mul8_any (x : Nat) (w : World) (h : x < 536870912) :
    Calls Tryd.prog 49 #[.int .u64 (x : Int), .int .u64 8] w fun e w' => e = .returned (.tuple #[.int .u64 0, .int .u64 (8 * (x : Int))]) ∧ w = w' := by
  have h1 := low32 x (by omega)
  have h2 : (x : Int) / 4294967296 = 0 := by omega
  have h3 : bits .and .u64 8 4294967295 = 8 := by simpa using low32 8 (by omega)
  have h4 : bits .and .u64 0 4294967295 = 0 := by simpa using low32 0 (by omega)
  have h7 : IntKind.u64.wrap (8 * (x : Int)) = 8 * (x : Int) := by rw [IntKind.wrap_u64]; omega
  have h5 : IntKind.u64.wrap ((x : Int) * 8) = 8 * (x : Int) := by rw [IntKind.wrap_u64]; omega
  have h6 : (8 * (x : Int)) / 4294967296 = 0 := by omega
  go_enter Tryd.func49, Tryd.ntmps49
  go_wp2
  go_ret2
  exact ⟨rfl, rfl⟩
end Go.Proofs.YtjgcaodicbikiaaDoor.S5
