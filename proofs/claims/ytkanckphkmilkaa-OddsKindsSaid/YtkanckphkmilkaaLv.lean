/-
  What the landed package leave does: Need and Told. No statement is proved here.
-/
import Derived.Test.YtkanckphkmilkaaCel
import Derived.Recover
import Derived.Laws.Panics
import Derived.Laws.PanicsMore
import Derived.Deep.RegionWith
import Derived.Deep.RegionLaw
namespace Go.Proofs.Ytkanckphkmilkaa.LV
set_option linter.unusedSimpArgs false
set_option linter.unusedVariables false
open Go.RowKit

/-- What a call leaves by: the code k. -/
def wrg (k : Int) : PanicEntry := { v := .iface 54 (.agg #[.int .i64 k]), recovered := false }
theorem told_nil (w : World) : Calls Try.prog 41 #[.nilIface] w fun e w' => e = .returned (.int .i64 0) ∧ w = w' := by
  go_enter Try.func41, Try.ntmps41
  go_wp2
  go_ret
  exact ⟨rfl, rfl⟩
theorem told_wrong (k : Int) (w : World) : Calls Try.prog 41 #[.iface 54 (.agg #[.int .i64 k])] w fun e w' => e = .returned (.int .i64 k) ∧ Below w.heap.size w w' := by
  have ta : ∀ w, (Instr.typeAssert (.iface 54 (.agg #[.int .i64 k])) 20 54 true).run Try.prog w = .ok (.tuple #[.agg #[.int .i64 k], .bool true]) w := fun _ => by kernel_rfl
  go_enter Try.func41, Try.ntmps41
  go_wp2
  go_ret
  exact ⟨rfl, (Below.refl _ _).alloc (Nat.le_refl _) _⟩
theorem need_yes (k : Int) (w : World) : Calls Try.prog 32 #[.bool true, .int .i64 k] w fun e w' => e = .returned (.tuple #[]) ∧ w = w' := by
  go_enter Try.func32, Try.ntmps32
  go_wp2
  go_end0
  exact ⟨rfl, rfl⟩
theorem need_no (k : Int) (w : World) : Calls Try.prog 32 #[.bool false, .int .i64 k] w fun e w' => e = .panicked [wrg k] ∧ w = w' := by
  go_enter Try.func32, Try.ntmps32
  go_wp2
  exact ⟨rfl, rfl, rfl⟩
end Go.Proofs.Ytkanckphkmilkaa.LV
