/-
  The walk of one statement of layer 19, as its frame calls it.
-/
import Derived.Test.YtammgingmkdfhaaDkL1
import Derived.Test.YtammgingmkdfhaaDkM
import Derived.Test.YtammgingmkdfhaaDkO
import Derived.Test.YtammgingmkdfhaaDkWc
namespace Go.Proofs.Ytammgingmkdfhaa.S19
set_option linter.unusedSimpArgs false
set_option linter.unusedVariables false
set_option maxRecDepth 8192
open Go.ChangeShapes Go.WideShapes Go.ChangeAt Go.RowKit Go.Joins
theorem diskDown_frame (W : World) (hk : D0.ok W) (a : Int) (wa : (Lit.int .u8 a).wf = true) (b : Int) (wb : (Lit.int .i64 b).wf = true) (c : Int) (wc : (Lit.int .u8 c).wf = true) :
    Calls Try.prog 6 #[.int .u8 a, .int .i64 b, .int .u8 c] W fun e w' => e = .returned (.bool true) ∧ Below W.heap.size W w' := by
  obtain ⟨n, rfl, hn⟩ := nat_of_u8 wa
  obtain ⟨s, rfl, hs⟩ := nat_of_u8 wc
  exact diskDown_walk D0 W hk n s hn hs b
end Go.Proofs.Ytammgingmkdfhaa.S19
