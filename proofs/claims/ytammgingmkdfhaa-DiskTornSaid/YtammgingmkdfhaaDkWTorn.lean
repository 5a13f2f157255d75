/-
  The walk of one statement of layer 19, as its frame calls it.
-/
import Derived.Test.YtammgingmkdfhaaDkL2
import Derived.Test.YtammgingmkdfhaaDkM
import Derived.Test.YtammgingmkdfhaaDkO
import Derived.Test.YtammgingmkdfhaaDkWc
namespace Go.Proofs.Ytammgingmkdfhaa.S19
set_option linter.unusedSimpArgs false
set_option linter.unusedVariables false
set_option maxRecDepth 8192
open Go.ChangeShapes Go.WideShapes Go.ChangeAt Go.RowKit Go.Joins
theorem diskTorn_frame (W : World) (hk : D0.ok W) (a : Int) (wa : (Lit.int .u8 a).wf = true) (b : Int) (wb : (Lit.int .u8 b).wf = true) (v : Value) (y : UInt8 × UInt8) (o : v = .agg #[.int .u8 (y.1.toNat : Int), .int .u8 (y.2.toNat : Int)]) :
    Calls Try.prog 5 #[.int .u8 a, .int .u8 b, v] W fun e w' => e = .returned (.bool true) ∧ Below W.heap.size W w' := by
  obtain ⟨n, rfl⟩ := byte_of_u8 wa
  obtain ⟨s, rfl⟩ := byte_of_u8 wb
  subst o
  exact diskTorn_walk D0 W hk n s y.1 y.2
end Go.Proofs.Ytammgingmkdfhaa.S19
