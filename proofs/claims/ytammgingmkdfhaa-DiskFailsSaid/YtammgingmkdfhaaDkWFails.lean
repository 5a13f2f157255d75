/-
  The walk of one statement of layer 19, as its frame calls it.
-/
import Derived.Test.YtammgingmkdfhaaDkL3
import Derived.Test.YtammgingmkdfhaaDkM
import Derived.Test.YtammgingmkdfhaaDkO
import Derived.Test.YtammgingmkdfhaaDkWc
namespace Go.Proofs.Ytammgingmkdfhaa.S19
set_option linter.unusedSimpArgs false
set_option linter.unusedVariables false
set_option maxRecDepth 8192
open Go.ChangeShapes Go.WideShapes Go.ChangeAt Go.RowKit Go.Joins
theorem diskFails_frame (W : World) (hk : D0.ok W) (v : Value) (y : Rz) (o : v = .slice y.1 y.2.1 y.2.2.1 ∧ RI W .i8 y.1 y.2.1 y.2.2.1 y.2.2.2 ∧ ∀ z ∈ y.2.2.2, -128 ≤ z ∧ z < 128) (b : Int) (wb : (Lit.int .u8 b).wf = true) :
    Calls Try.prog 7 #[v, .int .u8 b] W fun e w' => e = .returned (.bool true) ∧ Below W.heap.size W w' := by
  obtain ⟨n, rfl, hn⟩ := nat_of_u8 wb
  obtain ⟨rfl, h1, h2⟩ := o
  exact diskFails_walk D0 W hk _ _ _ _ h1 h2 n hn
end Go.Proofs.Ytammgingmkdfhaa.S19
