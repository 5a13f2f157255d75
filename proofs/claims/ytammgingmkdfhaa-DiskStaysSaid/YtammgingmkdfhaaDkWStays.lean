/-
  The walk of one statement of layer 19, as its frame calls it.
-/
import Derived.Test.YtammgingmkdfhaaDkL4
import Derived.Test.YtammgingmkdfhaaDkM
import Derived.Test.YtammgingmkdfhaaDkO
import Derived.Test.YtammgingmkdfhaaDkWc
namespace Go.Proofs.Ytammgingmkdfhaa.S19
set_option linter.unusedSimpArgs false
set_option linter.unusedVariables false
set_option maxRecDepth 8192
open Go.ChangeShapes Go.WideShapes Go.ChangeAt Go.RowKit Go.Joins
theorem diskStays_frame (W : World) (hk : D0.ok W) (a : Int) (wa : (Lit.int .u8 a).wf = true) (v : Value) (y : Option Addr × Nat × Nat × List AcV) (o : v = .slice y.1 y.2.1 y.2.2.1 ∧ RA W y.1 y.2.1 y.2.2.1 y.2.2.2) :
    Calls Try.prog 4 #[.int .u8 a, v] W fun e w' => e = .returned (.bool true) ∧ Below W.heap.size W w' := by
  obtain ⟨n, rfl, hn⟩ := nat_of_u8 wa
  obtain ⟨rfl, h1⟩ := o
  exact diskStays_walk D0 W hk n hn _ _ _ _ h1
end Go.Proofs.Ytammgingmkdfhaa.S19
