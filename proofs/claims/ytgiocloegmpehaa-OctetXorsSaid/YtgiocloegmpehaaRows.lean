/-
  No cell of these rows narrows 'for every input' (looked for: loops, veiled, ifaces, maps, wideKeys, modest, calm, conditions, laid).
  DERIVED. THE GIVEN ROWS OF THIS SEAT. 5 by the template 'for every input the law returns true; each argument reads behind the call as it read before'; 0 by the template 'total and deterministic' (their statements: YtgiocloegmpehaaTotals.lean).
  GIVEN WITH THE SEED: the statements are not yours to turn. If you find one false, say at which input.
  Laid BY PROGRAM, IN A SANDBOX (cutbox-rows.mjs): the forced cells as the released guide's own fill.sh prints them over the translation ceb3aa18a84ce826… (all of the seat's roots in one cut). By AI agents, Wed Nov 11 2026. No macro, syntax, notation, axiom, sorry.
-/
import Derived.Test.YtgiocloegmpehaaChecked
import GoSem.Claim
import GoSem.ClaimJoined
import GoSem.ClaimMapViews
import Derived.JoinedTies
import Derived.KernelRfl
namespace Go.Proofs.Ytgiocloegmpehaa
/- THE CELL 'sum', in the pinned program and in every row, IS THE sha256 OF THE DUMP (.gsa) THAT YtgiocloegmpehaaProg.lean LOADS. Nothing in Lean hashes anything: it is a label: what it is worth is what the hold of that sum in a sandbox is worth. -/
noncomputable def Try.pinned : Pinned := { name := "ytgiocloegmpehaa", sum := "ceb3aa18a84ce8262a3accbb26e4f6f67bf45a657c7ee7ff6e5cb0a2ab9563ae", checked := Try.checked }
namespace Rows
def none {H : Type} : Left H := { results := [], args := [] }

/-- 'tearofflaw01.OctetNums': WHATEVER THE INPUT: true; the input reads as it did. -/
def octetNumsSpec : ChangeSpec := { name := "octetNums", fn := fun _ => fun
  | [d1, d2, d3] => { results := [.lit (.bool true)], args := [d1, d2, d3] }
  | _ => none }
def octetNumsRow : OpenClaim := { program := "ytgiocloegmpehaa", sum := "ceb3aa18a84ce8262a3accbb26e4f6f67bf45a657c7ee7ff6e5cb0a2ab9563ae", func := "tearoff/tearofflaw01.OctetNums", spec := "octetNums", unfollowed := true, recurses := true, apart := false }
def OctetNumsSaid : Prop := octetNumsRow.holds Try.pinned (OpenSpec.ofChange octetNumsSpec)

/-- ITS FALSE NEIGHBOUR: 'it returns false'. Refute it at one input. -/
def octetNumsWrong : ChangeSpec := { name := "octetNums", fn := fun _ => fun
  | [d1, d2, d3] => { results := [.lit (.bool false)], args := [d1, d2, d3] }
  | _ => none }
def OctetNumsWrongFalsely : Prop := octetNumsRow.holds Try.pinned (OpenSpec.ofChange octetNumsWrong)

/-- 'tearofflaw01.OctetPairs': WHATEVER THE INPUT: true; the input reads as it did. -/
def octetPairsSpec : ChangeSpec := { name := "octetPairs", fn := fun _ => fun
  | [d1, d2, d3] => { results := [.lit (.bool true)], args := [d1, d2, d3] }
  | _ => none }
def octetPairsRow : OpenClaim := { program := "ytgiocloegmpehaa", sum := "ceb3aa18a84ce8262a3accbb26e4f6f67bf45a657c7ee7ff6e5cb0a2ab9563ae", func := "tearoff/tearofflaw01.OctetPairs", spec := "octetPairs", unfollowed := true, recurses := true, apart := false }
def OctetPairsSaid : Prop := octetPairsRow.holds Try.pinned (OpenSpec.ofChange octetPairsSpec)

/-- ITS FALSE NEIGHBOUR: 'it returns false'. Refute it at one input. -/
def octetPairsWrong : ChangeSpec := { name := "octetPairs", fn := fun _ => fun
  | [d1, d2, d3] => { results := [.lit (.bool false)], args := [d1, d2, d3] }
  | _ => none }
def OctetPairsWrongFalsely : Prop := octetPairsRow.holds Try.pinned (OpenSpec.ofChange octetPairsWrong)

/-- 'tearofflaw01.OctetOrder': WHATEVER THE INPUT: true; the input reads as it did. -/
def octetOrderSpec : ChangeSpec := { name := "octetOrder", fn := fun _ => fun
  | [d1, d2, d3] => { results := [.lit (.bool true)], args := [d1, d2, d3] }
  | _ => none }
def octetOrderRow : OpenClaim := { program := "ytgiocloegmpehaa", sum := "ceb3aa18a84ce8262a3accbb26e4f6f67bf45a657c7ee7ff6e5cb0a2ab9563ae", func := "tearoff/tearofflaw01.OctetOrder", spec := "octetOrder", unfollowed := true, recurses := true, apart := false }
def OctetOrderSaid : Prop := octetOrderRow.holds Try.pinned (OpenSpec.ofChange octetOrderSpec)

/-- ITS FALSE NEIGHBOUR: 'it returns false'. Refute it at one input. -/
def octetOrderWrong : ChangeSpec := { name := "octetOrder", fn := fun _ => fun
  | [d1, d2, d3] => { results := [.lit (.bool false)], args := [d1, d2, d3] }
  | _ => none }
def OctetOrderWrongFalsely : Prop := octetOrderRow.holds Try.pinned (OpenSpec.ofChange octetOrderWrong)

/-- 'tearofflaw01.OctetXors': WHATEVER THE INPUT: true; the input reads as it did. -/
def octetXorsSpec : ChangeSpec := { name := "octetXors", fn := fun _ => fun
  | [d1, d2, d3] => { results := [.lit (.bool true)], args := [d1, d2, d3] }
  | _ => none }
def octetXorsRow : OpenClaim := { program := "ytgiocloegmpehaa", sum := "ceb3aa18a84ce8262a3accbb26e4f6f67bf45a657c7ee7ff6e5cb0a2ab9563ae", func := "tearoff/tearofflaw01.OctetXors", spec := "octetXors", unfollowed := true, recurses := true, apart := false }
def OctetXorsSaid : Prop := octetXorsRow.holds Try.pinned (OpenSpec.ofChange octetXorsSpec)

/-- ITS FALSE NEIGHBOUR: 'it returns false'. Refute it at one input. -/
def octetXorsWrong : ChangeSpec := { name := "octetXors", fn := fun _ => fun
  | [d1, d2, d3] => { results := [.lit (.bool false)], args := [d1, d2, d3] }
  | _ => none }
def OctetXorsWrongFalsely : Prop := octetXorsRow.holds Try.pinned (OpenSpec.ofChange octetXorsWrong)

/-- 'tearofflaw01.OctetFills': WHATEVER THE INPUT: true; the input reads as it did. -/
def octetFillsSpec : ChangeSpec := { name := "octetFills", fn := fun _ => fun
  | [d1, d2] => { results := [.lit (.bool true)], args := [d1, d2] }
  | _ => none }
def octetFillsRow : OpenClaim := { program := "ytgiocloegmpehaa", sum := "ceb3aa18a84ce8262a3accbb26e4f6f67bf45a657c7ee7ff6e5cb0a2ab9563ae", func := "tearoff/tearofflaw01.OctetFills", spec := "octetFills", unfollowed := true, recurses := true, apart := false }
def OctetFillsSaid : Prop := octetFillsRow.holds Try.pinned (OpenSpec.ofChange octetFillsSpec)

/-- ITS FALSE NEIGHBOUR: 'it returns false'. Refute it at one input. -/
def octetFillsWrong : ChangeSpec := { name := "octetFills", fn := fun _ => fun
  | [d1, d2] => { results := [.lit (.bool false)], args := [d1, d2] }
  | _ => none }
def OctetFillsWrongFalsely : Prop := octetFillsRow.holds Try.pinned (OpenSpec.ofChange octetFillsWrong)

/- THE SECOND FORM. 'bulk': how many values and letters a reading holds, each counted each time it is reached (what is shared counts as often as it is met; a slice's spare places count too). A statement '..UptoSaid' is the law's where the arguments, and the package variables that the reading takes, are together of bulk at most 1048576: NARROWER than '..Said'. Prove '..Said' where nothing that the law and all that it calls make is longer than what came in: it says more and counts as full. Else prove '..UptoSaid'. A law counts once. -/
mutual
def uptoBulk {H : Type} : DataW H → Nat
  | .lit (.string bytes) => bytes.length + 1
  | .lit _ => 1
  | .nil => 1
  | .ptr d => uptoBulk d + 1
  | .slice elems spare => uptoBulkAll elems + uptoBulkAll spare + 1
  | .agg parts => uptoBulkAll parts + 1
  | .iface _ d => uptoBulk d + 1
  | .map entries => uptoBulkEntries entries + 1
  | .held _ => 1
def uptoBulkAll {H : Type} : List (DataW H) → Nat
  | [] => 0
  | d :: r => uptoBulk d + uptoBulkAll r
def uptoBulkEntries {H : Type} : List (Lit × DataW H) → Nat
  | [] => 0
  | x :: r => uptoBulkEntry x + uptoBulkEntries r
def uptoBulkEntry {H : Type} : Lit × DataW H → Nat
  | (.string bytes, d) => bytes.length + uptoBulk d + 1
  | (_, d) => uptoBulk d + 1
 end
def uptoSmall : (H : Type) → List (DataW H) → Bool := fun _ ds => decide (uptoBulkAll ds ≤ 1048576)
def OpenSpec.upto (s : _root_.Go.ChangeSpec) : _root_.Go.OpenSpec := { _root_.Go.OpenSpec.ofChange s with cond := some uptoSmall }

/-- 'tearofflaw01.OctetNums', WHERE WHAT IT READS IS OF BULK AT MOST 1048576: true; the input reads as it did. -/
def octetNumsUptoRow : OpenClaim := { program := "ytgiocloegmpehaa", sum := "ceb3aa18a84ce8262a3accbb26e4f6f67bf45a657c7ee7ff6e5cb0a2ab9563ae", func := "tearoff/tearofflaw01.OctetNums", spec := "octetNums", unfollowed := true, recurses := true, apart := false, narrowed := true }
def OctetNumsUptoSaid : Prop := octetNumsUptoRow.holds Try.pinned (OpenSpec.upto octetNumsSpec)

/-- 'tearofflaw01.OctetPairs', WHERE WHAT IT READS IS OF BULK AT MOST 1048576: true; the input reads as it did. -/
def octetPairsUptoRow : OpenClaim := { program := "ytgiocloegmpehaa", sum := "ceb3aa18a84ce8262a3accbb26e4f6f67bf45a657c7ee7ff6e5cb0a2ab9563ae", func := "tearoff/tearofflaw01.OctetPairs", spec := "octetPairs", unfollowed := true, recurses := true, apart := false, narrowed := true }
def OctetPairsUptoSaid : Prop := octetPairsUptoRow.holds Try.pinned (OpenSpec.upto octetPairsSpec)

/-- 'tearofflaw01.OctetOrder', WHERE WHAT IT READS IS OF BULK AT MOST 1048576: true; the input reads as it did. -/
def octetOrderUptoRow : OpenClaim := { program := "ytgiocloegmpehaa", sum := "ceb3aa18a84ce8262a3accbb26e4f6f67bf45a657c7ee7ff6e5cb0a2ab9563ae", func := "tearoff/tearofflaw01.OctetOrder", spec := "octetOrder", unfollowed := true, recurses := true, apart := false, narrowed := true }
def OctetOrderUptoSaid : Prop := octetOrderUptoRow.holds Try.pinned (OpenSpec.upto octetOrderSpec)

/-- 'tearofflaw01.OctetXors', WHERE WHAT IT READS IS OF BULK AT MOST 1048576: true; the input reads as it did. -/
def octetXorsUptoRow : OpenClaim := { program := "ytgiocloegmpehaa", sum := "ceb3aa18a84ce8262a3accbb26e4f6f67bf45a657c7ee7ff6e5cb0a2ab9563ae", func := "tearoff/tearofflaw01.OctetXors", spec := "octetXors", unfollowed := true, recurses := true, apart := false, narrowed := true }
def OctetXorsUptoSaid : Prop := octetXorsUptoRow.holds Try.pinned (OpenSpec.upto octetXorsSpec)

/-- 'tearofflaw01.OctetFills', WHERE WHAT IT READS IS OF BULK AT MOST 1048576: true; the input reads as it did. -/
def octetFillsUptoRow : OpenClaim := { program := "ytgiocloegmpehaa", sum := "ceb3aa18a84ce8262a3accbb26e4f6f67bf45a657c7ee7ff6e5cb0a2ab9563ae", func := "tearoff/tearofflaw01.OctetFills", spec := "octetFills", unfollowed := true, recurses := true, apart := false, narrowed := true }
def OctetFillsUptoSaid : Prop := octetFillsUptoRow.holds Try.pinned (OpenSpec.upto octetFillsSpec)

end Rows
end Go.Proofs.Ytgiocloegmpehaa
