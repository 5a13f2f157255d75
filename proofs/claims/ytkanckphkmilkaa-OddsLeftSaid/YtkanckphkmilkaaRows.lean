/-
  No cell of these rows narrows 'for every input' (looked for: loops, veiled, ifaces, maps, wideKeys, modest, calm, conditions, laid).
  DERIVED. THE GIVEN ROWS OF THIS SEAT. 8 by the template 'for every input the law returns true; each argument reads behind the call as it read before'; 0 by the template 'total and deterministic' (their statements: YtkanckphkmilkaaTotals.lean).
  GIVEN WITH THE SEED: the statements are not yours to turn. If you find one false, say at which input.
  Laid BY PROGRAM, IN A SANDBOX (cutbox-rows.mjs): the forced cells as the released guide's own fill.sh prints them over the translation 31ab13677bc50a40… (all of the seat's roots in one cut). By AI agents, Wed Nov 11 2026. No macro, syntax, notation, axiom, sorry.
-/
import Derived.Test.YtkanckphkmilkaaChecked
import GoSem.Claim
import GoSem.ClaimJoined
import GoSem.ClaimMapViews
import Derived.JoinedTies
import Derived.KernelRfl
namespace Go.Proofs.Ytkanckphkmilkaa
/- THE CELL 'sum', in the pinned program and in every row, IS THE sha256 OF THE DUMP (.gsa) THAT YtkanckphkmilkaaProg.lean LOADS. Nothing in Lean hashes anything: it is a label: what it is worth is what the hold of that sum in a sandbox is worth. -/
noncomputable def Try.pinned : Pinned := { name := "ytkanckphkmilkaa", sum := "31ab13677bc50a40802e0e83db3bd82fff7ea6d8805b42e4af2415f4000c6225", checked := Try.checked }
namespace Rows
def none {H : Type} : Left H := { results := [], args := [] }

/-- 'tearofflaw23.OddsKinds': WHATEVER THE INPUT: true; the input reads as it did. -/
def oddsKindsSpec : ChangeSpec := { name := "oddsKinds", fn := fun _ => fun
  | [d1, d2] => { results := [.lit (.bool true)], args := [d1, d2] }
  | _ => none }
def oddsKindsRow : OpenClaim := { program := "ytkanckphkmilkaa", sum := "31ab13677bc50a40802e0e83db3bd82fff7ea6d8805b42e4af2415f4000c6225", func := "tearoff/tearofflaw23.OddsKinds", spec := "oddsKinds", inPlace := ["math.Float64bits", "math.Float64frombits"], unfollowed := true, recurses := true, apart := false }
def OddsKindsSaid : Prop := oddsKindsRow.holds Try.pinned (OpenSpec.ofChange oddsKindsSpec)

/-- ITS FALSE NEIGHBOUR: 'it returns false'. Refute it at one input. -/
def oddsKindsWrong : ChangeSpec := { name := "oddsKinds", fn := fun _ => fun
  | [d1, d2] => { results := [.lit (.bool false)], args := [d1, d2] }
  | _ => none }
def OddsKindsWrongFalsely : Prop := oddsKindsRow.holds Try.pinned (OpenSpec.ofChange oddsKindsWrong)

/-- 'tearofflaw23.OddsLists': WHATEVER THE INPUT: true; the input reads as it did. -/
def oddsListsSpec : ChangeSpec := { name := "oddsLists", fn := fun _ => fun
  | [d] => { results := [.lit (.bool true)], args := [d] }
  | _ => none }
def oddsListsRow : OpenClaim := { program := "ytkanckphkmilkaa", sum := "31ab13677bc50a40802e0e83db3bd82fff7ea6d8805b42e4af2415f4000c6225", func := "tearoff/tearofflaw23.OddsLists", spec := "oddsLists", inPlace := ["math.Float64bits", "math.Float64frombits"], unfollowed := true, recurses := true, apart := false }
def OddsListsSaid : Prop := oddsListsRow.holds Try.pinned (OpenSpec.ofChange oddsListsSpec)

/-- ITS FALSE NEIGHBOUR: 'it returns false'. Refute it at one input. -/
def oddsListsWrong : ChangeSpec := { name := "oddsLists", fn := fun _ => fun
  | [d] => { results := [.lit (.bool false)], args := [d] }
  | _ => none }
def OddsListsWrongFalsely : Prop := oddsListsRow.holds Try.pinned (OpenSpec.ofChange oddsListsWrong)

/-- 'tearofflaw23.OddsClamps': WHATEVER THE INPUT: true; the input reads as it did. -/
def oddsClampsSpec : ChangeSpec := { name := "oddsClamps", fn := fun _ => fun
  | [d1, d2, d3] => { results := [.lit (.bool true)], args := [d1, d2, d3] }
  | _ => none }
def oddsClampsRow : OpenClaim := { program := "ytkanckphkmilkaa", sum := "31ab13677bc50a40802e0e83db3bd82fff7ea6d8805b42e4af2415f4000c6225", func := "tearoff/tearofflaw23.OddsClamps", spec := "oddsClamps", inPlace := ["math.Float64bits", "math.Float64frombits"], unfollowed := true, recurses := true, apart := false }
def OddsClampsSaid : Prop := oddsClampsRow.holds Try.pinned (OpenSpec.ofChange oddsClampsSpec)

/-- ITS FALSE NEIGHBOUR: 'it returns false'. Refute it at one input. -/
def oddsClampsWrong : ChangeSpec := { name := "oddsClamps", fn := fun _ => fun
  | [d1, d2, d3] => { results := [.lit (.bool false)], args := [d1, d2, d3] }
  | _ => none }
def OddsClampsWrongFalsely : Prop := oddsClampsRow.holds Try.pinned (OpenSpec.ofChange oddsClampsWrong)

/-- 'tearofflaw23.OddsLeft': WHATEVER THE INPUT: true; the input reads as it did. -/
def oddsLeftSpec : ChangeSpec := { name := "oddsLeft", fn := fun _ => fun
  | [d1, d2] => { results := [.lit (.bool true)], args := [d1, d2] }
  | _ => none }
def oddsLeftRow : OpenClaim := { program := "ytkanckphkmilkaa", sum := "31ab13677bc50a40802e0e83db3bd82fff7ea6d8805b42e4af2415f4000c6225", func := "tearoff/tearofflaw23.OddsLeft", spec := "oddsLeft", inPlace := ["math.Float64bits", "math.Float64frombits"], unfollowed := true, recurses := true, apart := false }
def OddsLeftSaid : Prop := oddsLeftRow.holds Try.pinned (OpenSpec.ofChange oddsLeftSpec)

/-- ITS FALSE NEIGHBOUR: 'it returns false'. Refute it at one input. -/
def oddsLeftWrong : ChangeSpec := { name := "oddsLeft", fn := fun _ => fun
  | [d1, d2] => { results := [.lit (.bool false)], args := [d1, d2] }
  | _ => none }
def OddsLeftWrongFalsely : Prop := oddsLeftRow.holds Try.pinned (OpenSpec.ofChange oddsLeftWrong)

/-- 'tearofflaw23.OddsOrder': WHATEVER THE INPUT: true; the input reads as it did. -/
def oddsOrderSpec : ChangeSpec := { name := "oddsOrder", fn := fun _ => fun
  | [d1, d2, d3] => { results := [.lit (.bool true)], args := [d1, d2, d3] }
  | _ => none }
def oddsOrderRow : OpenClaim := { program := "ytkanckphkmilkaa", sum := "31ab13677bc50a40802e0e83db3bd82fff7ea6d8805b42e4af2415f4000c6225", func := "tearoff/tearofflaw23.OddsOrder", spec := "oddsOrder", inPlace := ["math.Float64bits", "math.Float64frombits"], unfollowed := true, recurses := true, apart := false }
def OddsOrderSaid : Prop := oddsOrderRow.holds Try.pinned (OpenSpec.ofChange oddsOrderSpec)

/-- ITS FALSE NEIGHBOUR: 'it returns false'. Refute it at one input. -/
def oddsOrderWrong : ChangeSpec := { name := "oddsOrder", fn := fun _ => fun
  | [d1, d2, d3] => { results := [.lit (.bool false)], args := [d1, d2, d3] }
  | _ => none }
def OddsOrderWrongFalsely : Prop := oddsOrderRow.holds Try.pinned (OpenSpec.ofChange oddsOrderWrong)

/-- 'tearofflaw23.OddsShares': WHATEVER THE INPUT: true; the input reads as it did. -/
def oddsSharesSpec : ChangeSpec := { name := "oddsShares", fn := fun _ => fun
  | [d] => { results := [.lit (.bool true)], args := [d] }
  | _ => none }
def oddsSharesRow : OpenClaim := { program := "ytkanckphkmilkaa", sum := "31ab13677bc50a40802e0e83db3bd82fff7ea6d8805b42e4af2415f4000c6225", func := "tearoff/tearofflaw23.OddsShares", spec := "oddsShares", inPlace := ["math.Float64bits", "math.Float64frombits"], unfollowed := true, recurses := true, apart := false }
def OddsSharesSaid : Prop := oddsSharesRow.holds Try.pinned (OpenSpec.ofChange oddsSharesSpec)

/-- ITS FALSE NEIGHBOUR: 'it returns false'. Refute it at one input. -/
def oddsSharesWrong : ChangeSpec := { name := "oddsShares", fn := fun _ => fun
  | [d] => { results := [.lit (.bool false)], args := [d] }
  | _ => none }
def OddsSharesWrongFalsely : Prop := oddsSharesRow.holds Try.pinned (OpenSpec.ofChange oddsSharesWrong)

/-- 'tearofflaw23.OddsBest': WHATEVER THE INPUT: true; the input reads as it did. -/
def oddsBestSpec : ChangeSpec := { name := "oddsBest", fn := fun _ => fun
  | [d] => { results := [.lit (.bool true)], args := [d] }
  | _ => none }
def oddsBestRow : OpenClaim := { program := "ytkanckphkmilkaa", sum := "31ab13677bc50a40802e0e83db3bd82fff7ea6d8805b42e4af2415f4000c6225", func := "tearoff/tearofflaw23.OddsBest", spec := "oddsBest", inPlace := ["math.Float64bits", "math.Float64frombits"], unfollowed := true, recurses := true, apart := false }
def OddsBestSaid : Prop := oddsBestRow.holds Try.pinned (OpenSpec.ofChange oddsBestSpec)

/-- ITS FALSE NEIGHBOUR: 'it returns false'. Refute it at one input. -/
def oddsBestWrong : ChangeSpec := { name := "oddsBest", fn := fun _ => fun
  | [d] => { results := [.lit (.bool false)], args := [d] }
  | _ => none }
def OddsBestWrongFalsely : Prop := oddsBestRow.holds Try.pinned (OpenSpec.ofChange oddsBestWrong)

/-- 'tearofflaw23.OddsCount': WHATEVER THE INPUT: true; the input reads as it did. -/
def oddsCountSpec : ChangeSpec := { name := "oddsCount", fn := fun _ => fun
  | [d1, d2, d3] => { results := [.lit (.bool true)], args := [d1, d2, d3] }
  | _ => none }
def oddsCountRow : OpenClaim := { program := "ytkanckphkmilkaa", sum := "31ab13677bc50a40802e0e83db3bd82fff7ea6d8805b42e4af2415f4000c6225", func := "tearoff/tearofflaw23.OddsCount", spec := "oddsCount", inPlace := ["math.Float64bits", "math.Float64frombits"], unfollowed := true, recurses := true, apart := false }
def OddsCountSaid : Prop := oddsCountRow.holds Try.pinned (OpenSpec.ofChange oddsCountSpec)

/-- ITS FALSE NEIGHBOUR: 'it returns false'. Refute it at one input. -/
def oddsCountWrong : ChangeSpec := { name := "oddsCount", fn := fun _ => fun
  | [d1, d2, d3] => { results := [.lit (.bool false)], args := [d1, d2, d3] }
  | _ => none }
def OddsCountWrongFalsely : Prop := oddsCountRow.holds Try.pinned (OpenSpec.ofChange oddsCountWrong)

/- THE SECOND FORM. 'bulk': how many values and letters a reading holds, each counted each time it is reached (what is shared counts as often as it is met; a slice's spare places count too). A statement '..UptoSaid' is the law's where the arguments, and the package variables that the reading takes, are together of bulk at most 1048576: NARROWER than '..Said'. Prove '..Said' where nothing that the law and all that it calls make is longer than what came in: it says more and counts as full. Else prove '..UptoSaid'. A law counts once. -/
mutual
def uptoBulk {H : Type} : DataW H → Nat
  | .lit (.string bytes) => bytes.length + 1
  | .lit _ => 1
  | .nil => 1
  | .ptr d => uptoBulk d + 1
  | .slice elems spare => uptoBulkAll elems + uptoBulkAll spare + 1
  | .agg parts => uptoBulkAll parts + 1
  | .iface _ d => uptoBulk d + 1
  | .map entries => uptoBulkEntries entries + 1
  | .held _ => 1
def uptoBulkAll {H : Type} : List (DataW H) → Nat
  | [] => 0
  | d :: r => uptoBulk d + uptoBulkAll r
def uptoBulkEntries {H : Type} : List (Lit × DataW H) → Nat
  | [] => 0
  | x :: r => uptoBulkEntry x + uptoBulkEntries r
def uptoBulkEntry {H : Type} : Lit × DataW H → Nat
  | (.string bytes, d) => bytes.length + uptoBulk d + 1
  | (_, d) => uptoBulk d + 1
 end
def uptoSmall : (H : Type) → List (DataW H) → Bool := fun _ ds => decide (uptoBulkAll ds ≤ 1048576)
def OpenSpec.upto (s : _root_.Go.ChangeSpec) : _root_.Go.OpenSpec := { _root_.Go.OpenSpec.ofChange s with cond := some uptoSmall }

/-- 'tearofflaw23.OddsKinds', WHERE WHAT IT READS IS OF BULK AT MOST 1048576: true; the input reads as it did. -/
def oddsKindsUptoRow : OpenClaim := { program := "ytkanckphkmilkaa", sum := "31ab13677bc50a40802e0e83db3bd82fff7ea6d8805b42e4af2415f4000c6225", func := "tearoff/tearofflaw23.OddsKinds", spec := "oddsKinds", inPlace := ["math.Float64bits", "math.Float64frombits"], unfollowed := true, recurses := true, apart := false, narrowed := true }
def OddsKindsUptoSaid : Prop := oddsKindsUptoRow.holds Try.pinned (OpenSpec.upto oddsKindsSpec)

/-- 'tearofflaw23.OddsLists', WHERE WHAT IT READS IS OF BULK AT MOST 1048576: true; the input reads as it did. -/
def oddsListsUptoRow : OpenClaim := { program := "ytkanckphkmilkaa", sum := "31ab13677bc50a40802e0e83db3bd82fff7ea6d8805b42e4af2415f4000c6225", func := "tearoff/tearofflaw23.OddsLists", spec := "oddsLists", inPlace := ["math.Float64bits", "math.Float64frombits"], unfollowed := true, recurses := true, apart := false, narrowed := true }
def OddsListsUptoSaid : Prop := oddsListsUptoRow.holds Try.pinned (OpenSpec.upto oddsListsSpec)

/-- 'tearofflaw23.OddsClamps', WHERE WHAT IT READS IS OF BULK AT MOST 1048576: true; the input reads as it did. -/
def oddsClampsUptoRow : OpenClaim := { program := "ytkanckphkmilkaa", sum := "31ab13677bc50a40802e0e83db3bd82fff7ea6d8805b42e4af2415f4000c6225", func := "tearoff/tearofflaw23.OddsClamps", spec := "oddsClamps", inPlace := ["math.Float64bits", "math.Float64frombits"], unfollowed := true, recurses := true, apart := false, narrowed := true }
def OddsClampsUptoSaid : Prop := oddsClampsUptoRow.holds Try.pinned (OpenSpec.upto oddsClampsSpec)

/-- 'tearofflaw23.OddsLeft', WHERE WHAT IT READS IS OF BULK AT MOST 1048576: true; the input reads as it did. -/
def oddsLeftUptoRow : OpenClaim := { program := "ytkanckphkmilkaa", sum := "31ab13677bc50a40802e0e83db3bd82fff7ea6d8805b42e4af2415f4000c6225", func := "tearoff/tearofflaw23.OddsLeft", spec := "oddsLeft", inPlace := ["math.Float64bits", "math.Float64frombits"], unfollowed := true, recurses := true, apart := false, narrowed := true }
def OddsLeftUptoSaid : Prop := oddsLeftUptoRow.holds Try.pinned (OpenSpec.upto oddsLeftSpec)

/-- 'tearofflaw23.OddsOrder', WHERE WHAT IT READS IS OF BULK AT MOST 1048576: true; the input reads as it did. -/
def oddsOrderUptoRow : OpenClaim := { program := "ytkanckphkmilkaa", sum := "31ab13677bc50a40802e0e83db3bd82fff7ea6d8805b42e4af2415f4000c6225", func := "tearoff/tearofflaw23.OddsOrder", spec := "oddsOrder", inPlace := ["math.Float64bits", "math.Float64frombits"], unfollowed := true, recurses := true, apart := false, narrowed := true }
def OddsOrderUptoSaid : Prop := oddsOrderUptoRow.holds Try.pinned (OpenSpec.upto oddsOrderSpec)

/-- 'tearofflaw23.OddsShares', WHERE WHAT IT READS IS OF BULK AT MOST 1048576: true; the input reads as it did. -/
def oddsSharesUptoRow : OpenClaim := { program := "ytkanckphkmilkaa", sum := "31ab13677bc50a40802e0e83db3bd82fff7ea6d8805b42e4af2415f4000c6225", func := "tearoff/tearofflaw23.OddsShares", spec := "oddsShares", inPlace := ["math.Float64bits", "math.Float64frombits"], unfollowed := true, recurses := true, apart := false, narrowed := true }
def OddsSharesUptoSaid : Prop := oddsSharesUptoRow.holds Try.pinned (OpenSpec.upto oddsSharesSpec)

/-- 'tearofflaw23.OddsBest', WHERE WHAT IT READS IS OF BULK AT MOST 1048576: true; the input reads as it did. -/
def oddsBestUptoRow : OpenClaim := { program := "ytkanckphkmilkaa", sum := "31ab13677bc50a40802e0e83db3bd82fff7ea6d8805b42e4af2415f4000c6225", func := "tearoff/tearofflaw23.OddsBest", spec := "oddsBest", inPlace := ["math.Float64bits", "math.Float64frombits"], unfollowed := true, recurses := true, apart := false, narrowed := true }
def OddsBestUptoSaid : Prop := oddsBestUptoRow.holds Try.pinned (OpenSpec.upto oddsBestSpec)

/-- 'tearofflaw23.OddsCount', WHERE WHAT IT READS IS OF BULK AT MOST 1048576: true; the input reads as it did. -/
def oddsCountUptoRow : OpenClaim := { program := "ytkanckphkmilkaa", sum := "31ab13677bc50a40802e0e83db3bd82fff7ea6d8805b42e4af2415f4000c6225", func := "tearoff/tearofflaw23.OddsCount", spec := "oddsCount", inPlace := ["math.Float64bits", "math.Float64frombits"], unfollowed := true, recurses := true, apart := false, narrowed := true }
def OddsCountUptoSaid : Prop := oddsCountUptoRow.holds Try.pinned (OpenSpec.upto oddsCountSpec)

end Rows
end Go.Proofs.Ytkanckphkmilkaa
