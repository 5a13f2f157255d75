/-
  NARROWER THAN 'FOR EVERY INPUT', by the rows' own cells (each row's printed sentence says how): DigitsTell: laid · DigitsBoth: laid · DigitsBack: laid · DigitsShapes: laid · DigitsRaise: laid.
  DERIVED. THE GIVEN ROWS OF THIS SEAT. 5 by the template 'for every input the law returns true; each argument reads behind the call as it read before'; 0 by the template 'total and deterministic' (their statements: YtfhbnfhmicaklaaDoorTotals.lean).
  GIVEN WITH THE SEED: the statements are not yours to turn. If you find one false, say at which input.
  Laid BY PROGRAM, IN A SANDBOX (cutbox-rows.mjs): the forced cells as the released guide's own fill.sh prints them over the translation 3ab1eae4acf23ee2… (all of the seat's roots in one cut). By AI agents, Wed Nov 11 2026. No macro, syntax, notation, axiom, sorry.
-/
import Derived.Test.YtfhbnfhmicaklaaDoorChecked
import GoSem.Claim
import GoSem.ClaimJoined
import GoSem.ClaimMapViews
import Derived.JoinedTies
import Derived.KernelRfl
namespace Go.Proofs.YtfhbnfhmicaklaaDoor
/- THE CELL 'sum', in the pinned program and in every row, IS THE sha256 OF THE DUMP (.gsa) THAT YtfhbnfhmicaklaaDoorProg.lean LOADS. Nothing in Lean hashes anything: it is a label: what it is worth is what the hold of that sum in a sandbox is worth. -/
noncomputable def Tryd.pinned : Pinned := { name := "ytfhbnfhmicaklaadoor", sum := "3ab1eae4acf23ee24d5b35c56548563697c8dbf0ae700a2f0c81f1e4f830e4d7", checked := Tryd.checked }
namespace Rows
def none {H : Type} : Left H := { results := [], args := [] }

/- WHAT THE LISTED PACKAGE-LEVEL VARIABLES READ AS WHEN THE CALL BEGINS. Each datum BY PROGRAM (the guide's laid-datum.mjs) off the statement by which the dump's own 'gosem.cut.vars' lays the variable. In a bare row this is a premise. The card (YtfhbnfhmicaklaaDoorCards.lean) ties it to the program's text. -/
def laid_tearoff_digits_widths {H : Type} : DataW H := .agg [.lit (.int .i64 1), .lit (.int .i64 2), .lit (.int .i64 4), .lit (.int .i64 8)]

/-- 'tearofflaw07.DigitsTell': WHATEVER THE INPUT: true; the input reads as it did. -/
def digitsTellSpec : ChangeSpec := { name := "digitsTell", fn := fun _ => fun
  | [d1, d2, d3] => { results := [.lit (.bool true)], args := [d1, d2, d3] }
  | _ => none }
def digitsTellRow : OpenClaim := { program := "ytfhbnfhmicaklaadoor", sum := "3ab1eae4acf23ee24d5b35c56548563697c8dbf0ae700a2f0c81f1e4f830e4d7", func := "tearoff/tearofflaw07.DigitsTell", spec := "digitsTell", unfollowed := true, recurses := true, named := ["tearoff/digits.widths"], apart := false, laid := [("tearoff/digits.widths", laid_tearoff_digits_widths)] }
def DigitsTellSaid : Prop := digitsTellRow.holds Tryd.pinned (OpenSpec.ofChange digitsTellSpec)

/-- ITS FALSE NEIGHBOUR: 'it returns false'. Refute it at one input. -/
def digitsTellWrong : ChangeSpec := { name := "digitsTell", fn := fun _ => fun
  | [d1, d2, d3] => { results := [.lit (.bool false)], args := [d1, d2, d3] }
  | _ => none }
def DigitsTellWrongFalsely : Prop := digitsTellRow.holds Tryd.pinned (OpenSpec.ofChange digitsTellWrong)

/-- 'tearofflaw07.DigitsBoth': WHATEVER THE INPUT: true; the input reads as it did. -/
def digitsBothSpec : ChangeSpec := { name := "digitsBoth", fn := fun _ => fun
  | [d1, d2, d3] => { results := [.lit (.bool true)], args := [d1, d2, d3] }
  | _ => none }
def digitsBothRow : OpenClaim := { program := "ytfhbnfhmicaklaadoor", sum := "3ab1eae4acf23ee24d5b35c56548563697c8dbf0ae700a2f0c81f1e4f830e4d7", func := "tearoff/tearofflaw07.DigitsBoth", spec := "digitsBoth", unfollowed := true, recurses := true, named := ["tearoff/digits.widths"], apart := false, laid := [("tearoff/digits.widths", laid_tearoff_digits_widths)] }
def DigitsBothSaid : Prop := digitsBothRow.holds Tryd.pinned (OpenSpec.ofChange digitsBothSpec)

/-- ITS FALSE NEIGHBOUR: 'it returns false'. Refute it at one input. -/
def digitsBothWrong : ChangeSpec := { name := "digitsBoth", fn := fun _ => fun
  | [d1, d2, d3] => { results := [.lit (.bool false)], args := [d1, d2, d3] }
  | _ => none }
def DigitsBothWrongFalsely : Prop := digitsBothRow.holds Tryd.pinned (OpenSpec.ofChange digitsBothWrong)

/-- 'tearofflaw07.DigitsBack': WHATEVER THE INPUT: true; the input reads as it did. -/
def digitsBackSpec : ChangeSpec := { name := "digitsBack", fn := fun _ => fun
  | [d1, d2] => { results := [.lit (.bool true)], args := [d1, d2] }
  | _ => none }
def digitsBackRow : OpenClaim := { program := "ytfhbnfhmicaklaadoor", sum := "3ab1eae4acf23ee24d5b35c56548563697c8dbf0ae700a2f0c81f1e4f830e4d7", func := "tearoff/tearofflaw07.DigitsBack", spec := "digitsBack", unfollowed := true, recurses := true, named := ["tearoff/digits.widths"], apart := false, laid := [("tearoff/digits.widths", laid_tearoff_digits_widths)] }
def DigitsBackSaid : Prop := digitsBackRow.holds Tryd.pinned (OpenSpec.ofChange digitsBackSpec)

/-- ITS FALSE NEIGHBOUR: 'it returns false'. Refute it at one input. -/
def digitsBackWrong : ChangeSpec := { name := "digitsBack", fn := fun _ => fun
  | [d1, d2] => { results := [.lit (.bool false)], args := [d1, d2] }
  | _ => none }
def DigitsBackWrongFalsely : Prop := digitsBackRow.holds Tryd.pinned (OpenSpec.ofChange digitsBackWrong)

/-- 'tearofflaw07.DigitsShapes': WHATEVER THE INPUT: true; the input reads as it did. -/
def digitsShapesSpec : ChangeSpec := { name := "digitsShapes", fn := fun _ => fun
  | [d1, d2] => { results := [.lit (.bool true)], args := [d1, d2] }
  | _ => none }
def digitsShapesRow : OpenClaim := { program := "ytfhbnfhmicaklaadoor", sum := "3ab1eae4acf23ee24d5b35c56548563697c8dbf0ae700a2f0c81f1e4f830e4d7", func := "tearoff/tearofflaw07.DigitsShapes", spec := "digitsShapes", unfollowed := true, recurses := true, named := ["tearoff/digits.widths"], apart := false, laid := [("tearoff/digits.widths", laid_tearoff_digits_widths)] }
def DigitsShapesSaid : Prop := digitsShapesRow.holds Tryd.pinned (OpenSpec.ofChange digitsShapesSpec)

/-- ITS FALSE NEIGHBOUR: 'it returns false'. Refute it at one input. -/
def digitsShapesWrong : ChangeSpec := { name := "digitsShapes", fn := fun _ => fun
  | [d1, d2] => { results := [.lit (.bool false)], args := [d1, d2] }
  | _ => none }
def DigitsShapesWrongFalsely : Prop := digitsShapesRow.holds Tryd.pinned (OpenSpec.ofChange digitsShapesWrong)

/-- 'tearofflaw07.DigitsRaise': WHATEVER THE INPUT: true; the input reads as it did. -/
def digitsRaiseSpec : ChangeSpec := { name := "digitsRaise", fn := fun _ => fun
  | [d1, d2, d3] => { results := [.lit (.bool true)], args := [d1, d2, d3] }
  | _ => none }
def digitsRaiseRow : OpenClaim := { program := "ytfhbnfhmicaklaadoor", sum := "3ab1eae4acf23ee24d5b35c56548563697c8dbf0ae700a2f0c81f1e4f830e4d7", func := "tearoff/tearofflaw07.DigitsRaise", spec := "digitsRaise", unfollowed := true, recurses := true, named := ["tearoff/digits.widths"], apart := false, laid := [("tearoff/digits.widths", laid_tearoff_digits_widths)] }
def DigitsRaiseSaid : Prop := digitsRaiseRow.holds Tryd.pinned (OpenSpec.ofChange digitsRaiseSpec)

/-- ITS FALSE NEIGHBOUR: 'it returns false'. Refute it at one input. -/
def digitsRaiseWrong : ChangeSpec := { name := "digitsRaise", fn := fun _ => fun
  | [d1, d2, d3] => { results := [.lit (.bool false)], args := [d1, d2, d3] }
  | _ => none }
def DigitsRaiseWrongFalsely : Prop := digitsRaiseRow.holds Tryd.pinned (OpenSpec.ofChange digitsRaiseWrong)

/- THE SECOND FORM. 'bulk': how many values and letters a reading holds, each counted each time it is reached (what is shared counts as often as it is met; a slice's spare places count too). A statement '..UptoSaid' is the law's where the arguments, and the package variables that the reading takes, are together of bulk at most 1048576: NARROWER than '..Said'. Prove '..Said' where nothing that the law and all that it calls make is longer than what came in: it says more and counts as full. Else prove '..UptoSaid'. A law counts once. -/
mutual
def uptoBulk {H : Type} : DataW H → Nat
  | .lit (.string bytes) => bytes.length + 1
  | .lit _ => 1
  | .nil => 1
  | .ptr d => uptoBulk d + 1
  | .slice elems spare => uptoBulkAll elems + uptoBulkAll spare + 1
  | .agg parts => uptoBulkAll parts + 1
  | .iface _ d => uptoBulk d + 1
  | .map entries => uptoBulkEntries entries + 1
  | .held _ => 1
def uptoBulkAll {H : Type} : List (DataW H) → Nat
  | [] => 0
  | d :: r => uptoBulk d + uptoBulkAll r
def uptoBulkEntries {H : Type} : List (Lit × DataW H) → Nat
  | [] => 0
  | x :: r => uptoBulkEntry x + uptoBulkEntries r
def uptoBulkEntry {H : Type} : Lit × DataW H → Nat
  | (.string bytes, d) => bytes.length + uptoBulk d + 1
  | (_, d) => uptoBulk d + 1
 end
def uptoSmall : (H : Type) → List (DataW H) → Bool := fun _ ds => decide (uptoBulkAll ds ≤ 1048576)
def OpenSpec.upto (s : _root_.Go.ChangeSpec) : _root_.Go.OpenSpec := { _root_.Go.OpenSpec.ofChange s with cond := some uptoSmall }

/-- 'tearofflaw07.DigitsTell', WHERE WHAT IT READS IS OF BULK AT MOST 1048576: true; the input reads as it did. -/
def digitsTellUptoRow : OpenClaim := { program := "ytfhbnfhmicaklaadoor", sum := "3ab1eae4acf23ee24d5b35c56548563697c8dbf0ae700a2f0c81f1e4f830e4d7", func := "tearoff/tearofflaw07.DigitsTell", spec := "digitsTell", unfollowed := true, recurses := true, named := ["tearoff/digits.widths"], apart := false, laid := [("tearoff/digits.widths", laid_tearoff_digits_widths)], narrowed := true }
def DigitsTellUptoSaid : Prop := digitsTellUptoRow.holds Tryd.pinned (OpenSpec.upto digitsTellSpec)

/-- 'tearofflaw07.DigitsBoth', WHERE WHAT IT READS IS OF BULK AT MOST 1048576: true; the input reads as it did. -/
def digitsBothUptoRow : OpenClaim := { program := "ytfhbnfhmicaklaadoor", sum := "3ab1eae4acf23ee24d5b35c56548563697c8dbf0ae700a2f0c81f1e4f830e4d7", func := "tearoff/tearofflaw07.DigitsBoth", spec := "digitsBoth", unfollowed := true, recurses := true, named := ["tearoff/digits.widths"], apart := false, laid := [("tearoff/digits.widths", laid_tearoff_digits_widths)], narrowed := true }
def DigitsBothUptoSaid : Prop := digitsBothUptoRow.holds Tryd.pinned (OpenSpec.upto digitsBothSpec)

/-- 'tearofflaw07.DigitsBack', WHERE WHAT IT READS IS OF BULK AT MOST 1048576: true; the input reads as it did. -/
def digitsBackUptoRow : OpenClaim := { program := "ytfhbnfhmicaklaadoor", sum := "3ab1eae4acf23ee24d5b35c56548563697c8dbf0ae700a2f0c81f1e4f830e4d7", func := "tearoff/tearofflaw07.DigitsBack", spec := "digitsBack", unfollowed := true, recurses := true, named := ["tearoff/digits.widths"], apart := false, laid := [("tearoff/digits.widths", laid_tearoff_digits_widths)], narrowed := true }
def DigitsBackUptoSaid : Prop := digitsBackUptoRow.holds Tryd.pinned (OpenSpec.upto digitsBackSpec)

/-- 'tearofflaw07.DigitsShapes', WHERE WHAT IT READS IS OF BULK AT MOST 1048576: true; the input reads as it did. -/
def digitsShapesUptoRow : OpenClaim := { program := "ytfhbnfhmicaklaadoor", sum := "3ab1eae4acf23ee24d5b35c56548563697c8dbf0ae700a2f0c81f1e4f830e4d7", func := "tearoff/tearofflaw07.DigitsShapes", spec := "digitsShapes", unfollowed := true, recurses := true, named := ["tearoff/digits.widths"], apart := false, laid := [("tearoff/digits.widths", laid_tearoff_digits_widths)], narrowed := true }
def DigitsShapesUptoSaid : Prop := digitsShapesUptoRow.holds Tryd.pinned (OpenSpec.upto digitsShapesSpec)

/-- 'tearofflaw07.DigitsRaise', WHERE WHAT IT READS IS OF BULK AT MOST 1048576: true; the input reads as it did. -/
def digitsRaiseUptoRow : OpenClaim := { program := "ytfhbnfhmicaklaadoor", sum := "3ab1eae4acf23ee24d5b35c56548563697c8dbf0ae700a2f0c81f1e4f830e4d7", func := "tearoff/tearofflaw07.DigitsRaise", spec := "digitsRaise", unfollowed := true, recurses := true, named := ["tearoff/digits.widths"], apart := false, laid := [("tearoff/digits.widths", laid_tearoff_digits_widths)], narrowed := true }
def DigitsRaiseUptoSaid : Prop := digitsRaiseUptoRow.holds Tryd.pinned (OpenSpec.upto digitsRaiseSpec)

end Rows
end Go.Proofs.YtfhbnfhmicaklaaDoor
