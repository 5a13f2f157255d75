/-
  NARROWER THAN 'FOR EVERY INPUT', by the rows' own cells (each row's printed sentence says how): HssCounts: laid.
  DERIVED. THE GIVEN ROWS OF THIS SEAT. 1 by the template 'for every input the law returns true; each argument reads behind the call as it read before'; 0 by the template 'total and deterministic' (their statements: YtccnbepccajdoaaDoorTotals.lean).
  GIVEN WITH THE SEED: the statements are not yours to turn. If you find one false, say at which input.
  Laid BY PROGRAM, IN A SANDBOX (cutbox-rows.mjs): the forced cells as the released guide's own fill.sh prints them over the translation f4352d180c5b4b26… (all of the seat's roots in one cut). By AI agents, Wed Nov 11 2026. No macro, syntax, notation, axiom, sorry.
-/
import Derived.Test.YtccnbepccajdoaaDoorChecked
import GoSem.Claim
import GoSem.ClaimJoined
import GoSem.ClaimMapViews
import Derived.JoinedTies
import Derived.KernelRfl
namespace Go.Proofs.YtccnbepccajdoaaDoor
/- THE CELL 'sum', in the pinned program and in every row, IS THE sha256 OF THE DUMP (.gsa) THAT YtccnbepccajdoaaDoorProg.lean LOADS. Nothing in Lean hashes anything: it is a label: what it is worth is what the hold of that sum in a sandbox is worth. -/
noncomputable def Tryd.pinned : Pinned := { name := "ytccnbepccajdoaadoor", sum := "f4352d180c5b4b2676125f7156008e287b6ee854dc94dc8934e1518b07865e90", checked := Tryd.checked }
namespace Rows
def none {H : Type} : Left H := { results := [], args := [] }

/- WHAT THE LISTED PACKAGE-LEVEL VARIABLES READ AS WHEN THE CALL BEGINS. Each datum BY PROGRAM (the guide's laid-datum.mjs) off the statement by which the dump's own 'gosem.cut.vars' lays the variable. In a bare row this is a premise. The card (YtccnbepccajdoaaDoorCards.lean) ties it to the program's text. -/
def laid_tearoff_digits_widths {H : Type} : DataW H := .agg [.lit (.int .i64 1), .lit (.int .i64 2), .lit (.int .i64 4), .lit (.int .i64 8)]
def laid_tearoff_sets_sums {H : Type} : DataW H := .agg [.agg [.lit (.int .i64 0), .lit (.int .i64 32)], .agg [.lit (.int .i64 0), .lit (.int .i64 24)], .agg [.lit (.int .i64 1), .lit (.int .i64 32)], .agg [.lit (.int .i64 1), .lit (.int .i64 24)]]
def laid_tearoff_sets_widths {H : Type} : DataW H := .agg [.lit (.int .i64 1), .lit (.int .i64 2), .lit (.int .i64 4), .lit (.int .i64 8)]
def laid_tearoff_sets_heights {H : Type} : DataW H := .agg [.lit (.int .i64 5), .lit (.int .i64 10), .lit (.int .i64 15), .lit (.int .i64 20), .lit (.int .i64 25)]
def laid_tearoff_sets_lowHeights {H : Type} : DataW H := .agg [.lit (.int .i64 1), .lit (.int .i64 2), .lit (.int .i64 3), .lit (.int .i64 4)]

/-- 'tearofflaw13.HssCounts': WHATEVER THE INPUT: true; the input reads as it did. -/
def hssCountsSpec : ChangeSpec := { name := "hssCounts", fn := fun _ => fun
  | [d1, d2] => { results := [.lit (.bool true)], args := [d1, d2] }
  | _ => none }
def hssCountsRow : OpenClaim := { program := "ytccnbepccajdoaadoor", sum := "f4352d180c5b4b2676125f7156008e287b6ee854dc94dc8934e1518b07865e90", func := "tearoff/tearofflaw13.HssCounts", spec := "hssCounts", unfollowed := true, recurses := true, named := ["tearoff/sets.widths", "tearoff/sets.sums", "tearoff/digits.widths", "tearoff/sets.heights", "tearoff/sets.lowHeights"], apart := false, laid := [("tearoff/digits.widths", laid_tearoff_digits_widths), ("tearoff/sets.sums", laid_tearoff_sets_sums), ("tearoff/sets.widths", laid_tearoff_sets_widths), ("tearoff/sets.heights", laid_tearoff_sets_heights), ("tearoff/sets.lowHeights", laid_tearoff_sets_lowHeights)] }
def HssCountsSaid : Prop := hssCountsRow.holds Tryd.pinned (OpenSpec.ofChange hssCountsSpec)

/-- ITS FALSE NEIGHBOUR: 'it returns false'. Refute it at one input. -/
def hssCountsWrong : ChangeSpec := { name := "hssCounts", fn := fun _ => fun
  | [d1, d2] => { results := [.lit (.bool false)], args := [d1, d2] }
  | _ => none }
def HssCountsWrongFalsely : Prop := hssCountsRow.holds Tryd.pinned (OpenSpec.ofChange hssCountsWrong)

/- THE SECOND FORM. 'bulk': how many values and letters a reading holds, each counted each time it is reached (what is shared counts as often as it is met; a slice's spare places count too). A statement '..UptoSaid' is the law's where the arguments, and the package variables that the reading takes, are together of bulk at most 1048576: NARROWER than '..Said'. Prove '..Said' where nothing that the law and all that it calls make is longer than what came in: it says more and counts as full. Else prove '..UptoSaid'. A law counts once. -/
mutual
def uptoBulk {H : Type} : DataW H → Nat
  | .lit (.string bytes) => bytes.length + 1
  | .lit _ => 1
  | .nil => 1
  | .ptr d => uptoBulk d + 1
  | .slice elems spare => uptoBulkAll elems + uptoBulkAll spare + 1
  | .agg parts => uptoBulkAll parts + 1
  | .iface _ d => uptoBulk d + 1
  | .map entries => uptoBulkEntries entries + 1
  | .held _ => 1
def uptoBulkAll {H : Type} : List (DataW H) → Nat
  | [] => 0
  | d :: r => uptoBulk d + uptoBulkAll r
def uptoBulkEntries {H : Type} : List (Lit × DataW H) → Nat
  | [] => 0
  | x :: r => uptoBulkEntry x + uptoBulkEntries r
def uptoBulkEntry {H : Type} : Lit × DataW H → Nat
  | (.string bytes, d) => bytes.length + uptoBulk d + 1
  | (_, d) => uptoBulk d + 1
 end
def uptoSmall : (H : Type) → List (DataW H) → Bool := fun _ ds => decide (uptoBulkAll ds ≤ 1048576)
def OpenSpec.upto (s : _root_.Go.ChangeSpec) : _root_.Go.OpenSpec := { _root_.Go.OpenSpec.ofChange s with cond := some uptoSmall }

/-- 'tearofflaw13.HssCounts', WHERE WHAT IT READS IS OF BULK AT MOST 1048576: true; the input reads as it did. -/
def hssCountsUptoRow : OpenClaim := { program := "ytccnbepccajdoaadoor", sum := "f4352d180c5b4b2676125f7156008e287b6ee854dc94dc8934e1518b07865e90", func := "tearoff/tearofflaw13.HssCounts", spec := "hssCounts", unfollowed := true, recurses := true, named := ["tearoff/sets.widths", "tearoff/sets.sums", "tearoff/digits.widths", "tearoff/sets.heights", "tearoff/sets.lowHeights"], apart := false, laid := [("tearoff/digits.widths", laid_tearoff_digits_widths), ("tearoff/sets.sums", laid_tearoff_sets_sums), ("tearoff/sets.widths", laid_tearoff_sets_widths), ("tearoff/sets.heights", laid_tearoff_sets_heights), ("tearoff/sets.lowHeights", laid_tearoff_sets_lowHeights)], narrowed := true }
def HssCountsUptoSaid : Prop := hssCountsUptoRow.holds Tryd.pinned (OpenSpec.upto hssCountsSpec)

end Rows
end Go.Proofs.YtccnbepccajdoaaDoor
