/-
  What the listed variable holds: the widths, for the statements of layer 7.
-/
import Derived.Test.YtfhbnfhmicaklaaDoorOpen
import Derived.Test.YtfhbnfhmicaklaaDoorDigM
import Derived.Lib.LaidU8
import Derived.Lay
import Derived.SevenTiedAt
import Derived.Test.YtfhbnfhmicaklaaDoorTie
namespace Go.Proofs.YtfhbnfhmicaklaaDoor
set_option linter.unusedSimpArgs false
set_option linter.unusedVariables false
open Go.ChangeShapes Go.WideShapes Go.ChangeAt Go.RowKit

/-- What the rows list. -/
abbrev laidL : List (String × DataW Unit) := [("tearoff/digits.widths", Rows.laid_tearoff_digits_widths)]
theorem cells_of_reads {P : Program} {W : World} {name : String} {k : IntKind} {zs : List Int} {g : Nat} {t e : TypeId} {n : Nat} (h : Lib.VarReads P W name (Lib.tabData k zs))
    (hg : P.globalNamed name = some g) (hty : (P.globals[g]?).map (·.type) = some t) (ht : P.underlying t = some (.array n e)) (he : P.underlying e = some (.int k)) (hce : P.cellsOf e = 1) (hct : P.cellsOf t = n) :
    ∀ i, i < zs.length → W.cell? ⟨g, i, none⟩ = some (.int k (zs.getD i 0)) := by
  obtain ⟨g', t', cs, fuel, p, h1, h2, h3, h4⟩ := h
  obtain rfl := Option.some.inj (hg.symm.trans h1)
  obtain rfl := Option.some.inj (hty.symm.trans h2)
  have e := Lib.cells_of_tab ht he hce hct h4
  have hT : Lib.TabIs P W name k zs := by
    unfold Lib.TabIs
    rw [h3, ← e]
  exact hT.cell hg
theorem lt_of_cell {W : World} {g i : Nat} {v : Value} (h : W.cell? ⟨g, i, none⟩ = some v) : g < W.heap.size := by
  apply Classical.byContradiction
  intro h9
  simp [World.cell?, Array.getElem?_eq_none (show W.heap.size ≤ g by omega)] at h
theorem gok_of_laid {W : World} (h : laidMetH Tryd.prog laidL W) : S7.D0.ok W := by
  rw [MakeChecks.laidMetH_plain _ _ _ (by kernel_rfl)] at h
  have h1 : Lib.VarReads Tryd.prog W "tearoff/digits.widths" (Lib.tabData .i64 [1, 2, 4, 8]) := Lib.laidMet.reads h (.head _)
  intro i hi
  have := cells_of_reads (g := 0) (t := 40) h1 (by kernel_rfl) (by kernel_rfl) Tryd.underlying40 Tryd.underlying3 (by kernel_rfl) (by kernel_rfl) i hi
  exact ⟨this, lt_of_cell this⟩
end Go.Proofs.YtfhbnfhmicaklaaDoor
