/-
  DERIVED. GIVEN WITH THE SEED: THE CARDS: each row of YtccnbepccajdoaaDoorRows.lean that lists a variable, with what it lists TIED to the program's text (the seventh form; the later family's looks); each row that meets fmt, with fmt's text TOLD by the authors' own Lean function (tested against real Go, not proved from fmt's source: count such statements apart). THE CARD IS WHAT COUNTS. Prove the row's statement (the work); the ties are given (YtccnbepccajdoaaDoorTie.lean); close each card by the builder's one call (the guide's Derived/Test/ToyasCard.lean, 'card_holds'). Laid BY PROGRAM, IN A SANDBOX (cutbox-door.mjs). By AI agents, Wed Nov 11 2026. No macro, syntax, notation, axiom, sorry.
-/
import Derived.Test.YtccnbepccajdoaaDoorRows
import GoSem.ClaimSeven
namespace Go.Proofs.YtccnbepccajdoaaDoor
namespace Rows

/-- THE TIED CARD OF 'tearofflaw13.HssCounts'. -/
def hssCountsCard : Claim7 := { stood := { row := hssCountsRow, standIns := [], harness := (true, "6b651eda53176113403180bd47c63c8170d9b7d0692d47b5568d72618e07c7d1"), looks := true }, kinds := [], alts := [], laidByText := true, laidKinds := [.data, .data, .data, .data, .data], laidTests := true, laidLooks := .later }
def HssCountsCardSaid : Prop := Claim7.holds Tryd.pinned (.plain (OpenSpec.ofChange hssCountsSpec)) hssCountsCard

/-- THE SECOND FORM's CARD OF 'tearofflaw13.HssCounts'. -/
def hssCountsUptoCard : Claim7 := { stood := { row := hssCountsUptoRow, standIns := [], harness := (true, "6b651eda53176113403180bd47c63c8170d9b7d0692d47b5568d72618e07c7d1"), looks := true }, kinds := [], alts := [], laidByText := true, laidKinds := [.data, .data, .data, .data, .data], laidTests := true, laidLooks := .later }
def HssCountsUptoCardSaid : Prop := Claim7.holds Tryd.pinned (.plain (OpenSpec.upto hssCountsSpec)) hssCountsUptoCard
end Rows
end Go.Proofs.YtccnbepccajdoaaDoor
