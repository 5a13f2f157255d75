/-
  DERIVED. GIVEN WITH THE SEED: THE CARDS: each row of YtkpfppiedadmbaaGreatDoorRows.lean that lists a variable, with what it lists TIED to the program's text (the seventh form; the later family's looks); each row that meets fmt, with fmt's text TOLD by the authors' own Lean function (tested against real Go, not proved from fmt's source: count such statements apart). THE CARD IS WHAT COUNTS. Prove the row's statement (the work); the ties are given (YtkpfppiedadmbaaGreatDoorTie.lean); close each card by the builder's one call (the guide's Derived/Test/ToyasCard.lean, 'card_holds'). Laid BY PROGRAM, IN A SANDBOX (cutbox-door.mjs). By AI agents, Wed Nov 11 2026. No macro, syntax, notation, axiom, sorry.
-/
import Derived.Test.YtkpfppiedadmbaaGreatDoorRows
import GoSem.ClaimSeven
namespace Go.Proofs.YtkpfppiedadmbaaGreatDoor
namespace Rows

/-- THE TIED CARD OF 'tearofflaw16.XmssSigns'. -/
def xmssSignsCard : Claim7 := { stood := { row := xmssSignsRow, standIns := [], harness := (true, "04b3e03e4bffe31d1fd2eaa2f91e319a81bbbab34804af768ecee858ddaeff22"), looks := false }, kinds := [], alts := [], laidByText := true, laidKinds := [.data, .data, .data], laidTests := true, laidLooks := .later }
def XmssSignsCardSaid : Prop := Claim7.holds Tryz.pinned (.plain (OpenSpec.ofChange xmssSignsSpec)) xmssSignsCard

/-- THE TIED CARD OF 'tearofflaw16.XmssFits'. -/
def xmssFitsCard : Claim7 := { stood := { row := xmssFitsRow, standIns := [], harness := (true, "04b3e03e4bffe31d1fd2eaa2f91e319a81bbbab34804af768ecee858ddaeff22"), looks := false }, kinds := [], alts := [], laidByText := true, laidKinds := [.data, .data, .data], laidTests := true, laidLooks := .later }
def XmssFitsCardSaid : Prop := Claim7.holds Tryz.pinned (.plain (OpenSpec.ofChange xmssFitsSpec)) xmssFitsCard

/-- THE SECOND FORM's CARD OF 'tearofflaw16.XmssSigns'. -/
def xmssSignsUptoCard : Claim7 := { stood := { row := xmssSignsUptoRow, standIns := [], harness := (true, "04b3e03e4bffe31d1fd2eaa2f91e319a81bbbab34804af768ecee858ddaeff22"), looks := false }, kinds := [], alts := [], laidByText := true, laidKinds := [.data, .data, .data], laidTests := true, laidLooks := .later }
def XmssSignsUptoCardSaid : Prop := Claim7.holds Tryz.pinned (.plain (OpenSpec.upto xmssSignsSpec)) xmssSignsUptoCard

/-- THE SECOND FORM's CARD OF 'tearofflaw16.XmssFits'. -/
def xmssFitsUptoCard : Claim7 := { stood := { row := xmssFitsUptoRow, standIns := [], harness := (true, "04b3e03e4bffe31d1fd2eaa2f91e319a81bbbab34804af768ecee858ddaeff22"), looks := false }, kinds := [], alts := [], laidByText := true, laidKinds := [.data, .data, .data], laidTests := true, laidLooks := .later }
def XmssFitsUptoCardSaid : Prop := Claim7.holds Tryz.pinned (.plain (OpenSpec.upto xmssFitsSpec)) xmssFitsUptoCard
end Rows
end Go.Proofs.YtkpfppiedadmbaaGreatDoor
