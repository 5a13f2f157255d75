/-
  DERIVED. GIVEN WITH THE SEED: THE CARDS: each row of YtnoflgkjdibblaaGreatDoorRows.lean that lists a variable, with what it lists TIED to the program's text (the seventh form; the later family's looks); each row that meets fmt, with fmt's text TOLD by the authors' own Lean function (tested against real Go, not proved from fmt's source: count such statements apart). THE CARD IS WHAT COUNTS. Prove the row's statement (the work); the ties are given (YtnoflgkjdibblaaGreatDoorTie.lean); close each card by the builder's one call (the guide's Derived/Test/ToyasCard.lean, 'card_holds'). Laid BY PROGRAM, IN A SANDBOX (cutbox-door.mjs). By AI agents, Wed Nov 11 2026. No macro, syntax, notation, axiom, sorry.
-/
import Derived.Test.YtnoflgkjdibblaaGreatDoorRows
import GoSem.ClaimSeven
namespace Go.Proofs.YtnoflgkjdibblaaGreatDoor
namespace Rows

/-- THE TIED CARD OF 'tearofflaw21.ReservePlays'. -/
def reservePlaysCard : Claim7 := { stood := { row := reservePlaysRow, standIns := [], harness := (true, "91f53e8fa3be72afb6fbf9c80431528d6b121ef2b227d8924be4e7dd52cdb3e1"), looks := true }, kinds := [], alts := [], laidByText := true, laidKinds := [.data, .data], laidTests := true, laidLooks := .later }
def ReservePlaysCardSaid : Prop := Claim7.holds Tryz.pinned (.plain (OpenSpec.ofChange reservePlaysSpec)) reservePlaysCard

/-- THE TIED CARD OF 'tearofflaw21.ReserveLoss'. -/
def reserveLossCard : Claim7 := { stood := { row := reserveLossRow, standIns := [], harness := (true, "91f53e8fa3be72afb6fbf9c80431528d6b121ef2b227d8924be4e7dd52cdb3e1"), looks := true }, kinds := [], alts := [], laidByText := true, laidKinds := [.data, .data], laidTests := true, laidLooks := .later }
def ReserveLossCardSaid : Prop := Claim7.holds Tryz.pinned (.plain (OpenSpec.ofChange reserveLossSpec)) reserveLossCard

/-- THE SECOND FORM's CARD OF 'tearofflaw21.ReservePlays'. -/
def reservePlaysUptoCard : Claim7 := { stood := { row := reservePlaysUptoRow, standIns := [], harness := (true, "91f53e8fa3be72afb6fbf9c80431528d6b121ef2b227d8924be4e7dd52cdb3e1"), looks := true }, kinds := [], alts := [], laidByText := true, laidKinds := [.data, .data], laidTests := true, laidLooks := .later }
def ReservePlaysUptoCardSaid : Prop := Claim7.holds Tryz.pinned (.plain (OpenSpec.upto reservePlaysSpec)) reservePlaysUptoCard

/-- THE SECOND FORM's CARD OF 'tearofflaw21.ReserveLoss'. -/
def reserveLossUptoCard : Claim7 := { stood := { row := reserveLossUptoRow, standIns := [], harness := (true, "91f53e8fa3be72afb6fbf9c80431528d6b121ef2b227d8924be4e7dd52cdb3e1"), looks := true }, kinds := [], alts := [], laidByText := true, laidKinds := [.data, .data], laidTests := true, laidLooks := .later }
def ReserveLossUptoCardSaid : Prop := Claim7.holds Tryz.pinned (.plain (OpenSpec.upto reserveLossSpec)) reserveLossUptoCard
end Rows
end Go.Proofs.YtnoflgkjdibblaaGreatDoor
