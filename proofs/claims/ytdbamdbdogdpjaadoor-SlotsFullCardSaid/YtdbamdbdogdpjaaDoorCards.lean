/-
  DERIVED. GIVEN WITH THE SEED: THE CARDS: each row of YtdbamdbdogdpjaaDoorRows.lean that lists a variable, with what it lists TIED to the program's text (the seventh form; the later family's looks); each row that meets fmt, with fmt's text TOLD by the authors' own Lean function (tested against real Go, not proved from fmt's source: count such statements apart). THE CARD IS WHAT COUNTS. Prove the row's statement (the work); the ties are given (YtdbamdbdogdpjaaDoorTie.lean); close each card by the builder's one call (the guide's Derived/Test/ToyasCard.lean, 'card_holds'). Laid BY PROGRAM, IN A SANDBOX (cutbox-door.mjs). By AI agents, Wed Nov 11 2026. No macro, syntax, notation, axiom, sorry.
-/
import Derived.Test.YtdbamdbdogdpjaaDoorRows
import GoSem.ClaimSeven
namespace Go.Proofs.YtdbamdbdogdpjaaDoor
namespace Rows

/-- THE TIED CARD OF 'tearofflaw20.SlotsAreas'. -/
def slotsAreasCard : Claim7 := { stood := { row := slotsAreasRow, standIns := [], harness := (true, "481cf817ac69fed4631826ff184942c813c82c307ab4e01fc6e6e43c610515bf"), looks := true }, kinds := [], alts := [], laidByText := true, laidKinds := [.data, .data], laidTests := true, laidLooks := .later }
def SlotsAreasCardSaid : Prop := Claim7.holds Tryd.pinned (.plain (OpenSpec.ofChange slotsAreasSpec)) slotsAreasCard

/-- THE TIED CARD OF 'tearofflaw20.SlotsTurns'. -/
def slotsTurnsCard : Claim7 := { stood := { row := slotsTurnsRow, standIns := [], harness := (true, "481cf817ac69fed4631826ff184942c813c82c307ab4e01fc6e6e43c610515bf"), looks := true }, kinds := [], alts := [], laidByText := true, laidKinds := [.data, .data], laidTests := true, laidLooks := .later }
def SlotsTurnsCardSaid : Prop := Claim7.holds Tryd.pinned (.plain (OpenSpec.ofChange slotsTurnsSpec)) slotsTurnsCard

/-- THE TIED CARD OF 'tearofflaw20.SlotsBlank'. -/
def slotsBlankCard : Claim7 := { stood := { row := slotsBlankRow, standIns := [], harness := (true, "481cf817ac69fed4631826ff184942c813c82c307ab4e01fc6e6e43c610515bf"), looks := true }, kinds := [], alts := [], laidByText := true, laidKinds := [.data, .data], laidTests := true, laidLooks := .later }
def SlotsBlankCardSaid : Prop := Claim7.holds Tryd.pinned (.plain (OpenSpec.ofChange slotsBlankSpec)) slotsBlankCard

/-- THE TIED CARD OF 'tearofflaw20.SlotsFull'. -/
def slotsFullCard : Claim7 := { stood := { row := slotsFullRow, standIns := [], harness := (true, "481cf817ac69fed4631826ff184942c813c82c307ab4e01fc6e6e43c610515bf"), looks := true }, kinds := [], alts := [], laidByText := true, laidKinds := [.data, .data], laidTests := true, laidLooks := .later }
def SlotsFullCardSaid : Prop := Claim7.holds Tryd.pinned (.plain (OpenSpec.ofChange slotsFullSpec)) slotsFullCard

/-- THE SECOND FORM's CARD OF 'tearofflaw20.SlotsAreas'. -/
def slotsAreasUptoCard : Claim7 := { stood := { row := slotsAreasUptoRow, standIns := [], harness := (true, "481cf817ac69fed4631826ff184942c813c82c307ab4e01fc6e6e43c610515bf"), looks := true }, kinds := [], alts := [], laidByText := true, laidKinds := [.data, .data], laidTests := true, laidLooks := .later }
def SlotsAreasUptoCardSaid : Prop := Claim7.holds Tryd.pinned (.plain (OpenSpec.upto slotsAreasSpec)) slotsAreasUptoCard

/-- THE SECOND FORM's CARD OF 'tearofflaw20.SlotsTurns'. -/
def slotsTurnsUptoCard : Claim7 := { stood := { row := slotsTurnsUptoRow, standIns := [], harness := (true, "481cf817ac69fed4631826ff184942c813c82c307ab4e01fc6e6e43c610515bf"), looks := true }, kinds := [], alts := [], laidByText := true, laidKinds := [.data, .data], laidTests := true, laidLooks := .later }
def SlotsTurnsUptoCardSaid : Prop := Claim7.holds Tryd.pinned (.plain (OpenSpec.upto slotsTurnsSpec)) slotsTurnsUptoCard

/-- THE SECOND FORM's CARD OF 'tearofflaw20.SlotsBlank'. -/
def slotsBlankUptoCard : Claim7 := { stood := { row := slotsBlankUptoRow, standIns := [], harness := (true, "481cf817ac69fed4631826ff184942c813c82c307ab4e01fc6e6e43c610515bf"), looks := true }, kinds := [], alts := [], laidByText := true, laidKinds := [.data, .data], laidTests := true, laidLooks := .later }
def SlotsBlankUptoCardSaid : Prop := Claim7.holds Tryd.pinned (.plain (OpenSpec.upto slotsBlankSpec)) slotsBlankUptoCard

/-- THE SECOND FORM's CARD OF 'tearofflaw20.SlotsFull'. -/
def slotsFullUptoCard : Claim7 := { stood := { row := slotsFullUptoRow, standIns := [], harness := (true, "481cf817ac69fed4631826ff184942c813c82c307ab4e01fc6e6e43c610515bf"), looks := true }, kinds := [], alts := [], laidByText := true, laidKinds := [.data, .data], laidTests := true, laidLooks := .later }
def SlotsFullUptoCardSaid : Prop := Claim7.holds Tryd.pinned (.plain (OpenSpec.upto slotsFullSpec)) slotsFullUptoCard
end Rows
end Go.Proofs.YtdbamdbdogdpjaaDoor
