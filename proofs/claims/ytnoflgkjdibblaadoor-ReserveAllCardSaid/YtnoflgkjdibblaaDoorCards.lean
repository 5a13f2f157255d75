/-
  DERIVED. GIVEN WITH THE SEED: THE CARDS: each row of YtnoflgkjdibblaaDoorRows.lean that lists a variable, with what it lists TIED to the program's text (the seventh form; the later family's looks); each row that meets fmt, with fmt's text TOLD by the authors' own Lean function (tested against real Go, not proved from fmt's source: count such statements apart). THE CARD IS WHAT COUNTS. Prove the row's statement (the work); the ties are given (YtnoflgkjdibblaaDoorTie.lean); close each card by the builder's one call (the guide's Derived/Test/ToyasCard.lean, 'card_holds'). Laid BY PROGRAM, IN A SANDBOX (cutbox-door.mjs). By AI agents, Wed Nov 11 2026. No macro, syntax, notation, axiom, sorry.
-/
import Derived.Test.YtnoflgkjdibblaaDoorRows
import GoSem.ClaimSeven
namespace Go.Proofs.YtnoflgkjdibblaaDoor
namespace Rows

/-- THE TIED CARD OF 'tearofflaw21.ReserveBytes'. -/
def reserveBytesCard : Claim7 := { stood := { row := reserveBytesRow, standIns := [], harness := (true, "8325aed9366fccbc62650552e97cc3129ae018c97a85957ead68cc8b18a6d1da"), looks := true }, kinds := [], alts := [], laidByText := true, laidKinds := [.data, .data], laidTests := true, laidLooks := .later }
def ReserveBytesCardSaid : Prop := Claim7.holds Tryd.pinned (.plain (OpenSpec.ofChange reserveBytesSpec)) reserveBytesCard

/-- THE TIED CARD OF 'tearofflaw21.ReserveAll'. -/
def reserveAllCard : Claim7 := { stood := { row := reserveAllRow, standIns := [], harness := (true, "8325aed9366fccbc62650552e97cc3129ae018c97a85957ead68cc8b18a6d1da"), looks := true }, kinds := [], alts := [], laidByText := true, laidKinds := [.data, .data], laidTests := true, laidLooks := .later }
def ReserveAllCardSaid : Prop := Claim7.holds Tryd.pinned (.plain (OpenSpec.ofChange reserveAllSpec)) reserveAllCard

/-- THE TIED CARD OF 'tearofflaw21.ReserveHeads'. -/
def reserveHeadsCard : Claim7 := { stood := { row := reserveHeadsRow, standIns := [], harness := (true, "8325aed9366fccbc62650552e97cc3129ae018c97a85957ead68cc8b18a6d1da"), looks := true }, kinds := [], alts := [], laidByText := true, laidKinds := [.data, .data], laidTests := true, laidLooks := .later }
def ReserveHeadsCardSaid : Prop := Claim7.holds Tryd.pinned (.plain (OpenSpec.ofChange reserveHeadsSpec)) reserveHeadsCard

/-- THE TIED CARD OF 'tearofflaw21.ReserveRows'. -/
def reserveRowsCard : Claim7 := { stood := { row := reserveRowsRow, standIns := [], harness := (true, "8325aed9366fccbc62650552e97cc3129ae018c97a85957ead68cc8b18a6d1da"), looks := true }, kinds := [], alts := [], laidByText := true, laidKinds := [.data, .data], laidTests := true, laidLooks := .later }
def ReserveRowsCardSaid : Prop := Claim7.holds Tryd.pinned (.plain (OpenSpec.ofChange reserveRowsSpec)) reserveRowsCard

/-- THE SECOND FORM's CARD OF 'tearofflaw21.ReserveBytes'. -/
def reserveBytesUptoCard : Claim7 := { stood := { row := reserveBytesUptoRow, standIns := [], harness := (true, "8325aed9366fccbc62650552e97cc3129ae018c97a85957ead68cc8b18a6d1da"), looks := true }, kinds := [], alts := [], laidByText := true, laidKinds := [.data, .data], laidTests := true, laidLooks := .later }
def ReserveBytesUptoCardSaid : Prop := Claim7.holds Tryd.pinned (.plain (OpenSpec.upto reserveBytesSpec)) reserveBytesUptoCard

/-- THE SECOND FORM's CARD OF 'tearofflaw21.ReserveAll'. -/
def reserveAllUptoCard : Claim7 := { stood := { row := reserveAllUptoRow, standIns := [], harness := (true, "8325aed9366fccbc62650552e97cc3129ae018c97a85957ead68cc8b18a6d1da"), looks := true }, kinds := [], alts := [], laidByText := true, laidKinds := [.data, .data], laidTests := true, laidLooks := .later }
def ReserveAllUptoCardSaid : Prop := Claim7.holds Tryd.pinned (.plain (OpenSpec.upto reserveAllSpec)) reserveAllUptoCard

/-- THE SECOND FORM's CARD OF 'tearofflaw21.ReserveHeads'. -/
def reserveHeadsUptoCard : Claim7 := { stood := { row := reserveHeadsUptoRow, standIns := [], harness := (true, "8325aed9366fccbc62650552e97cc3129ae018c97a85957ead68cc8b18a6d1da"), looks := true }, kinds := [], alts := [], laidByText := true, laidKinds := [.data, .data], laidTests := true, laidLooks := .later }
def ReserveHeadsUptoCardSaid : Prop := Claim7.holds Tryd.pinned (.plain (OpenSpec.upto reserveHeadsSpec)) reserveHeadsUptoCard

/-- THE SECOND FORM's CARD OF 'tearofflaw21.ReserveRows'. -/
def reserveRowsUptoCard : Claim7 := { stood := { row := reserveRowsUptoRow, standIns := [], harness := (true, "8325aed9366fccbc62650552e97cc3129ae018c97a85957ead68cc8b18a6d1da"), looks := true }, kinds := [], alts := [], laidByText := true, laidKinds := [.data, .data], laidTests := true, laidLooks := .later }
def ReserveRowsUptoCardSaid : Prop := Claim7.holds Tryd.pinned (.plain (OpenSpec.upto reserveRowsSpec)) reserveRowsUptoCard
end Rows
end Go.Proofs.YtnoflgkjdibblaaDoor
