/-
  DERIVED. GIVEN WITH THE SEED: THE CARDS: each row of YtfgpahenacgmdaaDoorRows.lean that lists a variable, with what it lists TIED to the program's text (the seventh form; the later family's looks); each row that meets fmt, with fmt's text TOLD by the authors' own Lean function (tested against real Go, not proved from fmt's source: count such statements apart). THE CARD IS WHAT COUNTS. Prove the row's statement (the work); the ties are given (YtfgpahenacgmdaaDoorTie.lean); close each card by the builder's one call (the guide's Derived/Test/ToyasCard.lean, 'card_holds'). Laid BY PROGRAM, IN A SANDBOX (cutbox-door.mjs). By AI agents, Wed Nov 11 2026. No macro, syntax, notation, axiom, sorry.
-/
import Derived.Test.YtfgpahenacgmdaaDoorRows
import GoSem.ClaimSeven
namespace Go.Proofs.YtfgpahenacgmdaaDoor
namespace Rows

/-- THE TIED CARD OF 'tearofflaw02.Sha2Sums'. -/
def sha2SumsCard : Claim7 := { stood := { row := sha2SumsRow, standIns := [], harness := (true, "d2db76ad1664f2f1b1c818952c0299185fb1a71a4431bdd567a66c945d069c8a"), looks := false }, kinds := [], alts := [], laidByText := true, laidKinds := [.data, .data], laidTests := true, laidLooks := .later }
def Sha2SumsCardSaid : Prop := Claim7.holds Tryd.pinned (.plain (OpenSpec.ofChange sha2SumsSpec)) sha2SumsCard

/-- THE TIED CARD OF 'tearofflaw02.Sha2Turns'. -/
def sha2TurnsCard : Claim7 := { stood := { row := sha2TurnsRow, standIns := [], harness := (true, "d2db76ad1664f2f1b1c818952c0299185fb1a71a4431bdd567a66c945d069c8a"), looks := false }, kinds := [], alts := [], laidByText := true, laidKinds := [.data, .data], laidTests := true, laidLooks := .later }
def Sha2TurnsCardSaid : Prop := Claim7.holds Tryd.pinned (.plain (OpenSpec.ofChange sha2TurnsSpec)) sha2TurnsCard

/-- THE TIED CARD OF 'tearofflaw02.Sha2Parts'. -/
def sha2PartsCard : Claim7 := { stood := { row := sha2PartsRow, standIns := [], harness := (true, "d2db76ad1664f2f1b1c818952c0299185fb1a71a4431bdd567a66c945d069c8a"), looks := false }, kinds := [], alts := [], laidByText := true, laidKinds := [.data, .data], laidTests := true, laidLooks := .later }
def Sha2PartsCardSaid : Prop := Claim7.holds Tryd.pinned (.plain (OpenSpec.ofChange sha2PartsSpec)) sha2PartsCard

/-- THE TIED CARD OF 'tearofflaw02.Sha2Blocks'. -/
def sha2BlocksCard : Claim7 := { stood := { row := sha2BlocksRow, standIns := [], harness := (true, "d2db76ad1664f2f1b1c818952c0299185fb1a71a4431bdd567a66c945d069c8a"), looks := false }, kinds := [], alts := [], laidByText := true, laidKinds := [.data, .data], laidTests := true, laidLooks := .later }
def Sha2BlocksCardSaid : Prop := Claim7.holds Tryd.pinned (.plain (OpenSpec.ofChange sha2BlocksSpec)) sha2BlocksCard

/-- THE TIED CARD OF 'tearofflaw02.Sha2Again'. -/
def sha2AgainCard : Claim7 := { stood := { row := sha2AgainRow, standIns := [], harness := (true, "d2db76ad1664f2f1b1c818952c0299185fb1a71a4431bdd567a66c945d069c8a"), looks := false }, kinds := [], alts := [], laidByText := true, laidKinds := [.data, .data], laidTests := true, laidLooks := .later }
def Sha2AgainCardSaid : Prop := Claim7.holds Tryd.pinned (.plain (OpenSpec.ofChange sha2AgainSpec)) sha2AgainCard

/-- THE TIED CARD OF 'tearofflaw02.Sha2Adds'. -/
def sha2AddsCard : Claim7 := { stood := { row := sha2AddsRow, standIns := [], harness := (true, "d2db76ad1664f2f1b1c818952c0299185fb1a71a4431bdd567a66c945d069c8a"), looks := false }, kinds := [], alts := [], laidByText := true, laidKinds := [.data, .data], laidTests := true, laidLooks := .later }
def Sha2AddsCardSaid : Prop := Claim7.holds Tryd.pinned (.plain (OpenSpec.ofChange sha2AddsSpec)) sha2AddsCard

/-- THE SECOND FORM's CARD OF 'tearofflaw02.Sha2Sums'. -/
def sha2SumsUptoCard : Claim7 := { stood := { row := sha2SumsUptoRow, standIns := [], harness := (true, "d2db76ad1664f2f1b1c818952c0299185fb1a71a4431bdd567a66c945d069c8a"), looks := false }, kinds := [], alts := [], laidByText := true, laidKinds := [.data, .data], laidTests := true, laidLooks := .later }
def Sha2SumsUptoCardSaid : Prop := Claim7.holds Tryd.pinned (.plain (OpenSpec.upto sha2SumsSpec)) sha2SumsUptoCard

/-- THE SECOND FORM's CARD OF 'tearofflaw02.Sha2Turns'. -/
def sha2TurnsUptoCard : Claim7 := { stood := { row := sha2TurnsUptoRow, standIns := [], harness := (true, "d2db76ad1664f2f1b1c818952c0299185fb1a71a4431bdd567a66c945d069c8a"), looks := false }, kinds := [], alts := [], laidByText := true, laidKinds := [.data, .data], laidTests := true, laidLooks := .later }
def Sha2TurnsUptoCardSaid : Prop := Claim7.holds Tryd.pinned (.plain (OpenSpec.upto sha2TurnsSpec)) sha2TurnsUptoCard

/-- THE SECOND FORM's CARD OF 'tearofflaw02.Sha2Parts'. -/
def sha2PartsUptoCard : Claim7 := { stood := { row := sha2PartsUptoRow, standIns := [], harness := (true, "d2db76ad1664f2f1b1c818952c0299185fb1a71a4431bdd567a66c945d069c8a"), looks := false }, kinds := [], alts := [], laidByText := true, laidKinds := [.data, .data], laidTests := true, laidLooks := .later }
def Sha2PartsUptoCardSaid : Prop := Claim7.holds Tryd.pinned (.plain (OpenSpec.upto sha2PartsSpec)) sha2PartsUptoCard

/-- THE SECOND FORM's CARD OF 'tearofflaw02.Sha2Blocks'. -/
def sha2BlocksUptoCard : Claim7 := { stood := { row := sha2BlocksUptoRow, standIns := [], harness := (true, "d2db76ad1664f2f1b1c818952c0299185fb1a71a4431bdd567a66c945d069c8a"), looks := false }, kinds := [], alts := [], laidByText := true, laidKinds := [.data, .data], laidTests := true, laidLooks := .later }
def Sha2BlocksUptoCardSaid : Prop := Claim7.holds Tryd.pinned (.plain (OpenSpec.upto sha2BlocksSpec)) sha2BlocksUptoCard

/-- THE SECOND FORM's CARD OF 'tearofflaw02.Sha2Again'. -/
def sha2AgainUptoCard : Claim7 := { stood := { row := sha2AgainUptoRow, standIns := [], harness := (true, "d2db76ad1664f2f1b1c818952c0299185fb1a71a4431bdd567a66c945d069c8a"), looks := false }, kinds := [], alts := [], laidByText := true, laidKinds := [.data, .data], laidTests := true, laidLooks := .later }
def Sha2AgainUptoCardSaid : Prop := Claim7.holds Tryd.pinned (.plain (OpenSpec.upto sha2AgainSpec)) sha2AgainUptoCard

/-- THE SECOND FORM's CARD OF 'tearofflaw02.Sha2Adds'. -/
def sha2AddsUptoCard : Claim7 := { stood := { row := sha2AddsUptoRow, standIns := [], harness := (true, "d2db76ad1664f2f1b1c818952c0299185fb1a71a4431bdd567a66c945d069c8a"), looks := false }, kinds := [], alts := [], laidByText := true, laidKinds := [.data, .data], laidTests := true, laidLooks := .later }
def Sha2AddsUptoCardSaid : Prop := Claim7.holds Tryd.pinned (.plain (OpenSpec.upto sha2AddsSpec)) sha2AddsUptoCard
end Rows
end Go.Proofs.YtfgpahenacgmdaaDoor
