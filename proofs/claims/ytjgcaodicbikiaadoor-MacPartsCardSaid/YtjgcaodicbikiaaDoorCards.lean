/-
  DERIVED. GIVEN WITH THE SEED: THE CARDS: each row of YtjgcaodicbikiaaDoorRows.lean that lists a variable, with what it lists TIED to the program's text (the seventh form; the later family's looks); each row that meets fmt, with fmt's text TOLD by the authors' own Lean function (tested against real Go, not proved from fmt's source: count such statements apart). THE CARD IS WHAT COUNTS. Prove the row's statement (the work); the ties are given (YtjgcaodicbikiaaDoorTie.lean); close each card by the builder's one call (the guide's Derived/Test/ToyasCard.lean, 'card_holds'). Laid BY PROGRAM, IN A SANDBOX (cutbox-door.mjs). By AI agents, Wed Nov 11 2026. No macro, syntax, notation, axiom, sorry.
-/
import Derived.Test.YtjgcaodicbikiaaDoorRows
import GoSem.ClaimSeven
namespace Go.Proofs.YtjgcaodicbikiaaDoor
namespace Rows

/-- THE TIED CARD OF 'tearofflaw06.MacSums'. -/
def macSumsCard : Claim7 := { stood := { row := macSumsRow, standIns := [], harness := (true, "1edd296dd3843a765e38767653423d21022816679d717aefa2847bbf81bf28ec"), looks := false }, kinds := [], alts := [], laidByText := true, laidKinds := [.data, .data, .data, .data], laidTests := true, laidLooks := .later }
def MacSumsCardSaid : Prop := Claim7.holds Tryd.pinned (.plain (OpenSpec.ofChange macSumsSpec)) macSumsCard

/-- THE TIED CARD OF 'tearofflaw06.MacKeys'. -/
def macKeysCard : Claim7 := { stood := { row := macKeysRow, standIns := [], harness := (true, "1edd296dd3843a765e38767653423d21022816679d717aefa2847bbf81bf28ec"), looks := false }, kinds := [], alts := [], laidByText := true, laidKinds := [.data, .data, .data, .data], laidTests := true, laidLooks := .later }
def MacKeysCardSaid : Prop := Claim7.holds Tryd.pinned (.plain (OpenSpec.ofChange macKeysSpec)) macKeysCard

/-- THE TIED CARD OF 'tearofflaw06.MacParts'. -/
def macPartsCard : Claim7 := { stood := { row := macPartsRow, standIns := [], harness := (true, "1edd296dd3843a765e38767653423d21022816679d717aefa2847bbf81bf28ec"), looks := false }, kinds := [], alts := [], laidByText := true, laidKinds := [.data, .data, .data, .data], laidTests := true, laidLooks := .later }
def MacPartsCardSaid : Prop := Claim7.holds Tryd.pinned (.plain (OpenSpec.ofChange macPartsSpec)) macPartsCard

/-- THE TIED CARD OF 'tearofflaw06.MacKinds'. -/
def macKindsCard : Claim7 := { stood := { row := macKindsRow, standIns := [], harness := (true, "1edd296dd3843a765e38767653423d21022816679d717aefa2847bbf81bf28ec"), looks := false }, kinds := [], alts := [], laidByText := true, laidKinds := [.data, .data, .data, .data], laidTests := true, laidLooks := .later }
def MacKindsCardSaid : Prop := Claim7.holds Tryd.pinned (.plain (OpenSpec.ofChange macKindsSpec)) macKindsCard

/-- THE TIED CARD OF 'tearofflaw06.MacTwice'. -/
def macTwiceCard : Claim7 := { stood := { row := macTwiceRow, standIns := [], harness := (true, "1edd296dd3843a765e38767653423d21022816679d717aefa2847bbf81bf28ec"), looks := false }, kinds := [], alts := [], laidByText := true, laidKinds := [.data, .data, .data, .data], laidTests := true, laidLooks := .later }
def MacTwiceCardSaid : Prop := Claim7.holds Tryd.pinned (.plain (OpenSpec.ofChange macTwiceSpec)) macTwiceCard

/-- THE SECOND FORM's CARD OF 'tearofflaw06.MacSums'. -/
def macSumsUptoCard : Claim7 := { stood := { row := macSumsUptoRow, standIns := [], harness := (true, "1edd296dd3843a765e38767653423d21022816679d717aefa2847bbf81bf28ec"), looks := false }, kinds := [], alts := [], laidByText := true, laidKinds := [.data, .data, .data, .data], laidTests := true, laidLooks := .later }
def MacSumsUptoCardSaid : Prop := Claim7.holds Tryd.pinned (.plain (OpenSpec.upto macSumsSpec)) macSumsUptoCard

/-- THE SECOND FORM's CARD OF 'tearofflaw06.MacKeys'. -/
def macKeysUptoCard : Claim7 := { stood := { row := macKeysUptoRow, standIns := [], harness := (true, "1edd296dd3843a765e38767653423d21022816679d717aefa2847bbf81bf28ec"), looks := false }, kinds := [], alts := [], laidByText := true, laidKinds := [.data, .data, .data, .data], laidTests := true, laidLooks := .later }
def MacKeysUptoCardSaid : Prop := Claim7.holds Tryd.pinned (.plain (OpenSpec.upto macKeysSpec)) macKeysUptoCard

/-- THE SECOND FORM's CARD OF 'tearofflaw06.MacParts'. -/
def macPartsUptoCard : Claim7 := { stood := { row := macPartsUptoRow, standIns := [], harness := (true, "1edd296dd3843a765e38767653423d21022816679d717aefa2847bbf81bf28ec"), looks := false }, kinds := [], alts := [], laidByText := true, laidKinds := [.data, .data, .data, .data], laidTests := true, laidLooks := .later }
def MacPartsUptoCardSaid : Prop := Claim7.holds Tryd.pinned (.plain (OpenSpec.upto macPartsSpec)) macPartsUptoCard

/-- THE SECOND FORM's CARD OF 'tearofflaw06.MacKinds'. -/
def macKindsUptoCard : Claim7 := { stood := { row := macKindsUptoRow, standIns := [], harness := (true, "1edd296dd3843a765e38767653423d21022816679d717aefa2847bbf81bf28ec"), looks := false }, kinds := [], alts := [], laidByText := true, laidKinds := [.data, .data, .data, .data], laidTests := true, laidLooks := .later }
def MacKindsUptoCardSaid : Prop := Claim7.holds Tryd.pinned (.plain (OpenSpec.upto macKindsSpec)) macKindsUptoCard

/-- THE SECOND FORM's CARD OF 'tearofflaw06.MacTwice'. -/
def macTwiceUptoCard : Claim7 := { stood := { row := macTwiceUptoRow, standIns := [], harness := (true, "1edd296dd3843a765e38767653423d21022816679d717aefa2847bbf81bf28ec"), looks := false }, kinds := [], alts := [], laidByText := true, laidKinds := [.data, .data, .data, .data], laidTests := true, laidLooks := .later }
def MacTwiceUptoCardSaid : Prop := Claim7.holds Tryd.pinned (.plain (OpenSpec.upto macTwiceSpec)) macTwiceUptoCard
end Rows
end Go.Proofs.YtjgcaodicbikiaaDoor
