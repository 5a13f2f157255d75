/-
  DERIVED. GIVEN WITH THE SEED: THE CARDS: each row of YtfhbnfhmicaklaaDoorRows.lean that lists a variable, with what it lists TIED to the program's text (the seventh form; the later family's looks); each row that meets fmt, with fmt's text TOLD by the authors' own Lean function (tested against real Go, not proved from fmt's source: count such statements apart). THE CARD IS WHAT COUNTS. Prove the row's statement (the work); the ties are given (YtfhbnfhmicaklaaDoorTie.lean); close each card by the builder's one call (the guide's Derived/Test/ToyasCard.lean, 'card_holds'). Laid BY PROGRAM, IN A SANDBOX (cutbox-door.mjs). By AI agents, Wed Nov 11 2026. No macro, syntax, notation, axiom, sorry.
-/
import Derived.Test.YtfhbnfhmicaklaaDoorRows
import GoSem.ClaimSeven
namespace Go.Proofs.YtfhbnfhmicaklaaDoor
namespace Rows

/-- THE TIED CARD OF 'tearofflaw07.DigitsTell'. -/
def digitsTellCard : Claim7 := { stood := { row := digitsTellRow, standIns := [], harness := (true, "be0a25c693f316d6d8c1086e672a63a888d7c2c8619131e3f9fbda0e9d27322b"), looks := false }, kinds := [], alts := [], laidByText := true, laidKinds := [.data], laidTests := true, laidLooks := .later }
def DigitsTellCardSaid : Prop := Claim7.holds Tryd.pinned (.plain (OpenSpec.ofChange digitsTellSpec)) digitsTellCard

/-- THE TIED CARD OF 'tearofflaw07.DigitsBoth'. -/
def digitsBothCard : Claim7 := { stood := { row := digitsBothRow, standIns := [], harness := (true, "be0a25c693f316d6d8c1086e672a63a888d7c2c8619131e3f9fbda0e9d27322b"), looks := false }, kinds := [], alts := [], laidByText := true, laidKinds := [.data], laidTests := true, laidLooks := .later }
def DigitsBothCardSaid : Prop := Claim7.holds Tryd.pinned (.plain (OpenSpec.ofChange digitsBothSpec)) digitsBothCard

/-- THE TIED CARD OF 'tearofflaw07.DigitsBack'. -/
def digitsBackCard : Claim7 := { stood := { row := digitsBackRow, standIns := [], harness := (true, "be0a25c693f316d6d8c1086e672a63a888d7c2c8619131e3f9fbda0e9d27322b"), looks := false }, kinds := [], alts := [], laidByText := true, laidKinds := [.data], laidTests := true, laidLooks := .later }
def DigitsBackCardSaid : Prop := Claim7.holds Tryd.pinned (.plain (OpenSpec.ofChange digitsBackSpec)) digitsBackCard

/-- THE TIED CARD OF 'tearofflaw07.DigitsShapes'. -/
def digitsShapesCard : Claim7 := { stood := { row := digitsShapesRow, standIns := [], harness := (true, "be0a25c693f316d6d8c1086e672a63a888d7c2c8619131e3f9fbda0e9d27322b"), looks := false }, kinds := [], alts := [], laidByText := true, laidKinds := [.data], laidTests := true, laidLooks := .later }
def DigitsShapesCardSaid : Prop := Claim7.holds Tryd.pinned (.plain (OpenSpec.ofChange digitsShapesSpec)) digitsShapesCard

/-- THE TIED CARD OF 'tearofflaw07.DigitsRaise'. -/
def digitsRaiseCard : Claim7 := { stood := { row := digitsRaiseRow, standIns := [], harness := (true, "be0a25c693f316d6d8c1086e672a63a888d7c2c8619131e3f9fbda0e9d27322b"), looks := false }, kinds := [], alts := [], laidByText := true, laidKinds := [.data], laidTests := true, laidLooks := .later }
def DigitsRaiseCardSaid : Prop := Claim7.holds Tryd.pinned (.plain (OpenSpec.ofChange digitsRaiseSpec)) digitsRaiseCard

/-- THE SECOND FORM's CARD OF 'tearofflaw07.DigitsTell'. -/
def digitsTellUptoCard : Claim7 := { stood := { row := digitsTellUptoRow, standIns := [], harness := (true, "be0a25c693f316d6d8c1086e672a63a888d7c2c8619131e3f9fbda0e9d27322b"), looks := false }, kinds := [], alts := [], laidByText := true, laidKinds := [.data], laidTests := true, laidLooks := .later }
def DigitsTellUptoCardSaid : Prop := Claim7.holds Tryd.pinned (.plain (OpenSpec.upto digitsTellSpec)) digitsTellUptoCard

/-- THE SECOND FORM's CARD OF 'tearofflaw07.DigitsBoth'. -/
def digitsBothUptoCard : Claim7 := { stood := { row := digitsBothUptoRow, standIns := [], harness := (true, "be0a25c693f316d6d8c1086e672a63a888d7c2c8619131e3f9fbda0e9d27322b"), looks := false }, kinds := [], alts := [], laidByText := true, laidKinds := [.data], laidTests := true, laidLooks := .later }
def DigitsBothUptoCardSaid : Prop := Claim7.holds Tryd.pinned (.plain (OpenSpec.upto digitsBothSpec)) digitsBothUptoCard

/-- THE SECOND FORM's CARD OF 'tearofflaw07.DigitsBack'. -/
def digitsBackUptoCard : Claim7 := { stood := { row := digitsBackUptoRow, standIns := [], harness := (true, "be0a25c693f316d6d8c1086e672a63a888d7c2c8619131e3f9fbda0e9d27322b"), looks := false }, kinds := [], alts := [], laidByText := true, laidKinds := [.data], laidTests := true, laidLooks := .later }
def DigitsBackUptoCardSaid : Prop := Claim7.holds Tryd.pinned (.plain (OpenSpec.upto digitsBackSpec)) digitsBackUptoCard

/-- THE SECOND FORM's CARD OF 'tearofflaw07.DigitsShapes'. -/
def digitsShapesUptoCard : Claim7 := { stood := { row := digitsShapesUptoRow, standIns := [], harness := (true, "be0a25c693f316d6d8c1086e672a63a888d7c2c8619131e3f9fbda0e9d27322b"), looks := false }, kinds := [], alts := [], laidByText := true, laidKinds := [.data], laidTests := true, laidLooks := .later }
def DigitsShapesUptoCardSaid : Prop := Claim7.holds Tryd.pinned (.plain (OpenSpec.upto digitsShapesSpec)) digitsShapesUptoCard

/-- THE SECOND FORM's CARD OF 'tearofflaw07.DigitsRaise'. -/
def digitsRaiseUptoCard : Claim7 := { stood := { row := digitsRaiseUptoRow, standIns := [], harness := (true, "be0a25c693f316d6d8c1086e672a63a888d7c2c8619131e3f9fbda0e9d27322b"), looks := false }, kinds := [], alts := [], laidByText := true, laidKinds := [.data], laidTests := true, laidLooks := .later }
def DigitsRaiseUptoCardSaid : Prop := Claim7.holds Tryd.pinned (.plain (OpenSpec.upto digitsRaiseSpec)) digitsRaiseUptoCard
end Rows
end Go.Proofs.YtfhbnfhmicaklaaDoor
