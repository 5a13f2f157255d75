/-
  DERIVED. GIVEN WITH THE SEED: THE CARDS: each row of YtnejepidbahjdaaDoorRows.lean that lists a variable, with what it lists TIED to the program's text (the seventh form; the later family's looks); each row that meets fmt, with fmt's text TOLD by the authors' own Lean function (tested against real Go, not proved from fmt's source: count such statements apart). THE CARD IS WHAT COUNTS. Prove the row's statement (the work); the ties are given (YtnejepidbahjdaaDoorTie.lean); close each card by the builder's one call (the guide's Derived/Test/ToyasCard.lean, 'card_holds'). Laid BY PROGRAM, IN A SANDBOX (cutbox-door.mjs). By AI agents, Wed Nov 11 2026. No macro, syntax, notation, axiom, sorry.
-/
import Derived.Test.YtnejepidbahjdaaDoorRows
import GoSem.ClaimSeven
namespace Go.Proofs.YtnejepidbahjdaaDoor
namespace Rows

/-- THE TIED CARD OF 'tearofflaw15.WplusSigns'. -/
def wplusSignsCard : Claim7 := { stood := { row := wplusSignsRow, standIns := [], harness := (true, "3ccb9915b57ca5f0834452429d6075faf94d1c71f7ae72e68ec0d8fdb62d8490"), looks := false }, kinds := [], alts := [], laidByText := true, laidKinds := [.data, .data, .data], laidTests := true, laidLooks := .later }
def WplusSignsCardSaid : Prop := Claim7.holds Tryd.pinned (.plain (OpenSpec.ofChange wplusSignsSpec)) wplusSignsCard

/-- THE TIED CARD OF 'tearofflaw15.WplusStands'. -/
def wplusStandsCard : Claim7 := { stood := { row := wplusStandsRow, standIns := [], harness := (true, "3ccb9915b57ca5f0834452429d6075faf94d1c71f7ae72e68ec0d8fdb62d8490"), looks := false }, kinds := [], alts := [], laidByText := true, laidKinds := [.data, .data, .data], laidTests := true, laidLooks := .later }
def WplusStandsCardSaid : Prop := Claim7.holds Tryd.pinned (.plain (OpenSpec.ofChange wplusStandsSpec)) wplusStandsCard

/-- THE TIED CARD OF 'tearofflaw15.WplusKeeps'. -/
def wplusKeepsCard : Claim7 := { stood := { row := wplusKeepsRow, standIns := [], harness := (true, "3ccb9915b57ca5f0834452429d6075faf94d1c71f7ae72e68ec0d8fdb62d8490"), looks := false }, kinds := [], alts := [], laidByText := true, laidKinds := [.data, .data, .data], laidTests := true, laidLooks := .later }
def WplusKeepsCardSaid : Prop := Claim7.holds Tryd.pinned (.plain (OpenSpec.ofChange wplusKeepsSpec)) wplusKeepsCard

/-- THE TIED CARD OF 'tearofflaw15.WplusAgain'. -/
def wplusAgainCard : Claim7 := { stood := { row := wplusAgainRow, standIns := [], harness := (true, "3ccb9915b57ca5f0834452429d6075faf94d1c71f7ae72e68ec0d8fdb62d8490"), looks := false }, kinds := [], alts := [], laidByText := true, laidKinds := [.data, .data, .data], laidTests := true, laidLooks := .later }
def WplusAgainCardSaid : Prop := Claim7.holds Tryd.pinned (.plain (OpenSpec.ofChange wplusAgainSpec)) wplusAgainCard

/-- THE TIED CARD OF 'tearofflaw15.WplusLengths'. -/
def wplusLengthsCard : Claim7 := { stood := { row := wplusLengthsRow, standIns := [], harness := (true, "3ccb9915b57ca5f0834452429d6075faf94d1c71f7ae72e68ec0d8fdb62d8490"), looks := false }, kinds := [], alts := [], laidByText := true, laidKinds := [.data, .data, .data], laidTests := true, laidLooks := .later }
def WplusLengthsCardSaid : Prop := Claim7.holds Tryd.pinned (.plain (OpenSpec.ofChange wplusLengthsSpec)) wplusLengthsCard

/-- THE SECOND FORM's CARD OF 'tearofflaw15.WplusSigns'. -/
def wplusSignsUptoCard : Claim7 := { stood := { row := wplusSignsUptoRow, standIns := [], harness := (true, "3ccb9915b57ca5f0834452429d6075faf94d1c71f7ae72e68ec0d8fdb62d8490"), looks := false }, kinds := [], alts := [], laidByText := true, laidKinds := [.data, .data, .data], laidTests := true, laidLooks := .later }
def WplusSignsUptoCardSaid : Prop := Claim7.holds Tryd.pinned (.plain (OpenSpec.upto wplusSignsSpec)) wplusSignsUptoCard

/-- THE SECOND FORM's CARD OF 'tearofflaw15.WplusStands'. -/
def wplusStandsUptoCard : Claim7 := { stood := { row := wplusStandsUptoRow, standIns := [], harness := (true, "3ccb9915b57ca5f0834452429d6075faf94d1c71f7ae72e68ec0d8fdb62d8490"), looks := false }, kinds := [], alts := [], laidByText := true, laidKinds := [.data, .data, .data], laidTests := true, laidLooks := .later }
def WplusStandsUptoCardSaid : Prop := Claim7.holds Tryd.pinned (.plain (OpenSpec.upto wplusStandsSpec)) wplusStandsUptoCard

/-- THE SECOND FORM's CARD OF 'tearofflaw15.WplusKeeps'. -/
def wplusKeepsUptoCard : Claim7 := { stood := { row := wplusKeepsUptoRow, standIns := [], harness := (true, "3ccb9915b57ca5f0834452429d6075faf94d1c71f7ae72e68ec0d8fdb62d8490"), looks := false }, kinds := [], alts := [], laidByText := true, laidKinds := [.data, .data, .data], laidTests := true, laidLooks := .later }
def WplusKeepsUptoCardSaid : Prop := Claim7.holds Tryd.pinned (.plain (OpenSpec.upto wplusKeepsSpec)) wplusKeepsUptoCard

/-- THE SECOND FORM's CARD OF 'tearofflaw15.WplusAgain'. -/
def wplusAgainUptoCard : Claim7 := { stood := { row := wplusAgainUptoRow, standIns := [], harness := (true, "3ccb9915b57ca5f0834452429d6075faf94d1c71f7ae72e68ec0d8fdb62d8490"), looks := false }, kinds := [], alts := [], laidByText := true, laidKinds := [.data, .data, .data], laidTests := true, laidLooks := .later }
def WplusAgainUptoCardSaid : Prop := Claim7.holds Tryd.pinned (.plain (OpenSpec.upto wplusAgainSpec)) wplusAgainUptoCard

/-- THE SECOND FORM's CARD OF 'tearofflaw15.WplusLengths'. -/
def wplusLengthsUptoCard : Claim7 := { stood := { row := wplusLengthsUptoRow, standIns := [], harness := (true, "3ccb9915b57ca5f0834452429d6075faf94d1c71f7ae72e68ec0d8fdb62d8490"), looks := false }, kinds := [], alts := [], laidByText := true, laidKinds := [.data, .data, .data], laidTests := true, laidLooks := .later }
def WplusLengthsUptoCardSaid : Prop := Claim7.holds Tryd.pinned (.plain (OpenSpec.upto wplusLengthsSpec)) wplusLengthsUptoCard
end Rows
end Go.Proofs.YtnejepidbahjdaaDoor
