/-
  DERIVED. GIVEN WITH THE SEED: THE CARDS: each row of YtimcflbhddlpcaaDoorRows.lean that lists a variable, with what it lists TIED to the program's text (the seventh form; the later family's looks); each row that meets fmt, with fmt's text TOLD by the authors' own Lean function (tested against real Go, not proved from fmt's source: count such statements apart). THE CARD IS WHAT COUNTS. Prove the row's statement (the work); the ties are given (YtimcflbhddlpcaaDoorTie.lean); close each card by the builder's one call (the guide's Derived/Test/ToyasCard.lean, 'card_holds'). Laid BY PROGRAM, IN A SANDBOX (cutbox-door.mjs). By AI agents, Wed Nov 11 2026. No macro, syntax, notation, axiom, sorry.
-/
import Derived.Test.YtimcflbhddlpcaaDoorRows
import GoSem.ClaimSeven
namespace Go.Proofs.YtimcflbhddlpcaaDoor
namespace Rows

/-- THE TIED CARD OF 'tearofflaw03.Sha5Sums'. -/
def sha5SumsCard : Claim7 := { stood := { row := sha5SumsRow, standIns := [], harness := (true, "cf77d8f4c5eac45ddf4ebb0d9e7a74c0807df0993fc8a63136a69b6e6a4c49a6"), looks := false }, kinds := [], alts := [], laidByText := true, laidKinds := [.data, .data], laidTests := true, laidLooks := .later }
def Sha5SumsCardSaid : Prop := Claim7.holds Tryd.pinned (.plain (OpenSpec.ofChange sha5SumsSpec)) sha5SumsCard

/-- THE TIED CARD OF 'tearofflaw03.Sha5Parts'. -/
def sha5PartsCard : Claim7 := { stood := { row := sha5PartsRow, standIns := [], harness := (true, "cf77d8f4c5eac45ddf4ebb0d9e7a74c0807df0993fc8a63136a69b6e6a4c49a6"), looks := false }, kinds := [], alts := [], laidByText := true, laidKinds := [.data, .data], laidTests := true, laidLooks := .later }
def Sha5PartsCardSaid : Prop := Claim7.holds Tryd.pinned (.plain (OpenSpec.ofChange sha5PartsSpec)) sha5PartsCard

/-- THE TIED CARD OF 'tearofflaw03.Sha5Long'. -/
def sha5LongCard : Claim7 := { stood := { row := sha5LongRow, standIns := [], harness := (true, "cf77d8f4c5eac45ddf4ebb0d9e7a74c0807df0993fc8a63136a69b6e6a4c49a6"), looks := false }, kinds := [], alts := [], laidByText := true, laidKinds := [.data, .data], laidTests := true, laidLooks := .later }
def Sha5LongCardSaid : Prop := Claim7.holds Tryd.pinned (.plain (OpenSpec.ofChange sha5LongSpec)) sha5LongCard

/-- THE TIED CARD OF 'tearofflaw03.Sha5Again'. -/
def sha5AgainCard : Claim7 := { stood := { row := sha5AgainRow, standIns := [], harness := (true, "cf77d8f4c5eac45ddf4ebb0d9e7a74c0807df0993fc8a63136a69b6e6a4c49a6"), looks := false }, kinds := [], alts := [], laidByText := true, laidKinds := [.data, .data], laidTests := true, laidLooks := .later }
def Sha5AgainCardSaid : Prop := Claim7.holds Tryd.pinned (.plain (OpenSpec.ofChange sha5AgainSpec)) sha5AgainCard

/-- THE SECOND FORM's CARD OF 'tearofflaw03.Sha5Sums'. -/
def sha5SumsUptoCard : Claim7 := { stood := { row := sha5SumsUptoRow, standIns := [], harness := (true, "cf77d8f4c5eac45ddf4ebb0d9e7a74c0807df0993fc8a63136a69b6e6a4c49a6"), looks := false }, kinds := [], alts := [], laidByText := true, laidKinds := [.data, .data], laidTests := true, laidLooks := .later }
def Sha5SumsUptoCardSaid : Prop := Claim7.holds Tryd.pinned (.plain (OpenSpec.upto sha5SumsSpec)) sha5SumsUptoCard

/-- THE SECOND FORM's CARD OF 'tearofflaw03.Sha5Parts'. -/
def sha5PartsUptoCard : Claim7 := { stood := { row := sha5PartsUptoRow, standIns := [], harness := (true, "cf77d8f4c5eac45ddf4ebb0d9e7a74c0807df0993fc8a63136a69b6e6a4c49a6"), looks := false }, kinds := [], alts := [], laidByText := true, laidKinds := [.data, .data], laidTests := true, laidLooks := .later }
def Sha5PartsUptoCardSaid : Prop := Claim7.holds Tryd.pinned (.plain (OpenSpec.upto sha5PartsSpec)) sha5PartsUptoCard

/-- THE SECOND FORM's CARD OF 'tearofflaw03.Sha5Long'. -/
def sha5LongUptoCard : Claim7 := { stood := { row := sha5LongUptoRow, standIns := [], harness := (true, "cf77d8f4c5eac45ddf4ebb0d9e7a74c0807df0993fc8a63136a69b6e6a4c49a6"), looks := false }, kinds := [], alts := [], laidByText := true, laidKinds := [.data, .data], laidTests := true, laidLooks := .later }
def Sha5LongUptoCardSaid : Prop := Claim7.holds Tryd.pinned (.plain (OpenSpec.upto sha5LongSpec)) sha5LongUptoCard

/-- THE SECOND FORM's CARD OF 'tearofflaw03.Sha5Again'. -/
def sha5AgainUptoCard : Claim7 := { stood := { row := sha5AgainUptoRow, standIns := [], harness := (true, "cf77d8f4c5eac45ddf4ebb0d9e7a74c0807df0993fc8a63136a69b6e6a4c49a6"), looks := false }, kinds := [], alts := [], laidByText := true, laidKinds := [.data, .data], laidTests := true, laidLooks := .later }
def Sha5AgainUptoCardSaid : Prop := Claim7.holds Tryd.pinned (.plain (OpenSpec.upto sha5AgainSpec)) sha5AgainUptoCard
end Rows
end Go.Proofs.YtimcflbhddlpcaaDoor
