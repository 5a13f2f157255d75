/-
  DERIVED. GIVEN WITH THE SEED: THE CARDS: each row of YtkpfppiedadmbaaDoorRows.lean that lists a variable, with what it lists TIED to the program's text (the seventh form; the later family's looks); each row that meets fmt, with fmt's text TOLD by the authors' own Lean function (tested against real Go, not proved from fmt's source: count such statements apart). THE CARD IS WHAT COUNTS. Prove the row's statement (the work); the ties are given (YtkpfppiedadmbaaDoorTie.lean); close each card by the builder's one call (the guide's Derived/Test/ToyasCard.lean, 'card_holds'). Laid BY PROGRAM, IN A SANDBOX (cutbox-door.mjs). By AI agents, Wed Nov 11 2026. No macro, syntax, notation, axiom, sorry.
-/
import Derived.Test.YtkpfppiedadmbaaDoorRows
import GoSem.ClaimSeven
namespace Go.Proofs.YtkpfppiedadmbaaDoor
namespace Rows

/-- THE TIED CARD OF 'tearofflaw16.XmssShapes'. -/
def xmssShapesCard : Claim7 := { stood := { row := xmssShapesRow, standIns := [], harness := (true, "81eae9019c94e94c8dae0e349c08ab9fe30fdb7564e068c72d8f46f5abbfb824"), looks := false }, kinds := [], alts := [], laidByText := true, laidKinds := [.data, .data, .data], laidTests := true, laidLooks := .later }
def XmssShapesCardSaid : Prop := Claim7.holds Tryd.pinned (.plain (OpenSpec.ofChange xmssShapesSpec)) xmssShapesCard

/-- THE TIED CARD OF 'tearofflaw16.XmssKeeps'. -/
def xmssKeepsCard : Claim7 := { stood := { row := xmssKeepsRow, standIns := [], harness := (true, "81eae9019c94e94c8dae0e349c08ab9fe30fdb7564e068c72d8f46f5abbfb824"), looks := false }, kinds := [], alts := [], laidByText := true, laidKinds := [.data, .data, .data], laidTests := true, laidLooks := .later }
def XmssKeepsCardSaid : Prop := Claim7.holds Tryd.pinned (.plain (OpenSpec.ofChange xmssKeepsSpec)) xmssKeepsCard

/-- THE TIED CARD OF 'tearofflaw16.XmssRoots'. -/
def xmssRootsCard : Claim7 := { stood := { row := xmssRootsRow, standIns := [], harness := (true, "81eae9019c94e94c8dae0e349c08ab9fe30fdb7564e068c72d8f46f5abbfb824"), looks := false }, kinds := [], alts := [], laidByText := true, laidKinds := [.data, .data, .data], laidTests := true, laidLooks := .later }
def XmssRootsCardSaid : Prop := Claim7.holds Tryd.pinned (.plain (OpenSpec.ofChange xmssRootsSpec)) xmssRootsCard

/-- THE TIED CARD OF 'tearofflaw16.XmssAll'. -/
def xmssAllCard : Claim7 := { stood := { row := xmssAllRow, standIns := [], harness := (true, "81eae9019c94e94c8dae0e349c08ab9fe30fdb7564e068c72d8f46f5abbfb824"), looks := false }, kinds := [], alts := [], laidByText := true, laidKinds := [.data, .data, .data], laidTests := true, laidLooks := .later }
def XmssAllCardSaid : Prop := Claim7.holds Tryd.pinned (.plain (OpenSpec.ofChange xmssAllSpec)) xmssAllCard

/-- THE SECOND FORM's CARD OF 'tearofflaw16.XmssShapes'. -/
def xmssShapesUptoCard : Claim7 := { stood := { row := xmssShapesUptoRow, standIns := [], harness := (true, "81eae9019c94e94c8dae0e349c08ab9fe30fdb7564e068c72d8f46f5abbfb824"), looks := false }, kinds := [], alts := [], laidByText := true, laidKinds := [.data, .data, .data], laidTests := true, laidLooks := .later }
def XmssShapesUptoCardSaid : Prop := Claim7.holds Tryd.pinned (.plain (OpenSpec.upto xmssShapesSpec)) xmssShapesUptoCard

/-- THE SECOND FORM's CARD OF 'tearofflaw16.XmssKeeps'. -/
def xmssKeepsUptoCard : Claim7 := { stood := { row := xmssKeepsUptoRow, standIns := [], harness := (true, "81eae9019c94e94c8dae0e349c08ab9fe30fdb7564e068c72d8f46f5abbfb824"), looks := false }, kinds := [], alts := [], laidByText := true, laidKinds := [.data, .data, .data], laidTests := true, laidLooks := .later }
def XmssKeepsUptoCardSaid : Prop := Claim7.holds Tryd.pinned (.plain (OpenSpec.upto xmssKeepsSpec)) xmssKeepsUptoCard

/-- THE SECOND FORM's CARD OF 'tearofflaw16.XmssRoots'. -/
def xmssRootsUptoCard : Claim7 := { stood := { row := xmssRootsUptoRow, standIns := [], harness := (true, "81eae9019c94e94c8dae0e349c08ab9fe30fdb7564e068c72d8f46f5abbfb824"), looks := false }, kinds := [], alts := [], laidByText := true, laidKinds := [.data, .data, .data], laidTests := true, laidLooks := .later }
def XmssRootsUptoCardSaid : Prop := Claim7.holds Tryd.pinned (.plain (OpenSpec.upto xmssRootsSpec)) xmssRootsUptoCard

/-- THE SECOND FORM's CARD OF 'tearofflaw16.XmssAll'. -/
def xmssAllUptoCard : Claim7 := { stood := { row := xmssAllUptoRow, standIns := [], harness := (true, "81eae9019c94e94c8dae0e349c08ab9fe30fdb7564e068c72d8f46f5abbfb824"), looks := false }, kinds := [], alts := [], laidByText := true, laidKinds := [.data, .data, .data], laidTests := true, laidLooks := .later }
def XmssAllUptoCardSaid : Prop := Claim7.holds Tryd.pinned (.plain (OpenSpec.upto xmssAllSpec)) xmssAllUptoCard
end Rows
end Go.Proofs.YtkpfppiedadmbaaDoor
