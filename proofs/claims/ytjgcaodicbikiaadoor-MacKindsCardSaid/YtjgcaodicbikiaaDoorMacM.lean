/-
  The contracts of the landed package mac as one.
-/
import Derived.Test.YtjgcaodicbikiaaDoorMacK4
namespace Go.Proofs.YtjgcaodicbikiaaDoor.S6
set_option linter.unusedSimpArgs false
set_option linter.unusedVariables false
open Go.RowKit

/-- What the calls of the landed mac do. -/
def M0 : MC where
  ok := fun w => S2.GOk w ∧ S5.GOk w
  bel := fun h hb => ⟨h.1.below (Nat.le_refl _) hb, h.2.below (Nat.le_refl _) hb⟩
  size := fun k w h => size_any k w
  sum := fun k A n c xs w h hr hn => (sum_any k A n c xs w h hr hn).mono fun e w' h => h.gives
  macF := fun k A n c key At nt ct text w h h1 h2 hn hnt => mac_any k A n c key At nt ct text w h h1 h2 hn hnt
  mask := fun k At nt ct text n w h h2 hnt => mask_any k At nt ct text n w h h2 hnt
  one2 := fun A n c xs w h hr hn => (S2.one_any A n c xs w hr h.1 (by omega)).mono fun e w' h => Gives.of_new h
  one5 := fun A n c xs w h hr hn => (S5.one_any A n c xs w hr h.2 (by omega)).mono fun e w' h => Gives.of_new h
end Go.Proofs.YtjgcaodicbikiaaDoor.S6
