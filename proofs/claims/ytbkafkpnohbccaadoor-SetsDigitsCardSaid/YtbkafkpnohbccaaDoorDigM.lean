/-
  The contracts of the landed package digits as one.
-/
import Derived.Test.YtbkafkpnohbccaaDoorDigK6
namespace Go.Proofs.YtbkafkpnohbccaaDoor.S7
set_option linter.unusedSimpArgs false
set_option linter.unusedVariables false
open Go.RowKit

theorem lackW_eq (w : Int) (xs : List UInt8) : lk w.toNat (ofW w xs) = lackW w xs := by
  unfold ofW lackW
  split
  · rfl
  · simp [lk]
/-- What the calls of the landed digits do. -/
def D0 : DC where
  ok := WOk
  bel := fun h hb => h.below hb
  may := fun w W h => (may_any w W h).mono fun e w' ⟨h1, h2⟩ => ⟨h1, by rw [← h2]; exact Below.refl _ _⟩
  of := fun A n c xs w W h hr hn => (of_new A n c xs w W h hr (by omega)).mono fun e w' h => .of_new h
  lack := fun A n c xs w W h hr hn => (lack_any A n c xs w W h hr (by omega)).mono fun e w' ⟨h1, h2⟩ => ⟨by rw [h1, lackW_eq], h2⟩
  shape := fun n w W h => (shapeW n w W h).mono fun e w' ⟨h1, h2⟩ => ⟨h1, by rw [← h2]; exact Below.refl _ _⟩
  all := fun A n c xs w W h hr hn => allW_any A n c xs w W h hr
end Go.Proofs.YtbkafkpnohbccaaDoor.S7
