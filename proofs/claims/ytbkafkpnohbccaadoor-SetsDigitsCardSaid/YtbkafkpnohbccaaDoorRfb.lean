/-
  A loop over an iterator whose body appends to a boxed slice, where the row lies beyond every box. No statement is proved here.
-/
import Derived.RangeFuncBox
import Derived.Test.YtbkafkpnohbccaaDoorRows
namespace Go.Proofs.YtbkafkpnohbccaaDoor
set_option linter.unusedSimpArgs false
set_option linter.unusedVariables false
open Go Go.RowKit

theorem row_far {W : World} {R B e size k : Nat} {v : Value} {xs : List Value} (hB : B < R) (hr : W.ownsRow R e size v k xs) : some B ≠ v.ownBlock := by
  rcases hr.2 with ⟨rfl, _⟩ | ⟨g, cap, cur, rfl, hg, _⟩
  · simp [Value.ownBlock]
  · intro e'
    obtain rfl : B = g := by simpa [Value.ownBlock] using e'
    omega
theorem appended2 {W w1 : World} {R B : Nat} {t e : TypeId} {size : Nat} {v v' : Value} {k m : Nat} {xs ys : List Value} {tmp : Obj}
    (hv : Boxed W B t v) (hrow : W.ownsRow R e size v k xs) (hR : R ≤ W.heap.size) (hB : B < R)
    (hown' : w1.ownsRow R e size v' m ys) (hgrow : (W.alloc tmp).grownBy w1 v.ownBlock) :
    Boxed w1 B t v ∧ Boxed (w1.setCell ⟨B, 0, none⟩ v') B t v' ∧ (w1.setCell ⟨B, 0, none⟩ v').ownsRow R e size v' m ys ∧ KeepsOthers W (w1.setCell ⟨B, 0, none⟩ v') ∧
      (∀ n₀, n₀ ≤ B → Below n₀ W (w1.setCell ⟨B, 0, none⟩ v')) ∧ (∀ B2, B2 < R → B2 ≠ B → ∀ o, W.heap[B2]? = some o → (w1.setCell ⟨B, 0, none⟩ v').heap[B2]? = some o) := by
  have hv1 : Boxed w1 B t v := (hv.alloc tmp).kept hgrow (row_far hB hrow)
  refine ⟨hv1, hv1.set v', hown'.kept (grownBy_setCell' w1 B v') (.inr (row_far hB hown').symm), ?_, ?_, ?_⟩
  · refine ((KeepsOthers.alloc W tmp).trans (KeepsOthers.of_grownBy hgrow fun j o ej hj => ?_)).trans (KeepsOthers.setCell _ _ _)
    rcases (hrow.alloc tmp).2 with ⟨rfl, _⟩ | ⟨g, cap, cur, rfl, _, hgb, _⟩
    · simp [Value.ownBlock] at ej
    · obtain rfl : g = j := by simpa [Value.ownBlock] using ej
      rw [hgb] at hj; cases hj; rfl
  · intro n₀ hn
    refine (((Below.refl n₀ W).alloc (by omega) tmp).grown hgrow (by simp; omega) fun j ej => ?_).setCell (p := ⟨B, 0, none⟩) hn v'
    rcases hrow.2 with ⟨rfl, _⟩ | ⟨g, cap, cur, rfl, hb, _, _⟩
    · simp [Value.ownBlock] at ej
    · obtain rfl : g = j := by simpa [Value.ownBlock] using ej
      omega
  · intro B2 h2 hne o ho
    have hlt : B2 < W.heap.size := by omega
    have h1 : (W.alloc tmp).heap[B2]? = some o := (Below.heap_alloc W tmp B2 hlt).trans ho
    have h3 : w1.heap[B2]? = some o := by
      refine (hgrow.block B2 (by simp; omega) ?_).trans h1
      exact row_far h2 hrow
    exact (Below.heap_setCell _ _ _ B2 hne).trans h3
end Go.Proofs.YtbkafkpnohbccaaDoor
