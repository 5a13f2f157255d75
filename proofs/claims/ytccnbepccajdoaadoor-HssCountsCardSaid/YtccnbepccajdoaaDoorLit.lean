/-
  A struct's literal that is laid field by field in a region that draws its order: the cells hang on which stores are listed. No statement is proved here.
-/
import Derived.Test.YtccnbepccajdoaaDoorSteadyM
import Derived.Test.YtccnbepccajdoaaDoorCel
namespace Go.Proofs.YtccnbepccajdoaaDoor.SM
set_option linter.unusedSimpArgs false
set_option linter.unusedVariables false
open Go.RowKit

theorem getD_rep (n j : Nat) : (Array.replicate n false).getD j false = false := by
  simp only [Array.getD_eq_getD_getElem?, Array.getElem?_replicate]
  split <;> rfl
/-- The cells: field k bears what it is to bear once its store, operation b + 2 * k, is listed. -/
def litCs (b n : Nat) (vs zs : Nat → Value) (L : Array Bool) : Array Value := ((List.range n).map fun k => if L.getD (b + 2 * k) false = true then vs k else zs k).toArray
/-- What holds in such a region: R of the world, and the struct's block; no field is laid ahead of operation z, which lays zeros. -/
structure Lit (g : Nat) (t : TypeId) (z b n : Nat) (vs zs : Nat → Value) (R : World → Prop) (L : Array Bool) (w : World) : Prop where
  out : Bk w g t (litCs b n vs zs L)
  zero : L.getD z false = false → ∀ k, k < n → L.getD (b + 2 * k) false = false
  r : R w
section
variable {g : Nat} {t : TypeId} {z b n : Nat} {vs zs : Nat → Value} {R : World → Prop} {L : Array Bool} {w : World}
theorem getD_set (L : Array Bool) (i j : Nat) : (L.setIfInBounds i true).getD j false = if i = j ∧ j < L.size then true else L.getD j false := by
  simp only [Array.getD_eq_getD_getElem?, Array.getElem?_setIfInBounds]
  by_cases h : i = j
  · subst h
    by_cases h2 : i < L.size
    · simp [h2]
    · simp [h2]
  · simp [h]
theorem getD_ne {L : Array Bool} {i j : Nat} (h : i ≠ j) : (L.setIfInBounds i true).getD j false = L.getD j false := by
  rw [getD_set, if_neg (fun e => h e.1)]
theorem Lit.pure (h : Lit g t z b n vs zs R L w) (i : Nat) (hi : ∀ k, k < n → i ≠ b + 2 * k) (hz : i ≠ z) : Lit g t z b n vs zs R (L.setIfInBounds i true) w := by
  refine ⟨?_, fun h0 k hk => ?_, h.r⟩
  · have e : litCs b n vs zs (L.setIfInBounds i true) = litCs b n vs zs L := by
      unfold litCs
      congr 1
      refine List.map_congr_left fun k hk => ?_
      rw [getD_ne (hi k (by simpa using hk))]
    rw [e]; exact h.out
  · rw [getD_set, if_neg (fun e => hz e.1)] at h0
    rw [getD_set, if_neg (fun e => hi k hk e.1)]
    exact h.zero h0 k hk
theorem Lit.store (h : Lit g t z b n vs zs R L w) (k : Nat) (hk : k < n) (hs : b + 2 * k < L.size) (hz : L.getD z false = true) (hR : ∀ w, R w → R (w.setCell ⟨g, k, none⟩ (vs k))) : Lit g t z b n vs zs R (L.setIfInBounds (b + 2 * k) true) (w.setCell ⟨g, k, none⟩ (vs k)) := by
  refine ⟨?_, fun h0 => ?_, hR _ h.r⟩
  · have e : litCs b n vs zs (L.setIfInBounds (b + 2 * k) true) = (litCs b n vs zs L).setIfInBounds k (vs k) := by
      apply Array.ext_getElem?
      intro j
      unfold litCs
      simp only [Array.getElem?_setIfInBounds, List.getElem?_toArray, List.size_toArray, List.length_map, List.length_range, List.getElem?_map]
      by_cases hj : j < n
      · rw [List.getElem?_range hj]
        simp only [Option.map_some]
        by_cases e : k = j
        · subst e
          simp [hs, hj, getD_set]
        · rw [getD_ne (by omega)]
          simp [e]
      · rw [List.getElem?_eq_none (by simp; omega)]
        by_cases e : k = j
        · omega
        · simp [e]
    rw [e]; exact h.out.put k _
  · rw [getD_set] at h0
    split at h0
    · cases h0
    · rw [hz] at h0; cases h0
theorem Lit.lay (h : Lit g t z b n vs zs R L w) (hz : L.getD z true = false) (hb : z < b) (w' : World) (hw : Bk w' g t (litCs b n vs zs L)) (hR : R w') (hs : z < L.size) : Lit g t z b n vs zs R (L.setIfInBounds z true) w' := by
  have e : ∀ k, z ≠ b + 2 * k := fun k => by omega
  refine ⟨?_, fun h0 => ?_, hR⟩
  · have e : litCs b n vs zs (L.setIfInBounds z true) = litCs b n vs zs L := by
      unfold litCs
      congr 1
      refine List.map_congr_left fun k hk => ?_
      rw [getD_ne (e k)]
    rw [e]; exact hw
  · rw [getD_set, if_pos ⟨rfl, hs⟩] at h0; cases h0
theorem getD_none {L : Array Bool} {z : Nat} (h : L.getD z true = false) : L.getD z false = false := by
  simp only [Array.getD_eq_getD_getElem?] at *
  cases hq : L[z]? with
  | none => simp
  | some x => simpa [hq] using h
/-- Ahead of the zeros the block bears zeros. -/
theorem Lit.zeros (h : Lit g t z b n vs zs R L w) (hz : L.getD z true = false) : litCs b n vs zs L = ((List.range n).map zs).toArray := by
  unfold litCs
  congr 1
  refine List.map_congr_left fun k hk => ?_
  rw [h.zero (getD_none hz) k (by simpa using hk)]
  rfl
theorem Lit.free (h : Lit g t z b n vs zs R L w) (k : Nat) : w.frozen? ⟨g, k, none⟩ = false := h.out.frozen k
theorem Lit.at_ (h : Lit g t z b n vs zs R L w) (k : Nat) (hk : k < n) : ∃ x, w.cell? ⟨g, k, none⟩ = some x := by
  rw [h.out.cell]
  exact ⟨_, Array.getElem?_eq_getElem (by simpa [litCs] using hk)⟩
end
end Go.Proofs.YtccnbepccajdoaaDoor.SM
