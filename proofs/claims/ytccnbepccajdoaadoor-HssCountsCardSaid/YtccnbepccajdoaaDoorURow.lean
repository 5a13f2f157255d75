/-
  Rows of 32-bit numbers as cells. No statement is proved here.
-/
import Derived.Test.YtccnbepccajdoaaDoorSet
import Derived.Deep.DrawnRows
import Derived.Deep.AppendLies
import Derived.RegionTactic
namespace Go.Proofs.YtccnbepccajdoaaDoor.S8
set_option linter.unusedSimpArgs false
set_option linter.unusedVariables false
open Go.RowKit S7

theorem Tryd.infoU32 : (Tryd.prog.info? 31).map (fun i => (i.zero, i.size, i.bytes)) = some (some (.int .u32 0), 1, 4) := by kernel_rfl
/-- A row of 32-bit numbers as values. -/
def uv (xs : List Nat) : List Value := xs.map fun (b : Nat) => Value.int .u32 (b : Int)
theorem uv_length (xs : List Nat) : (uv xs).length = xs.length := by simp [uv]
theorem uv_append (xs ys : List Nat) : uv (xs ++ ys) = uv xs ++ uv ys := by simp [uv]
theorem uv_at (xs : List Nat) (i : Nat) (h : i < xs.length) : (uv xs)[i]? = some (.int .u32 ((xs[i] : Nat) : Int)) := by simp [uv, h]
theorem uv_one (xs : List Nat) : ∀ u ∈ uv xs, u.oneCell' = true := by
  intro u hu
  simp only [uv, List.mem_map] at hu
  obtain ⟨b, _, rfl⟩ := hu
  rfl
theorem uv_zero (n : Nat) : (madeCells #[.int .u32 0] n).toList = uv (List.replicate n 0) := by
  rw [toList_madeCells_one]
  simp [uv]
/-- What is owned reads. -/
theorem Ru.own {w : World} {B e n : Nat} {A : Option Addr} {c : Nat} {xs : List Nat} (h : w.ownsRow B e 1 (.slice A n c) n (uv xs)) : Ru w A n c xs := by
  have hl : xs.length = n := by have := h.1; simp [uv_length] at this; exact this
  rcases h.2 with ⟨hv, hn⟩ | ⟨g, cap, cur, hv, _, hh, hnc, hcm, _, htake⟩
  · injection hv with h1 h2 h3
    subst h1 h2 h3
    exact ⟨hl, Nat.le_refl _, by simp [maxLen], fun h => absurd h (by omega)⟩
  · injection hv with h1 h2 h3
    subst h1 h3
    refine ⟨hl, hnc, hcm, fun hn => ⟨g, 0, rfl, (Array.getElem?_eq_some_iff.1 hh).1, fun j hj => ?_⟩⟩
    have := h.cellAt j (by omega)
    rw [Nat.zero_add, this, uv_at xs j (by omega)]
    simp [List.getD, hl ▸ hj]
end Go.Proofs.YtccnbepccajdoaaDoor.S8
