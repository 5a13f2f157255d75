/-
  Texts put together: WpL1, WpL2. No statement is proved here.
-/
import Derived.Test.YtkpfppiedadmbaaGreatDoorWo37

/-
  The walk of layer 15's second statement. No statement is proved here.
-/
namespace Go.Proofs.YtkpfppiedadmbaaGreatDoor.S15
set_option linter.unusedSimpArgs false
set_option linter.unusedVariables false
set_option maxRecDepth 1024
open Go.RowKit

/-- A leaf's cells, with a sum. -/
abbrev lfA (ly tr qq : Nat) (At : Option Addr) (nt ct : Nat) : Array Value := #[.int .u32 (ly : Int), .int .u64 (tr : Int), .int .u32 (qq : Int), .slice At nt ct]
theorem lf_cells {w' : World} {g : Nat} {T : TypeId} {ly tr qq : Nat} {At : Option Addr} {nt ct : Nat} (h : Bk w' g T (lfA ly tr qq At nt ct)) : w'.cell? ⟨g, 0, none⟩ = some (.int .u32 (ly : Int)) ∧ w'.cell? ⟨g, 1, none⟩ = some (.int .u64 (tr : Int)) ∧ w'.cell? ⟨g, 2, none⟩ = some (.int .u32 (qq : Int)) ∧ w'.cell? ⟨g, 3, none⟩ = some (.slice At nt ct) := ⟨h.cell 0, h.cell 1, h.cell 2, h.cell 3⟩
end Go.Proofs.YtkpfppiedadmbaaGreatDoor.S15

/-
  The walk of layer 15's third statement. No statement is proved here.
-/
namespace Go.Proofs.YtkpfppiedadmbaaGreatDoor.S15
set_option linter.unusedSimpArgs false
set_option linter.unusedVariables false
set_option maxRecDepth 1024
open Go.RowKit

theorem run_cutSlH {A : Option Addr} {n c m : Nat} {h : Int} (hh : h = (m : Nat)) (hk : m ≤ c) (W : World) :
    (Instr.slice 24 (.slice A n c) none (some (.int .i64 h)) none).run Tryz.prog W = .ok (.slice A m c) W := by
  have ee : Tryz.prog.elem 24 = 5 := by kernel_rfl
  have hs : (sizeOf 5).run Tryz.prog W = .ok 1 W := by kernel_rfl
  subst hh
  rw [run_slice_h W 24 A n c (by rw [ee]; exact Tryz.underlying24) .i64 (m : Int) (by omega) (by omega), ee, hs]
  simp only [Result.andThen, sliced, Nat.mul_one, Int.toNat_natCast, Nat.sub_zero]
  have : A.map (·.add 0) = A := by cases A <;> simp [Addr.add]
  rw [this]
  split <;> rfl
theorem run_cutSlHAt {A : Option Addr} {n c m : Nat} {h : Int} (hh : h = (m : Nat)) (hk : m ≤ c) (W : World) :
    (Instr.sliceAt 24 (.slice A n c) none (some (.int .i64 h)) none).run Tryz.prog W = .ok (.slice A m c) W := by
  have ee : Tryz.prog.elem 24 = 5 := by kernel_rfl
  rw [run_sliceAt_slice W 24 _ _ _ _ (by rw [ee]; exact Tryz.underlying24)]
  exact run_cutSlH hh hk W
end Go.Proofs.YtkpfppiedadmbaaGreatDoor.S15
