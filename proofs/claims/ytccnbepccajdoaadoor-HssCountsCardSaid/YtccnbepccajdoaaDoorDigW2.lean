/-
  Words that the statements of layer 7 have in common: the width that a byte picks, a cut of bytes, the least of three. No statement is proved here.
-/
import Derived.Test.YtccnbepccajdoaaDoorDigC
namespace Go.Proofs.YtccnbepccajdoaaDoor.S7
set_option linter.unusedSimpArgs false
set_option linter.unusedVariables false
open Go.RowKit

/-- The width that a number picks. -/
def pkW (r : Nat) : Nat := match r with | 0 => 1 | 1 => 2 | 2 => 4 | _ => 8
theorem pk_wid (r : Nat) : wid (pkW r) := by
  unfold pkW wid
  split <;> simp
theorem pk_cell {r v : Nat} (hr : r < 4) (hv : v = pkW r) : (#[Value.int .i64 1, .int .i64 2, .int .i64 4, .int .i64 8] : Array Value)[r]? = some (.int .i64 (v : Int)) := by
  subst hv
  rcases r with _ | _ | _ | _ | r
  · rfl
  · rfl
  · rfl
  · rfl
  · omega
theorem pk_load {r v : Nat} (hr : r < 4) (hv : v = pkW r) (T : TypeId) (X : World) (b : Nat) (hb : X.heap.size = b) : (X.alloc (.cells #[Value.int .i64 1, .int .i64 2, .int .i64 4, .int .i64 8] T)).cell? ⟨b, r, none⟩ = some (.int .i64 (v : Int)) := by
  subst hb
  rw [cell_of_row _ _ _ _ _ _ (heap_alloc_new X _)]
  exact pk_cell hr hv
theorem run_cutBH {A : Option Addr} {n c m : Nat} {h : Int} (hh : h = (m : Nat)) (hk : m ≤ c) (W : World) :
    (Instr.slice 36 (.slice A n c) none (some (.int .i64 h)) none).run Tryd.prog W = .ok (.slice A m c) W := by
  have ee : Tryd.prog.elem 36 = 5 := by kernel_rfl
  have hs : (sizeOf 5).run Tryd.prog W = .ok 1 W := by kernel_rfl
  subst hh
  rw [run_slice_h W 36 A n c (by rw [ee]; exact Tryd.underlying36) .i64 (m : Int) (by omega) (by omega), ee, hs]
  simp only [Result.andThen, sliced, Nat.mul_one, Int.toNat_natCast, Nat.sub_zero]
  have : A.map (·.add 0) = A := by cases A <;> simp [Addr.add]
  rw [this]
  split <;> rfl
theorem run_cutBHAt {A : Option Addr} {n c m : Nat} {h : Int} (hh : h = (m : Nat)) (hk : m ≤ c) (W : World) :
    (Instr.sliceAt 36 (.slice A n c) none (some (.int .i64 h)) none).run Tryd.prog W = .ok (.slice A m c) W := by
  have ee : Tryd.prog.elem 36 = 5 := by kernel_rfl
  rw [run_sliceAt_slice W 36 _ _ _ _ (by rw [ee]; exact Tryd.underlying36)]
  exact run_cutBH hh hk W
theorem run_min2 {P : Program} (k : IntKind) (a b : Int) (w : World) : (Builtin.min2 (.int k a) (.int k b)).run P w = .ok (.int k (min a b)) w := by
  have e : (if b < a then b else a) = min a b := by split <;> omega
  simp only [Builtin.min2, e]
  rfl
theorem run_min3 {P : Program} (ts : Array TypeId) (t : TypeId) (k : IntKind) (a b c r : Int) (h : r = min (min a b) c) (w : World) :
    (Builtin.min_ ts t #[.int k a, .int k b, .int k c]).run P w = .ok (.int k r) w := by
  subst h
  simp [Builtin.min_, List.foldlM, run_min2]
/-- Whether two rows are the same so far. -/
def eqB (xs ys : List UInt8) (k : Nat) : Bool := decide (xs.take k = ys.take k)
/-- Whether some number is less so far. -/
def ltB (X Y : List Nat) (k : Nat) : Bool := decide (∃ i, i < k ∧ X.getD i 0 < Y.getD i 0)
theorem eqB_zero (xs ys : List UInt8) : eqB xs ys 0 = true := by simp [eqB]
theorem ltB_zero (X Y : List Nat) : ltB X Y 0 = false := by simp [ltB]
theorem eqB_next (xs ys : List UInt8) (k : Nat) (h1 : k < xs.length) (h2 : k < ys.length) : eqB xs ys (k + 1) = (eqB xs ys k && decide ((xs.getD k 0).toNat = (ys.getD k 0).toNat)) := by
  unfold eqB
  rw [Bool.eq_iff_iff]
  simp only [Bool.and_eq_true, decide_eq_true_eq]
  rw [List.take_succ_eq_append_getElem h1, List.take_succ_eq_append_getElem h2]
  constructor
  · intro h
    obtain ⟨a, b⟩ := List.append_inj' h rfl
    simp only [List.cons.injEq, and_true] at b
    exact ⟨a, by simp [List.getD, h1, h2, b]⟩
  · rintro ⟨a, b⟩
    have : xs[k] = ys[k] := by simpa [List.getD, h1, h2, UInt8.toNat_inj] using b
    rw [a, this]
theorem ltB_next (X Y : List Nat) (k : Nat) : ltB X Y (k + 1) = (ltB X Y k || decide (X.getD k 0 < Y.getD k 0)) := by
  unfold ltB
  rw [Bool.eq_iff_iff]
  simp only [Bool.or_eq_true, decide_eq_true_eq]
  constructor
  · rintro ⟨i, h, g⟩
    by_cases e : i = k
    · subst e; exact .inr g
    · exact .inl ⟨i, by omega, g⟩
  · rintro (⟨i, h, g⟩ | g)
    · exact ⟨i, by omega, g⟩
    · exact ⟨k, by omega, g⟩
theorem ltB_same (X : List Nat) (k : Nat) : ltB X X k = false := by simp [ltB]
end Go.Proofs.YtccnbepccajdoaaDoor.S7
