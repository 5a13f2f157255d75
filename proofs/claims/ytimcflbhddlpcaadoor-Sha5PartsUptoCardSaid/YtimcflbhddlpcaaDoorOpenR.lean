/-
  How an argument that came in reads: rows of bytes.
-/
import Derived.Test.YtimcflbhddlpcaaDoorOpen
import Derived.Deep.Slices
import Derived.Test.YtimcflbhddlpcaaDoorBlk
namespace Go.Proofs.YtimcflbhddlpcaaDoor
set_option linter.unusedSimpArgs false
set_option linter.unusedVariables false
open Go.ChangeShapes Go.WideShapes Go.ChangeAt Go.RowKit

theorem add_0 (a : Addr) : a.add 0 = a := by
  obtain ⟨b, o, s⟩ := a
  unfold Addr.add
  split <;> simp_all
theorem bulk_length {H : Type} (l : List (DataW H)) : l.length ≤ Rows.uptoBulkAll l := by
  induction l with
  | nil => simp
  | cons x r ih =>
    have h1 : 1 ≤ Rows.uptoBulk x := by cases x with
      | lit l => cases l <;> simp [Rows.uptoBulk]
      | _ => simp [Rows.uptoBulk]
    simp only [Rows.uptoBulkAll, List.length_cons]; omega
theorem bulk_flat {H : Type} (D : Nat → DataW H) (X : Nat → List UInt8) : ∀ l : List Nat, (∀ i ∈ l, (X i).length ≤ Rows.uptoBulk (D i)) → (l.map X).flatten.length ≤ Rows.uptoBulkAll (l.map D)
  | [], _ => by simp
  | i :: l, h => by
    have h1 := h i (List.mem_cons_self ..)
    have h2 := bulk_flat D X l (fun j hj => h j (List.mem_cons_of_mem _ hj))
    simp only [List.map_cons, List.flatten_cons, List.length_append, Rows.uptoBulkAll]
    omega
/-- A slice of rows of bytes that came in; what it holds weighs at least as much as the rows' bytes. -/
theorem open_rows {H : Type} {enc : TypeId × Value → H} {W : World} {v : Value} {d : DataW H} {p : List MemPlace} {base : Nat}
    (hv : Value.okWide Tryd.prog W .any base 29 v) (h : DataW.Trod enc Tryd.prog W 0 (fun _ => true) true 29 v d p) :
    ∃ y : Option Addr × Nat × Nat × List (List UInt8), v = .slice y.1 y.2.1 y.2.2.1 ∧ RdBs W y.1 y.2.1 y.2.2.1 y.2.2.2 ∧ y.2.2.2.flatten.length ≤ Rows.uptoBulk d := by
  obtain ⟨A, len, cap, rfl⟩ := okWide_slice Tryd.underlying29 hv
  obtain ⟨fuel, hf⟩ := h
  rcases Go.Deep.open_slice Tryd.underlying29 hf with ⟨hcs, _⟩ | ⟨a, l, c, m, n, D, Pl, hcs, _, hl, hm, hmm, hd0, hx⟩
  · simp [Value.cells] at hcs
    obtain ⟨rfl, rfl, rfl⟩ := hcs
    exact ⟨(none, 0, 0, []), rfl, RdBs.nil_ W, by simp⟩
  · simp [Value.cells] at hcs
    obtain ⟨rfl, rfl, rfl⟩ := hcs
    obtain rfl : m = cap := by simpa using hmm
    have hc1 : Tryd.prog.cellsOf 22 = 1 := by kernel_rfl
    rw [hc1] at hx
    obtain ⟨X, hX⟩ := Go.Deep.choose_lt (α := Option Addr × Nat × Nat × List UInt8) (p := fun i y => W.cell? (a.add (i * 1)) = some (.slice y.1 y.2.1 y.2.2.1) ∧ Rd W y.1 y.2.1 y.2.2.1 y.2.2.2 ∧ y.2.2.2.length ≤ Rows.uptoBulk (D i)) (fun i hi => by
      obtain ⟨cs', h1, h2⟩ := hx i hi
      obtain ⟨_, hlen, hcell⟩ := World.cells?_some h1
      have h0 := hcell 0 (by omega)
      rcases open_ints Tryd.underlying22 Tryd.underlying5 (by kernel_rfl) h2 with ⟨hcs, _⟩ | ⟨x, l, c, zs, hcs, _, hl, hm, hz, hD, hc2, hwz⟩
      · subst hcs
        exact ⟨(none, 0, 0, []), by simpa [add_0] using h0, Rd.nil_ W, by simp⟩
      · subst hcs
        obtain ⟨xs, hx⟩ := rd_of_cells hl hm (by simpa using hz) hc2 hwz
        have e : D i = .slice (lits .u8 (zs.take l)) (lits .u8 (zs.drop l)) := congrArg Prod.fst hD
        have hzl : l ≤ zs.length := by rw [hz]; split <;> omega
        refine ⟨(some x, l, c, xs), by simpa [add_0] using h0, hx, ?_⟩
        rw [e]
        have h3 := bulk_length (H := H) (lits .u8 (zs.take l))
        have h4 : (lits (H := H) .u8 (zs.take l)).length = l := by simp [lits]; omega
        have h5 := hx.len
        simp only [Rows.uptoBulk]
        omega)
    refine ⟨(some a, len, m, (List.range len).map fun i => (X i).2.2.2), rfl, ⟨by simp, hl, hm, (fun e => by cases e), fun hn => ?_⟩, ?_⟩
    rotate_left
    · have := bulk_flat D (fun i => (X i).2.2.2) (List.range len) (fun i hi => (hX i (by have := List.mem_range.1 hi; omega)).2.2)
      have e : d = _ := congrArg Prod.fst hd0
      rw [e]
      simp only [Rows.uptoBulk]
      omega
    simp only at hn
    have h0 := (hX 0 (by omega)).1
    obtain ⟨b, off, spot⟩ := a
    have hspot : spot = none := by simpa [Addr.add] using World.cell?_spot h0
    subst hspot
    refine ⟨b, off, rfl, ?_, fun j hj => ?_⟩
    · have := World.block_lt_of_cell? W _ h0
      simpa [Addr.add] using this
    · obtain ⟨h1, h2, _⟩ := hX j (by simp at hj; omega)
      rw [Addr.add_mid, Nat.mul_one] at h1
      have hj' : j < len := by simpa using hj
      refine ⟨_, _, _, h1, ?_⟩
      simpa [List.getElem?_map, List.getElem?_range, hj'] using h2
end Go.Proofs.YtimcflbhddlpcaaDoor
