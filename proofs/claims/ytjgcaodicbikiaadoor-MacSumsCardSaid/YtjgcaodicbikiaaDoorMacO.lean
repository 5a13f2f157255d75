/-
  How an argument that came in reads: a text and a number.
-/
import Derived.Test.YtjgcaodicbikiaaDoorOpen
import Derived.Test.YtjgcaodicbikiaaDoorBlk
import Derived.Lib.SmallJoins
namespace Go.Proofs.YtjgcaodicbikiaaDoor
set_option linter.unusedSimpArgs false
set_option linter.unusedVariables false
open Go.ChangeShapes Go.WideShapes Go.ChangeAt Go.RowKit Go.Joins

/-- A text and a number that came in. -/
theorem open_text {H : Type} {enc : TypeId × Value → H} {W : World} {v : Value} {d : DataW H} {p : List MemPlace} {base : Nat}
    (hv : Value.okWide Tryd.prog W .any base 24 v) (h : DataW.Trod enc Tryd.prog W 0 (fun _ => true) true 24 v d p) :
    ∃ y : (Option Addr × Nat × Nat × List UInt8) × Int, v = .agg #[.slice y.1.1 y.1.2.1 y.1.2.2.1, .int .i64 y.2] ∧ Rd W y.1.1 y.1.2.1 y.1.2.2.1 y.1.2.2.2 := by
  obtain ⟨c0, c1, y0, y1, m, rfl, _, _, hy0, hy1⟩ := open_agg2 Tryd.underlying24 (by kernel_rfl) (by kernel_rfl) hv h
  obtain ⟨b, e1, _, wb⟩ := DataW.trod_int Tryd.underlying3 hy1
  simp at e1
  subst e1
  rcases open_ints Tryd.underlying22 Tryd.underlying5 (by kernel_rfl) hy0 with ⟨hcs, _⟩ | ⟨x, l, c, zs, hcs, _, hl, hm, hz, hD, hc2, hwz⟩
  · simp at hcs
    subst hcs
    exact ⟨((none, 0, 0, []), b), rfl, Rd.nil_ W⟩
  · simp at hcs
    subst hcs
    obtain ⟨xs, hx⟩ := rd_of_cells hl hm (by simpa using hz) hc2 hwz
    exact ⟨((some x, l, c, xs), b), rfl, hx⟩
end Go.Proofs.YtjgcaodicbikiaaDoor
