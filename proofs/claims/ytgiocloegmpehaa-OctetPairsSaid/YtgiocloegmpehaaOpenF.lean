/-
  How an argument that came in reads: a byte beside a count.
-/
import Derived.Test.YtgiocloegmpehaaOpen
import Derived.Lib.SmallJoins
namespace Go.Proofs.Ytgiocloegmpehaa
set_option linter.unusedSimpArgs false
set_option linter.unusedVariables false
open Go.ChangeShapes Go.WideShapes Go.ChangeAt Go.RowKit Go.Joins

theorem open_filled {H : Type} {enc : TypeId × Value → H} {W : World} {v : Value} {d : DataW H} {p : List MemPlace} {base : Nat}
    (hv : Value.okWide Try.prog W .any base 32 v) (h : DataW.Trod enc Try.prog W 0 (fun _ => true) true 32 v d p) :
    ∃ y : UInt8 × Int, v = .agg #[.int .u8 (y.1.toNat : Int), .int .i64 y.2] := by
  obtain ⟨c0, c1, y0, y1, m, rfl, _, _, hy0, hy1⟩ := open_agg2 Try.underlying32 (by kernel_rfl) (by kernel_rfl) hv h
  obtain ⟨a, e0, _, wa⟩ := DataW.trod_int Try.underlying5 hy0
  obtain ⟨b, e1, _, wb⟩ := DataW.trod_int Try.underlying3 hy1
  simp at e0 e1
  subst e0 e1
  have hb := bounds_u8 wa
  exact ⟨(UInt8.ofNat a.toNat, b), by simp; omega⟩
end Go.Proofs.Ytgiocloegmpehaa
