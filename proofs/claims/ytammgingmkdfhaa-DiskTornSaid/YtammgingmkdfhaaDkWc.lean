/-
  How whole numbers, and an argument of two bytes, read. No statement is proved here.
-/
import Derived.Test.YtammgingmkdfhaaWords
import Derived.Test.YtammgingmkdfhaaOpenA
import Derived.Test.YtammgingmkdfhaaDkO
namespace Go.Proofs.Ytammgingmkdfhaa.S19
set_option linter.unusedSimpArgs false
set_option linter.unusedVariables false
set_option maxRecDepth 8192
open Go.ChangeShapes Go.WideShapes Go.ChangeAt Go.RowKit Go.Joins
theorem bounds_u8' {n : Int} (h : (Lit.int .u8 n).wf = true) : 0 ≤ n ∧ n ≤ 255 := by
  simpa [Lit.wf, IntKind.min, IntKind.max, IntKind.signed, IntKind.bits] using h
theorem nat_of_u8 {n : Int} (h : (Lit.int .u8 n).wf = true) : ∃ m : Nat, n = (m : Int) ∧ m < 256 := by
  have := bounds_u8' h
  exact ⟨n.toNat, by omega, by omega⟩
theorem byte_of_u8 {n : Int} (h : (Lit.int .u8 n).wf = true) : ∃ m : UInt8, n = (m.toNat : Int) := by
  have := bounds_u8' h
  refine ⟨UInt8.ofNat n.toNat, ?_⟩
  simp
  omega
theorem open_two {H : Type} {enc : TypeId × Value → H} {W : World} {v : Value} {d : DataW H} {p : List MemPlace} {base : Nat}
    (hv : Value.okWide Try.prog W .any base 54 v) (h : DataW.Trod enc Try.prog W 0 (fun _ => true) true 54 v d p) : ∃ y : UInt8 × UInt8, v = .agg #[.int .u8 (y.1.toNat : Int), .int .u8 (y.2.toNat : Int)] := by
  obtain ⟨zs, hl, rfl, hw⟩ := open_array Try.underlying54 Try.underlying5 (by kernel_rfl) (by kernel_rfl) hv h
  match zs, hl with
  | [a, b], _ =>
    obtain ⟨x, hx⟩ := byte_of_u8 (hw a (by simp))
    obtain ⟨y, hy⟩ := byte_of_u8 (hw b (by simp))
    exact ⟨(x, y), by rw [hx, hy]; rfl⟩
end Go.Proofs.Ytammgingmkdfhaa.S19
