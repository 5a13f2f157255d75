/-
  How arguments that came in read: a set of one-time signatures, a set of trees. No statement is proved here.
-/
import Derived.Test.YtbkafkpnohbccaaDoorOpenA
import Derived.Lib.SmallJoins
namespace Go.Proofs.YtbkafkpnohbccaaDoor
set_option linter.unusedSimpArgs false
set_option linter.unusedVariables false
open Go.ChangeShapes Go.WideShapes Go.ChangeAt Go.RowKit Go.Joins

/-- Six whole numbers in a row of cells. -/
theorem six_of {α : Type} {cs : Array α} (h : cs.size = 6) : ∃ a b c d e f, cs = #[a, b, c, d, e, f] := by
  obtain ⟨l⟩ := cs
  rcases l with _ | ⟨a, l⟩
  · cases h
  rcases l with _ | ⟨b, l⟩
  · cases h
  rcases l with _ | ⟨c, l⟩
  · cases h
  rcases l with _ | ⟨d, l⟩
  · cases h
  rcases l with _ | ⟨e, l⟩
  · cases h
  rcases l with _ | ⟨f, l⟩
  · cases h
  rcases l with _ | ⟨g, l⟩
  · exact ⟨a, b, c, d, e, f, rfl⟩
  · simp at h
theorem four_of {α : Type} {cs : Array α} (h : cs.size = 4) : ∃ a b c d, cs = #[a, b, c, d] := by
  obtain ⟨l⟩ := cs
  rcases l with _ | ⟨a, l⟩
  · cases h
  rcases l with _ | ⟨b, l⟩
  · cases h
  rcases l with _ | ⟨c, l⟩
  · cases h
  rcases l with _ | ⟨d, l⟩
  · cases h
  rcases l with _ | ⟨g, l⟩
  · exact ⟨a, b, c, d, rfl⟩
  · simp at h
theorem open_ots {H : Type} {enc : TypeId × Value → H} {W : World} {v : Value} {d : DataW H} {p : List MemPlace} {base : Nat}
    (hv : Value.okWide Tryd.prog W .any base 24 v) (h : DataW.Trod enc Tryd.prog W 0 (fun _ => true) true 24 v d p) :
    ∃ y : Int × Int × Int × Int × Int × Int, v = .agg #[.int .u32 y.1, .int .i64 y.2.1, .int .i64 y.2.2.1, .int .i64 y.2.2.2.1, .int .i64 y.2.2.2.2.1, .int .i64 y.2.2.2.2.2] := by
  obtain ⟨cs, rfl, hsz⟩ := okWide_struct Tryd.underlying24 hv
  obtain ⟨c0, c1, c2, c3, c4, c5, rfl⟩ := six_of (hsz.trans (by kernel_rfl))
  obtain ⟨fuel, hf⟩ := h
  obtain ⟨xs, n, _, _, hl, hlen, hf⟩ := DataW.trod_struct Tryd.underlying24 hf
  obtain ⟨y0, y1, y2, y3, y4, y5, hxs⟩ := six_of (cs := xs.toArray) (by simpa using hlen)
  obtain rfl : xs = [y0, y1, y2, y3, y4, y5] := by simpa using congrArg Array.toList hxs
  have one : ∀ (T : TypeId) (k : IntKind) (c : Value) (y : DataW H × List MemPlace), Tryd.prog.underlying T = some (.int k) → DataW.trod enc Tryd.prog W 0 (fun _ => true) true n T [c] = some y → ∃ z : Int, c = .int k z := fun T k c y hu hy => by
    obtain ⟨z, e, _⟩ := DataW.trod_int hu hy
    simp at e
    exact ⟨z, e⟩
  have u1 : Tryd.prog.cellsOf 22 = 1 := by kernel_rfl
  have u2 : Tryd.prog.cellsOf 3 = 1 := by kernel_rfl
  obtain ⟨z0, rfl⟩ := one 22 .u32 c0 y0 Tryd.underlying22 (by have h := hf 0 _ rfl; simpa [Value.cells, u1] using h)
  obtain ⟨z1, rfl⟩ := one 3 .i64 c1 y1 Tryd.underlying3 (by have h := hf 1 _ rfl; simpa [Value.cells, u2] using h)
  obtain ⟨z2, rfl⟩ := one 3 .i64 c2 y2 Tryd.underlying3 (by have h := hf 2 _ rfl; simpa [Value.cells, u2] using h)
  obtain ⟨z3, rfl⟩ := one 3 .i64 c3 y3 Tryd.underlying3 (by have h := hf 3 _ rfl; simpa [Value.cells, u2] using h)
  obtain ⟨z4, rfl⟩ := one 3 .i64 c4 y4 Tryd.underlying3 (by have h := hf 4 _ rfl; simpa [Value.cells, u2] using h)
  obtain ⟨z5, rfl⟩ := one 3 .i64 c5 y5 Tryd.underlying3 (by have h := hf 5 _ rfl; simpa [Value.cells, u2] using h)
  exact ⟨(z0, z1, z2, z3, z4, z5), rfl⟩
theorem open_tree {H : Type} {enc : TypeId × Value → H} {W : World} {v : Value} {d : DataW H} {p : List MemPlace} {base : Nat}
    (hv : Value.okWide Tryd.prog W .any base 26 v) (h : DataW.Trod enc Tryd.prog W 0 (fun _ => true) true 26 v d p) :
    ∃ y : Int × Int × Int × Int, v = .agg #[.int .u32 y.1, .int .i64 y.2.1, .int .i64 y.2.2.1, .int .i64 y.2.2.2] := by
  obtain ⟨cs, rfl, hsz⟩ := okWide_struct Tryd.underlying26 hv
  obtain ⟨c0, c1, c2, c3, rfl⟩ := four_of (hsz.trans (by kernel_rfl))
  obtain ⟨fuel, hf⟩ := h
  obtain ⟨xs, n, _, _, hl, hlen, hf⟩ := DataW.trod_struct Tryd.underlying26 hf
  obtain ⟨y0, y1, y2, y3, hxs⟩ := four_of (cs := xs.toArray) (by simpa using hlen)
  obtain rfl : xs = [y0, y1, y2, y3] := by simpa using congrArg Array.toList hxs
  have one : ∀ (T : TypeId) (k : IntKind) (c : Value) (y : DataW H × List MemPlace), Tryd.prog.underlying T = some (.int k) → DataW.trod enc Tryd.prog W 0 (fun _ => true) true n T [c] = some y → ∃ z : Int, c = .int k z := fun T k c y hu hy => by
    obtain ⟨z, e, _⟩ := DataW.trod_int hu hy
    simp at e
    exact ⟨z, e⟩
  have u1 : Tryd.prog.cellsOf 22 = 1 := by kernel_rfl
  have u2 : Tryd.prog.cellsOf 3 = 1 := by kernel_rfl
  obtain ⟨z0, rfl⟩ := one 22 .u32 c0 y0 Tryd.underlying22 (by have h := hf 0 _ rfl; simpa [Value.cells, u1] using h)
  obtain ⟨z1, rfl⟩ := one 3 .i64 c1 y1 Tryd.underlying3 (by have h := hf 1 _ rfl; simpa [Value.cells, u2] using h)
  obtain ⟨z2, rfl⟩ := one 3 .i64 c2 y2 Tryd.underlying3 (by have h := hf 2 _ rfl; simpa [Value.cells, u2] using h)
  obtain ⟨z3, rfl⟩ := one 3 .i64 c3 y3 Tryd.underlying3 (by have h := hf 3 _ rfl; simpa [Value.cells, u2] using h)
  exact ⟨(z0, z1, z2, z3), rfl⟩
end Go.Proofs.YtbkafkpnohbccaaDoor
