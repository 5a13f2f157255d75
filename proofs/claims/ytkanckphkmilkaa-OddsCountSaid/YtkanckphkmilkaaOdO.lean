/-
  How arguments that came in read: a slice of floating numbers, a counter. No statement is proved here.
-/
import Derived.Test.YtkanckphkmilkaaOdC
import Derived.Test.YtkanckphkmilkaaOpenA
import Derived.Deep.Slices
import Derived.Lib.SmallJoins
namespace Go.Proofs.Ytkanckphkmilkaa.F
set_option linter.unusedSimpArgs false
set_option linter.unusedVariables false
open Go.ChangeShapes Go.WideShapes Go.ChangeAt Go.RowKit Go.Joins

theorem trod_float {H : Type} {enc : TypeId × Value → H} {P : Program} {w : World} {base : Nat} {spare : Nat → Bool} {held : Bool} {fuel : Nat} {t : TypeId} {cs : List Value} {x : DataW H × List MemPlace} {k : FloatKind} (ht : P.underlying t = some (.float k)) (h : DataW.trod enc P w base spare held fuel t cs = some x) :
    ∃ b, cs = [.float k b] ∧ (Lit.float k b).wf = true := by
  cases fuel with
  | zero => simp [DataW.trod] at h
  | succ n =>
    unfold DataW.trod at h
    rw [ht] at h
    split at h <;> simp_all
theorem wf_lt {b : Nat} (h : (Lit.float .f64 b).wf = true) : b < 18446744073709551616 := by
  simpa [Lit.wf] using h
/-- The bits of a floating number. -/
def bitsOf (v : Value) : Nat := match v with
  | .float _ b => b
  | _ => 0
theorem open_floats {H : Type} {enc : TypeId × Value → H} {W : World} {v : Value} {d : DataW H} {p : List MemPlace} {base : Nat}
    (hv : Value.okWide Try.prog W .any base 28 v) (h : DataW.Trod enc Try.prog W 0 (fun _ => true) true 28 v d p) :
    ∃ y : (Option Addr × Nat × Nat × List Nat), v = .slice y.1 y.2.1 y.2.2.1 ∧ Rf W y.1 y.2.1 y.2.2.1 y.2.2.2 := by
  obtain ⟨A, len, cap, rfl⟩ := okWide_slice Try.underlying28 hv
  obtain ⟨fuel, hf⟩ := h
  rcases Go.Deep.open_slice1 Try.underlying28 (by kernel_rfl) hf with ⟨hcs, _⟩ | ⟨a, l, c, m, n, V, D, Pl, hcs, _, hl, hm, hmm, _, hx⟩
  · simp [Value.cells] at hcs
    obtain ⟨rfl, rfl, rfl⟩ := hcs
    exact ⟨(none, 0, 0, []), rfl, ⟨rfl, Nat.le_refl _, by simp [maxLen], fun _ => rfl, fun h => absurd h (by simp)⟩⟩
  · simp [Value.cells] at hcs
    obtain ⟨rfl, rfl, rfl⟩ := hcs
    have hmc : m = cap := by simpa using hmm
    subst hmc
    have hV : ∀ i, i < m → V i = .float .f64 (bitsOf (V i)) := fun i hi => by
      obtain ⟨b, hb, _⟩ := trod_float Try.underlying22 (hx i hi).2
      simp at hb
      rw [hb]; rfl
    refine ⟨(some a, len, m, (List.range len).map fun i => bitsOf (V i)), rfl, ⟨by simp, hl, hm, (fun h => by cases h), fun hn => ?_⟩⟩
    obtain ⟨b, off, spot⟩ := a
    have hn' : 0 < len := hn
    have h0 := (hx 0 (by omega)).1
    have hspot : spot = none := by simpa [Addr.add] using World.cell?_spot h0
    subst hspot
    refine ⟨b, off, rfl, World.block_lt_of_cell? W _ h0, fun j hj => ?_⟩
    have hj' : j < len := hj
    have h1 := (hx j (by omega)).1
    rw [Go.WideShapes.add_plain] at h1
    rw [h1, hV j (by omega)]
    simp [List.getD, hj', bitsOf]
theorem five_of {α : Type} {cs : Array α} (h : cs.size = 5) : ∃ a b c d e, cs = #[a, b, c, d, e] := by
  obtain ⟨l⟩ := cs
  rcases l with _ | ⟨a, l⟩
  · cases h
  rcases l with _ | ⟨b, l⟩
  · cases h
  rcases l with _ | ⟨c, l⟩
  · cases h
  rcases l with _ | ⟨d, l⟩
  · cases h
  rcases l with _ | ⟨e, l⟩
  · cases h
  rcases l with _ | ⟨g, l⟩
  · exact ⟨a, b, c, d, e, rfl⟩
  · simp at h
theorem open_cnt {H : Type} {enc : TypeId × Value → H} {W : World} {v : Value} {d : DataW H} {p : List MemPlace} {base : Nat}
    (hv : Value.okWide Try.prog W .any base 37 v) (h : DataW.Trod enc Try.prog W 0 (fun _ => true) true 37 v d p) :
    ∃ y : Nat × Nat × Nat × Nat × Bool, v = cntV y.1 y.2.1 y.2.2.1 y.2.2.2.1 y.2.2.2.2 ∧ y.1 < 18446744073709551616 ∧ y.2.2.2.1 < 18446744073709551616 := by
  obtain ⟨cs, rfl, hsz⟩ := okWide_struct Try.underlying37 hv
  obtain ⟨c0, c1, c2, c3, c4, rfl⟩ := five_of (hsz.trans (by kernel_rfl))
  obtain ⟨fuel, hf⟩ := h
  obtain ⟨xs, n, _, _, hl, hlen, hf⟩ := DataW.trod_struct Try.underlying37 hf
  obtain ⟨y0, y1, y2, y3, y4, hxs⟩ := five_of (cs := xs.toArray) (by simpa using hlen)
  obtain rfl : xs = [y0, y1, y2, y3, y4] := by simpa using congrArg Array.toList hxs
  have one : ∀ (c : Value) (y : DataW H × List MemPlace), DataW.trod enc Try.prog W 0 (fun _ => true) true n 35 [c] = some y → ∃ z : Nat, c = .int .u64 (z : Int) ∧ z < 18446744073709551616 := fun c y hy => by
    obtain ⟨z, e, _, hw⟩ := DataW.trod_int Try.underlying35 hy
    have hw' : 0 ≤ z ∧ z ≤ 18446744073709551615 := by simpa [Lit.wf, IntKind.min, IntKind.max, IntKind.signed, IntKind.bits] using hw
    obtain ⟨Z, rfl⟩ := Int.eq_ofNat_of_zero_le hw'.1
    simp at e
    exact ⟨Z, e, by omega⟩
  have u1 : Try.prog.cellsOf 35 = 1 := by kernel_rfl
  have u2 : Try.prog.cellsOf 4 = 1 := by kernel_rfl
  obtain ⟨z0, rfl, l0⟩ := one c0 y0 (by have h := hf 0 _ rfl; simpa [Value.cells, u1] using h)
  obtain ⟨z1, rfl, l1⟩ := one c1 y1 (by have h := hf 1 _ rfl; simpa [Value.cells, u1] using h)
  obtain ⟨z2, rfl, l2⟩ := one c2 y2 (by have h := hf 2 _ rfl; simpa [Value.cells, u1] using h)
  obtain ⟨z3, rfl, l3⟩ := one c3 y3 (by have h := hf 3 _ rfl; simpa [Value.cells, u1] using h)
  have h4 : DataW.trod enc Try.prog W 0 (fun _ => true) true n 4 [c4] = some y4 := by have h := hf 4 _ rfl; simpa [Value.cells, u2] using h
  obtain ⟨q, e4, _⟩ := DataW.trod_bool Try.underlying4 h4
  simp at e4
  subst e4
  exact ⟨(z0, z1, z2, z3, q), rfl, l0, l3⟩
end Go.Proofs.Ytkanckphkmilkaa.F
