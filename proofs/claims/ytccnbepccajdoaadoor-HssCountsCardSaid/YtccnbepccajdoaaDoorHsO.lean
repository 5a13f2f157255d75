/-
  How an argument that came in reads: a slice of pairs of codes. No statement is proved here.
-/
import Derived.Test.YtccnbepccajdoaaDoorHs4
import Derived.Test.YtccnbepccajdoaaDoorOpenA
import Derived.Deep.Slices
import Derived.ChangeSame
namespace Go.Proofs.YtccnbepccajdoaaDoor
set_option linter.unusedSimpArgs false
set_option linter.unusedVariables false
set_option maxRecDepth 4096
open Go.ChangeShapes Go.WideShapes Go.ChangeAt Go.RowKit S7 S8 S13

/-- The number that a cell holds. -/
def natIn (v : Option Value) : Nat := match v with
  | some (.int _ z) => z.toNat
  | _ => 0
/-- The pair at a place of a row of pairs. -/
def prIn (W : World) (a : Addr) (i : Nat) : Pr := (natIn (W.cell? (a.add (i * 2))), natIn (W.cell? (a.add (i * 2 + 1))))
theorem u32_of_trod {H : Type} {enc : TypeId × Value → H} {W : World} {n : Nat} {v : Value} {y : DataW H × List MemPlace} (h : DataW.trod enc Tryd.prog W 0 (fun _ => true) true n 31 [v] = some y) : ∃ z : Nat, v = .int .u32 (z : Int) ∧ z < 4294967296 := by
  obtain ⟨z, e, _, hw⟩ := DataW.trod_int Tryd.underlying31 h
  have hw' : 0 ≤ z ∧ z ≤ 4294967295 := by simpa [Lit.wf, IntKind.min, IntKind.max, IntKind.signed, IntKind.bits] using hw
  obtain ⟨Z, rfl⟩ := Int.eq_ofNat_of_zero_le hw'.1
  simp at e
  exact ⟨Z, e, by omega⟩
theorem open_pairs {H : Type} {enc : TypeId × Value → H} {W : World} {v : Value} {d : DataW H} {p : List MemPlace} {base : Nat}
    (hv : Value.okWide Tryd.prog W .any base 22 v) (h : DataW.Trod enc Tryd.prog W 0 (fun _ => true) true 22 v d p) :
    ∃ y : Option Addr × Nat × Nat × List Pr, v = .slice y.1 y.2.1 y.2.2.1 ∧ Rp W y.1 y.2.1 y.2.2.1 y.2.2.2 := by
  obtain ⟨A, len, cap, rfl⟩ := okWide_slice Tryd.underlying22 hv
  obtain ⟨fuel, hf⟩ := h
  rcases Go.Deep.open_slice Tryd.underlying22 hf with ⟨hcs, _⟩ | ⟨a, l, c, m, n, D, Pl, hcs, _, hl, hm, hmm, _, hx⟩
  · simp [Value.cells] at hcs
    obtain ⟨rfl, rfl, rfl⟩ := hcs
    exact ⟨(none, 0, 0, []), rfl, ⟨rfl, Nat.le_refl _, by simp [maxLen], fun i => by simp [at_], fun h => absurd h (by simp)⟩⟩
  · simp [Value.cells] at hcs
    obtain ⟨rfl, rfl, rfl⟩ := hcs
    have hmc : m = cap := by simpa using hmm
    subst hmc
    have h2 : Tryd.prog.cellsOf 34 = 2 := by kernel_rfl
    have u1 : Tryd.prog.cellsOf 31 = 1 := by kernel_rfl
    have one : ∀ i, i < m → W.cell? (a.add (i * 2)) = some (.int .u32 ((prIn W a i).1 : Int)) ∧ W.cell? (a.add (i * 2 + 1)) = some (.int .u32 ((prIn W a i).2 : Int)) ∧ (prIn W a i).1 < 4294967296 ∧ (prIn W a i).2 < 4294967296 := fun i hi => by
      obtain ⟨cs', hc, ht⟩ := hx i hi
      rw [h2] at hc
      obtain ⟨_, hlen, hat⟩ := World.cells?_some hc
      obtain ⟨y0, y1, n', _, _, t0, t1⟩ := trod_struct2 Tryd.underlying34 ht
      match cs', hlen with
      | [c0, c1], _ =>
        have k0 : DataW.trod enc Tryd.prog W 0 (fun _ => true) true n' 31 [c0] = some y0 := by simpa [u1] using t0
        have k1 : DataW.trod enc Tryd.prog W 0 (fun _ => true) true n' 31 [c1] = some y1 := by simpa [u1] using t1
        obtain ⟨z0, rfl, l0⟩ := u32_of_trod k0
        obtain ⟨z1, rfl, l1⟩ := u32_of_trod k1
        have a0 := hat 0 (by omega)
        have a1 := hat 1 (by omega)
        rw [Go.Deep.add_add] at a0 a1
        simp only [Nat.add_zero, List.getElem?_cons_zero, List.getElem?_cons_succ] at a0 a1
        simp [prIn, a0, a1, natIn, l0, l1]
    refine ⟨(some a, len, m, (List.range len).map (prIn W a)), rfl, ⟨by simp, hl, hm, fun i => ?_, fun hn => ?_⟩⟩
    · by_cases hi : i < len
      · have := one i (by omega)
        simpa [at_, List.getD, hi] using this.2.2
      · simp [at_, List.getD, hi]
    · obtain ⟨b, off, spot⟩ := a
      have hn' : 0 < len := hn
      have h0 := (one 0 (by omega)).1
      have hspot : spot = none := by simpa [Addr.add] using World.cell?_spot h0
      subst hspot
      refine ⟨b, off, rfl, World.block_lt_of_cell? W _ h0, fun j hj => ?_⟩
      have hj' : j < len := hj
      have h1 := one j (by omega)
      rw [Go.WideShapes.add_plain, Go.WideShapes.add_plain] at h1
      simp only [at_, List.getD, List.getElem?_map, List.getElem?_range hj', Option.map_some, Option.getD_some]
      exact ⟨h1.1, h1.2.1⟩
end Go.Proofs.YtccnbepccajdoaaDoor
