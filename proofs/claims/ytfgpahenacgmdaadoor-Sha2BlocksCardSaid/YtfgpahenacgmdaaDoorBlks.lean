/-
  A slice of blocks that came in: how it reads.
-/
import Derived.Test.YtfgpahenacgmdaaDoorArr
import Derived.Deep.Slices
namespace Go.Proofs.YtfgpahenacgmdaaDoor
set_option linter.unusedSimpArgs false
set_option linter.unusedVariables false
open Go.ChangeShapes Go.WideShapes Go.ChangeAt Go.RowKit

structure RdA (w : World) (A : Option Addr) (n c : Nat) (xss : List (List UInt8)) : Prop where
  len : xss.length = n
  cap : n ≤ c
  max : c ≤ maxLen
  each : ∀ xs ∈ xss, xs.length = 64
  at_ : 0 < n → ∃ b off, A = some ⟨b, off, none⟩ ∧ b < w.heap.size ∧ ∀ i, i < n → ∀ j, j < 64 → w.cell? ⟨b, off + i * 64 + j, none⟩ = some (.int .u8 (((xss.getD i []).getD j 0).toNat : Int))

theorem RdA.below {w w' : World} {A : Option Addr} {n c : Nat} {xss : List (List UInt8)} (h : RdA w A n c xss) (hb : Below w.heap.size w w') : RdA w' A n c xss :=
  ⟨h.len, h.cap, h.max, h.each, fun hn => by
    obtain ⟨b, off, e, hlt, hc⟩ := h.at_ hn
    refine ⟨b, off, e, Nat.lt_of_lt_of_le hlt hb.size, fun i hi j hj => ?_⟩
    rw [← hc i hi j hj]
    exact hb.cell hlt⟩

/-- One block of it, as a range. -/
theorem RdA.range {w : World} {b off n c : Nat} {xss : List (List UInt8)} (h : RdA w (some ⟨b, off, none⟩) n c xss) {i : Nat} (hi : i < n) : w.rangeAt b (off + i * 64) (bv (xss.getD i [])) := fun j v hv => by
  obtain ⟨b', off', e, hlt, hc⟩ := h.at_ (by omega)
  injection e with e
  injection e with e1 e2
  subst e1 e2
  have hm : xss.getD i [] ∈ xss := by
    rw [List.getD_eq_getElem?_getD, List.getElem?_eq_getElem (by rw [h.len]; exact hi)]
    exact List.getElem_mem _
  have h64 := h.each _ hm
  obtain ⟨xs, hxs⟩ : ∃ xs, xs = xss.getD i [] := ⟨_, rfl⟩
  have hcj := fun hj => hc i hi j hj
  rw [← hxs] at hv h64 hcj
  have hj : j < 64 := by
    rcases Nat.lt_or_ge j 64 with h' | h'
    · exact h'
    · rw [List.getElem?_eq_none (by simp [bv]; omega)] at hv; cases hv
  rw [hcj hj]
  rw [← hv]
  simp [bv, List.getElem?_map, List.getD, List.getElem?_eq_getElem (show j < xs.length by omega)]

/-- One block of it, as a slice of bytes. -/
theorem RdA.rd {w : World} {b off n c : Nat} {xss : List (List UInt8)} (h : RdA w (some ⟨b, off, none⟩) n c xss) {i : Nat} (hi : i < n) : Rd w (some ⟨b, off + i * 64, none⟩) 64 64 (xss.getD i []) := by
  obtain ⟨b', off', e, hlt, hc⟩ := h.at_ (by omega)
  injection e with e
  injection e with e1 e2
  subst e1 e2
  have hm : xss.getD i [] ∈ xss := by
    rw [List.getD_eq_getElem?_getD, List.getElem?_eq_getElem (by rw [h.len]; exact hi)]
    exact List.getElem_mem _
  exact ⟨h.each _ hm, Nat.le_refl _, by decide, (fun e => by cases e), fun _ => ⟨b, _, rfl, hlt, fun j hj => hc i hi j hj⟩⟩

theorem ints_cells {H : Type} {enc : TypeId × Value → H} {P : Program} {W : World} {cs : List Value} {x : DataW H × List MemPlace} {b fuel : Nat} {sp : Nat → Bool} {held : Bool} {t e : TypeId} {n : Nat} {k : IntKind}
    (ht : P.underlying t = some (.array n e)) (he : P.underlying e = some (.int k)) (hce : P.cellsOf e = 1) (hct : P.cellsOf t = n)
    (hf : DataW.trod enc P W b sp held fuel t cs = some x) :
    ∃ zs : List Int, zs.length = n ∧ cs = (zs.map fun z => Value.int k z) ∧ ∀ z ∈ zs, (Lit.int k z).wf = true := by
  obtain ⟨xs, m, _, _, hl, hxl, hall⟩ := DataW.trod_array ht hf
  have one : ∀ i, i < n → ∃ z, cs[i]? = some (.int k z) ∧ (Lit.int k z).wf = true := fun i hi => by
    have h1 := hall i hi
    rw [hce, Nat.mul_one, List.getElem?_eq_getElem (by omega)] at h1
    obtain ⟨z, hz, _, wz⟩ := DataW.trod_int he h1
    refine ⟨z, ?_, wz⟩
    have := congrArg (·[0]?) hz
    simpa [List.getElem?_take, List.getElem?_drop] using this
  have hlen : cs.length = n := by rw [hl, hct]
  refine ⟨cs.map numOf, by simpa using hlen, ?_, fun z hz => ?_⟩
  · apply List.ext_getElem?
    intro i
    by_cases hi : i < n
    · obtain ⟨z, h1, _⟩ := one i hi
      simp only [List.getElem?_map, h1, Option.map_some, numOf]
    · rw [List.getElem?_eq_none (by omega), List.getElem?_eq_none (by simp only [List.length_map]; omega)]
  · obtain ⟨v, hv, rfl⟩ := List.mem_map.1 hz
    obtain ⟨i, hi, hiv⟩ := List.getElem_of_mem hv
    obtain ⟨z, h1, h2⟩ := one i (by omega)
    rw [List.getElem?_eq_getElem hi, hiv] at h1
    injection h1 with h1
    subst h1
    exact h2

/-- A slice of blocks that came in. -/
theorem open_blocks {H : Type} {enc : TypeId × Value → H} {W : World} {v : Value} {d : DataW H} {p : List MemPlace} {base : Nat}
    (hv : Value.okWide Tryd.prog W .any base 38 v) (h : DataW.Trod enc Tryd.prog W 0 (fun _ => true) true 38 v d p) :
    ∃ y : Option Addr × Nat × Nat × List (List UInt8), v = .slice y.1 y.2.1 y.2.2.1 ∧ RdA W y.1 y.2.1 y.2.2.1 y.2.2.2 := by
  obtain ⟨A, len, cap, rfl⟩ := okWide_slice Tryd.underlying38 hv
  obtain ⟨fuel, hf⟩ := h
  rcases Go.Deep.open_slice Tryd.underlying38 hf with ⟨hcs, _⟩ | ⟨a, l, c, m, n, D, Pl, hcs, _, hl, hm, hmm, _, hx⟩
  · simp [Value.cells] at hcs
    obtain ⟨rfl, rfl, rfl⟩ := hcs
    exact ⟨(none, 0, 0, []), rfl, rfl, Nat.le_refl _, by simp, by simp, fun h => absurd h (by simp)⟩
  · simp [Value.cells] at hcs
    obtain ⟨rfl, rfl, rfl⟩ := hcs
    obtain rfl : m = cap := by simpa using hmm
    have hc64 : Tryd.prog.cellsOf 29 = 64 := by kernel_rfl
    rw [hc64] at hx
    obtain ⟨X, hX⟩ := Go.Deep.choose_lt (α := List UInt8) (p := fun i (xs : List UInt8) => xs.length = 64 ∧ ∀ j, j < 64 → W.cell? ((a.add (i * 64)).add j) = some (.int .u8 ((xs.getD j 0).toNat : Int))) (fun i hi => by
      obtain ⟨cs', h1, h2⟩ := hx i hi
      obtain ⟨_, hlen, hcell⟩ := World.cells?_some h1
      obtain ⟨zs, hzl, rfl, hw⟩ := ints_cells Tryd.underlying29 Tryd.underlying5 (by kernel_rfl) (by kernel_rfl) h2
      obtain ⟨xs, hxl, e⟩ := bytes_of hw
      refine ⟨xs, by omega, fun j hj => ?_⟩
      rw [hcell j hj, e]
      simp [bv, List.getElem?_map, List.getD, List.getElem?_eq_getElem (show j < xs.length by omega)])
    refine ⟨(some a, len, m, (List.range len).map X), rfl, by simp, hl, hm, fun xs hxs => ?_, fun hn => ?_⟩
    · obtain ⟨i, hi, rfl⟩ := List.mem_map.1 hxs
      exact (hX i (by have := List.mem_range.1 hi; omega)).1
    · have h0 := (hX 0 (by simp at hn; omega)).2 0 (by omega)
      obtain ⟨b, off, spot⟩ := a
      have hspot : spot = none := by simpa [Addr.add] using World.cell?_spot h0
      subst hspot
      refine ⟨b, off, rfl, ?_, fun i hi j hj => ?_⟩
      · have := World.block_lt_of_cell? W _ h0
        simpa [Addr.add] using this
      · have := (hX i (by simp at hi; omega)).2 j hj
        rw [Addr.add_mid, Addr.add_mid] at this
        rw [this]
        simp at hi
        simp [List.getD, List.getElem?_map, List.getElem?_range, hi]
end Go.Proofs.YtfgpahenacgmdaaDoor
