/-
  How an argument that came in reads: an array of numbers; and what the listed variables hold.
-/
import Derived.Test.YtfgpahenacgmdaaDoorOpen
import Derived.Test.YtfgpahenacgmdaaDoorHash2
import Derived.Lib.LaidU8
import Derived.Lay
import Derived.SevenTiedAt
import Derived.Test.YtfgpahenacgmdaaDoorTie
namespace Go.Proofs.YtfgpahenacgmdaaDoor
set_option linter.unusedSimpArgs false
set_option linter.unusedVariables false
open Go.ChangeShapes Go.WideShapes Go.ChangeAt Go.RowKit

theorem okWide_array {P : Program} {w : World} {r : Reach} {base : Nat} {t e : TypeId} {n : Nat} {v : Value} (ht : P.underlying t = some (.array n e)) (h : Value.okWide P w r base t v) : ∃ cs, v = .agg cs ∧ cs.size = P.cellsOf t := by
  simp only [Value.okWide, ht] at h
  obtain ⟨cs, h1, h2, _⟩ := h
  exact ⟨cs, h1, h2⟩
def numOf (v : Value) : Int := match v with
  | .int _ z => z
  | _ => 0
theorem open_array {H : Type} {enc : TypeId × Value → H} {P : Program} {W : World} {v : Value} {d : DataW H} {p : List MemPlace} {base b : Nat} {sp : Nat → Bool} {held : Bool} {t e : TypeId} {n : Nat} {k : IntKind} {r : Reach}
    (ht : P.underlying t = some (.array n e)) (he : P.underlying e = some (.int k)) (hce : P.cellsOf e = 1) (hct : P.cellsOf t = n)
    (hv : Value.okWide P W r base t v) (h : DataW.Trod enc P W b sp held t v d p) :
    ∃ zs : List Int, zs.length = n ∧ v = .agg (zs.map fun z => Value.int k z).toArray ∧ ∀ z ∈ zs, (Lit.int k z).wf = true := by
  obtain ⟨cs, rfl, hs⟩ := okWide_array ht hv
  obtain ⟨fuel, hf⟩ := h
  obtain ⟨xs, m, _, _, hl, hxl, hall⟩ := DataW.trod_array ht hf
  have hcs : ((Value.agg cs).cells).toList = cs.toList := rfl
  rw [hcs] at hl hall
  have one : ∀ i, i < n → ∃ z, cs.toList[i]? = some (.int k z) ∧ (Lit.int k z).wf = true := fun i hi => by
    have h1 := hall i hi
    rw [hce, Nat.mul_one, List.getElem?_eq_getElem (by omega)] at h1
    obtain ⟨z, hz, _, wz⟩ := DataW.trod_int he h1
    refine ⟨z, ?_, wz⟩
    have := congrArg (·[0]?) hz
    simpa [List.getElem?_take, List.getElem?_drop] using this
  have hlen : cs.toList.length = n := by rw [hl, hct]
  refine ⟨cs.toList.map numOf, by simpa using hlen, ?_, fun z hz => ?_⟩
  · congr 1
    have : cs.toList = (cs.toList.map numOf).map fun z => Value.int k z := by
      apply List.ext_getElem?
      intro i
      by_cases hi : i < n
      · obtain ⟨z, h1, _⟩ := one i hi
        simp only [List.getElem?_map, h1, Option.map_some, numOf]
      · rw [List.getElem?_eq_none (by omega), List.getElem?_eq_none (by simp only [List.length_map]; omega)]
    rw [← this]
  · obtain ⟨v, hv, rfl⟩ := List.mem_map.1 hz
    obtain ⟨i, hi, hiv⟩ := List.getElem_of_mem hv
    obtain ⟨z, h1, h2⟩ := one i (by omega)
    rw [List.getElem?_eq_getElem hi, hiv] at h1
    injection h1 with h1
    subst h1
    exact h2
theorem bounds_u32' {n : Int} (h : (Lit.int .u32 n).wf = true) : 0 ≤ n ∧ n ≤ 4294967295 := by
  simpa [Lit.wf, IntKind.min, IntKind.max, IntKind.signed, IntKind.bits] using h
theorem bounds_u8' {n : Int} (h : (Lit.int .u8 n).wf = true) : 0 ≤ n ∧ n ≤ 255 := by
  simpa [Lit.wf, IntKind.min, IntKind.max, IntKind.signed, IntKind.bits] using h
theorem bytes_of {zs : List Int} (h : ∀ z ∈ zs, (Lit.int .u8 z).wf = true) : ∃ xs : List UInt8, xs.length = zs.length ∧ (zs.map fun z => Value.int .u8 z) = bv xs :=
  ⟨zs.map fun z => UInt8.ofNat z.toNat, by simp, by
    unfold bv
    rw [List.map_map]
    refine List.map_congr_left fun z hz => ?_
    have := bounds_u8' (h z hz)
    simp only [Function.comp, UInt8.toNat_ofNat']
    congr 1
    omega⟩
theorem words_of {zs : List Int} (h : ∀ z ∈ zs, (Lit.int .u32 z).wf = true) : ∃ ws : List UInt32, ws.length = zs.length ∧ (zs.map fun z => Value.int .u32 z) = S2.uv ws :=
  ⟨zs.map fun z => UInt32.ofNat z.toNat, by simp, by
    unfold S2.uv
    rw [List.map_map]
    refine List.map_congr_left fun z hz => ?_
    have := bounds_u32' (h z hz)
    simp only [Function.comp, UInt32.toNat_ofNat']
    congr 1
    omega⟩
/-- A state that came in. -/
theorem open_state {H : Type} {enc : TypeId × Value → H} {W : World} {v : Value} {d : DataW H} {p : List MemPlace} {base : Nat}
    (hv : Value.okWide Tryd.prog W .any base 28 v) (h : DataW.Trod enc Tryd.prog W 0 (fun _ => true) true 28 v d p) : ∃ s : S2.St, v = .agg (S2.sA s) := by
  obtain ⟨zs, hl, rfl, hw⟩ := open_array Tryd.underlying28 Tryd.underlying27 (by kernel_rfl) (by kernel_rfl) hv h
  obtain ⟨ws, hwl, e⟩ := words_of hw
  rw [e]
  rw [hl] at hwl
  match ws, hwl with
  | [a, b, c, d, e, f, g, h], _ => exact ⟨⟨a, b, c, d, e, f, g, h⟩, rfl⟩
/-- A block that came in. -/
theorem open_block {H : Type} {enc : TypeId × Value → H} {W : World} {v : Value} {d : DataW H} {p : List MemPlace} {base : Nat}
    (hv : Value.okWide Tryd.prog W .any base 29 v) (h : DataW.Trod enc Tryd.prog W 0 (fun _ => true) true 29 v d p) : ∃ xs : List UInt8, v = .agg (bv xs).toArray ∧ xs.length = 64 := by
  obtain ⟨zs, hl, rfl, hw⟩ := open_array Tryd.underlying29 Tryd.underlying5 (by kernel_rfl) (by kernel_rfl) hv h
  obtain ⟨xs, hxl, e⟩ := bytes_of hw
  rw [e]
  exact ⟨xs, rfl, by omega⟩

/-- What the rows list. -/
abbrev laidL : List (String × DataW Unit) := [("tearoff/sha2.start", Rows.laid_tearoff_sha2_start), ("tearoff/sha2.rounds", Rows.laid_tearoff_sha2_rounds)]
theorem cells_of_reads {P : Program} {W : World} {name : String} {k : IntKind} {zs : List Int} {g : Nat} {t e : TypeId} {n : Nat} (h : Lib.VarReads P W name (Lib.tabData k zs))
    (hg : P.globalNamed name = some g) (hty : (P.globals[g]?).map (·.type) = some t) (ht : P.underlying t = some (.array n e)) (he : P.underlying e = some (.int k)) (hce : P.cellsOf e = 1) (hct : P.cellsOf t = n) :
    ∀ i, i < zs.length → W.cell? ⟨g, i, none⟩ = some (.int k (zs.getD i 0)) := by
  obtain ⟨g', t', cs, fuel, p, h1, h2, h3, h4⟩ := h
  obtain rfl := Option.some.inj (hg.symm.trans h1)
  obtain rfl := Option.some.inj (hty.symm.trans h2)
  have e := Lib.cells_of_tab ht he hce hct h4
  have hT : Lib.TabIs P W name k zs := by
    unfold Lib.TabIs
    rw [h3, ← e]
  exact hT.cell hg
theorem kN_word2 : ∀ z ∈ S2.kN, ((UInt32.ofNat z.toNat).toNat : Int) = z := by decide +kernel
theorem kN_get (i : Nat) (h : i < 64) : Value.int .u32 (S2.kN.getD i 0) = .int .u32 ((S2.kT.getD i 0).toNat : Int) := by
  have h1 : i < S2.kN.length := h
  have := kN_word2 S2.kN[i] (List.getElem_mem h1)
  simp only [S2.kT, List.getD, List.getElem?_map, List.getElem?_eq_getElem h1, Option.map_some, Option.getD_some]
  rw [this]
theorem gok_of_laid {W : World} (h : laidMetH Tryd.prog laidL W) : S2.GOk W := by
  rw [MakeChecks.laidMetH_plain _ _ _ (by kernel_rfl)] at h
  have h1 : Lib.VarReads Tryd.prog W "tearoff/sha2.start" (Lib.tabData .u32 [1779033703, 3144134277, 1013904242, 2773480762, 1359893119, 2600822924, 528734635, 1541459225]) := Lib.laidMet.reads h (.head _)
  have h2 : Lib.VarReads Tryd.prog W "tearoff/sha2.rounds" (Lib.tabData .u32 S2.kN) := Lib.laidMet.reads h (.tail _ (.head _))
  refine ⟨fun i hi => ?_, fun i hi => ?_⟩
  · rw [← kN_get i hi]
    exact cells_of_reads (g := 0) (t := 43) h2 (by kernel_rfl) (by kernel_rfl) Tryd.underlying43 Tryd.underlying27 (by kernel_rfl) (by kernel_rfl) i hi
  · have := cells_of_reads (g := 1) (t := 28) h1 (by kernel_rfl) (by kernel_rfl) Tryd.underlying28 Tryd.underlying27 (by kernel_rfl) (by kernel_rfl) i hi
    refine this.trans ?_
    match i, hi with
    | 0, _ | 1, _ | 2, _ | 3, _ | 4, _ | 5, _ | 6, _ | 7, _ => rfl
end Go.Proofs.YtfgpahenacgmdaaDoor
