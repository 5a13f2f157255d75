/-
  What the listed variables hold: the constants of layers 2 and 3, for the statements of layer 6.
-/
import Derived.Test.YtjgcaodicbikiaaDoorOpen
import Derived.Test.YtjgcaodicbikiaaDoorHash2
import Derived.Test.YtjgcaodicbikiaaDoorHash2V
import Derived.Test.YtjgcaodicbikiaaDoorMacM
import Derived.Lib.LaidU8
import Derived.Lay
import Derived.SevenTiedAt
import Derived.Test.YtjgcaodicbikiaaDoorTie
namespace Go.Proofs.YtjgcaodicbikiaaDoor
set_option linter.unusedSimpArgs false
set_option linter.unusedVariables false
open Go.ChangeShapes Go.WideShapes Go.ChangeAt Go.RowKit

/-- What the rows list. -/
abbrev laidL : List (String × DataW Unit) := [("tearoff/sha2.start", Rows.laid_tearoff_sha2_start), ("tearoff/sha2.rounds", Rows.laid_tearoff_sha2_rounds), ("tearoff/sha5.start", Rows.laid_tearoff_sha5_start), ("tearoff/sha5.rounds", Rows.laid_tearoff_sha5_rounds)]
theorem cells_of_reads {P : Program} {W : World} {name : String} {k : IntKind} {zs : List Int} {g : Nat} {t e : TypeId} {n : Nat} (h : Lib.VarReads P W name (Lib.tabData k zs))
    (hg : P.globalNamed name = some g) (hty : (P.globals[g]?).map (·.type) = some t) (ht : P.underlying t = some (.array n e)) (he : P.underlying e = some (.int k)) (hce : P.cellsOf e = 1) (hct : P.cellsOf t = n) :
    ∀ i, i < zs.length → W.cell? ⟨g, i, none⟩ = some (.int k (zs.getD i 0)) := by
  obtain ⟨g', t', cs, fuel, p, h1, h2, h3, h4⟩ := h
  obtain rfl := Option.some.inj (hg.symm.trans h1)
  obtain rfl := Option.some.inj (hty.symm.trans h2)
  have e := Lib.cells_of_tab ht he hce hct h4
  have hT : Lib.TabIs P W name k zs := by
    unfold Lib.TabIs
    rw [h3, ← e]
  exact hT.cell hg
theorem kN_word2 : ∀ z ∈ S2.kN, ((UInt32.ofNat z.toNat).toNat : Int) = z := by decide +kernel
theorem kN_get (i : Nat) (h : i < 64) : Value.int .u32 (S2.kN.getD i 0) = .int .u32 ((S2.kT.getD i 0).toNat : Int) := by
  have h1 : i < S2.kN.length := h
  have := kN_word2 S2.kN[i] (List.getElem_mem h1)
  simp only [S2.kT, List.getD, List.getElem?_map, List.getElem?_eq_getElem h1, Option.map_some, Option.getD_some]
  rw [this]
theorem gok2_of_laid {W : World} (h : laidMetH Tryd.prog laidL W) : S2.GOk W := by
  rw [MakeChecks.laidMetH_plain _ _ _ (by kernel_rfl)] at h
  have h1 : Lib.VarReads Tryd.prog W "tearoff/sha2.start" (Lib.tabData .u32 [1779033703, 3144134277, 1013904242, 2773480762, 1359893119, 2600822924, 528734635, 1541459225]) := Lib.laidMet.reads h (.head _)
  have h2 : Lib.VarReads Tryd.prog W "tearoff/sha2.rounds" (Lib.tabData .u32 S2.kN) := Lib.laidMet.reads h (.tail _ (.head _))
  refine ⟨fun i hi => ?_, fun i hi => ?_⟩
  · rw [← kN_get i hi]
    exact cells_of_reads (g := 2) (t := 67) h2 (by kernel_rfl) (by kernel_rfl) Tryd.underlying67 Tryd.underlying52 (by kernel_rfl) (by kernel_rfl) i hi
  · have := cells_of_reads (g := 0) (t := 53) h1 (by kernel_rfl) (by kernel_rfl) Tryd.underlying53 Tryd.underlying52 (by kernel_rfl) (by kernel_rfl) i hi
    refine this.trans ?_
    match i, hi with
    | 0, _ | 1, _ | 2, _ | 3, _ | 4, _ | 5, _ | 6, _ | 7, _ => rfl
theorem kN5_word2 : ∀ z ∈ S5.kN, ((UInt64.ofNat z.toNat).toNat : Int) = z := by decide +kernel
theorem kN5_get (i : Nat) (h : i < 80) : Value.int .u64 (S5.kN.getD i 0) = .int .u64 ((S5.kT.getD i 0).toNat : Int) := by
  have h1 : i < S5.kN.length := h
  have := kN5_word2 S5.kN[i] (List.getElem_mem h1)
  simp only [S5.kT, List.getD, List.getElem?_map, List.getElem?_eq_getElem h1, Option.map_some, Option.getD_some]
  rw [this]
theorem gok5_of_laid {W : World} (h : laidMetH Tryd.prog laidL W) : S5.GOk W := by
  rw [MakeChecks.laidMetH_plain _ _ _ (by kernel_rfl)] at h
  have h1 : Lib.VarReads Tryd.prog W "tearoff/sha5.start" (Lib.tabData .u64 [7640891576956012808, 13503953896175478587, 4354685564936845355, 11912009170470909681, 5840696475078001361, 11170449401992604703, 2270897969802886507, 6620516959819538809]) := Lib.laidMet.reads h (.tail _ (.tail _ (.head _)))
  have h2 : Lib.VarReads Tryd.prog W "tearoff/sha5.rounds" (Lib.tabData .u64 S5.kN) := Lib.laidMet.reads h (.tail _ (.tail _ (.tail _ (.head _))))
  refine ⟨fun i hi => ?_, fun i hi => ?_⟩
  · rw [← kN5_get i hi]
    exact cells_of_reads (g := 3) (t := 70) h2 (by kernel_rfl) (by kernel_rfl) Tryd.underlying70 Tryd.underlying44 (by kernel_rfl) (by kernel_rfl) i hi
  · have := cells_of_reads (g := 1) (t := 55) h1 (by kernel_rfl) (by kernel_rfl) Tryd.underlying55 Tryd.underlying44 (by kernel_rfl) (by kernel_rfl) i hi
    refine this.trans ?_
    match i, hi with
    | 0, _ | 1, _ | 2, _ | 3, _ | 4, _ | 5, _ | 6, _ | 7, _ => rfl
theorem gok_of_laid {W : World} (h : laidMetH Tryd.prog laidL W) : S6.M0.ok W := ⟨gok2_of_laid h, gok5_of_laid h⟩
end Go.Proofs.YtjgcaodicbikiaaDoor
