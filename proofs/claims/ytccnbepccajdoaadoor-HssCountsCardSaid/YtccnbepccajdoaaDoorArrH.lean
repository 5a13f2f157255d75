/-
  What the listed variables hold, for the statements of layer 13: the tables of sets and of digits.
-/
import Derived.Test.YtccnbepccajdoaaDoorOpenA
import Derived.Test.YtccnbepccajdoaaDoorSetM
import Derived.Lib.LaidU8
import Derived.Lay
import Derived.SevenTiedAt
import Derived.ChangeSame
import Derived.Test.YtccnbepccajdoaaDoorTie
namespace Go.Proofs.YtccnbepccajdoaaDoor
set_option linter.unusedSimpArgs false
set_option linter.unusedVariables false
open Go.ChangeShapes Go.WideShapes Go.ChangeAt Go.RowKit

/-- What the rows list. -/
abbrev laidL : List (String × DataW Unit) := [("tearoff/digits.widths", Rows.laid_tearoff_digits_widths), ("tearoff/sets.sums", Rows.laid_tearoff_sets_sums), ("tearoff/sets.widths", Rows.laid_tearoff_sets_widths), ("tearoff/sets.heights", Rows.laid_tearoff_sets_heights), ("tearoff/sets.lowHeights", Rows.laid_tearoff_sets_lowHeights)]
theorem cells_of_reads {P : Program} {W : World} {name : String} {k : IntKind} {zs : List Int} {g : Nat} {t e : TypeId} {n : Nat} (h : Lib.VarReads P W name (Lib.tabData k zs))
    (hg : P.globalNamed name = some g) (hty : (P.globals[g]?).map (·.type) = some t) (ht : P.underlying t = some (.array n e)) (he : P.underlying e = some (.int k)) (hce : P.cellsOf e = 1) (hct : P.cellsOf t = n) :
    ∀ i, i < zs.length → W.cell? ⟨g, i, none⟩ = some (.int k (zs.getD i 0)) := by
  obtain ⟨g', t', cs, fuel, p, h1, h2, h3, h4⟩ := h
  obtain rfl := Option.some.inj (hg.symm.trans h1)
  obtain rfl := Option.some.inj (hty.symm.trans h2)
  have e := Lib.cells_of_tab ht he hce hct h4
  have hT : Lib.TabIs P W name k zs := by
    unfold Lib.TabIs
    rw [h3, ← e]
  exact hT.cell hg
theorem lt_of_cell {W : World} {g i : Nat} {v : Value} (h : W.cell? ⟨g, i, none⟩ = some v) : g < W.heap.size := by
  apply Classical.byContradiction
  intro h9
  simp [World.cell?, Array.getElem?_eq_none (show W.heap.size ≤ g by omega)] at h
/-- A table of pairs, as a row lists it. -/
def tabData2 {H : Type} (k : IntKind) (zs : List (Int × Int)) : DataW H := .agg (zs.map fun z => .agg [.lit (.int k z.1), .lit (.int k z.2)])
theorem cells_of_tab2 {H : Type} {enc : TypeId × Value → H} {P : Program} {w : World} {base : Nat} {sp : Nat → Bool} {held : Bool} {fuel : Nat} {t e : TypeId} {n : Nat} {k : IntKind} {cs : List Value} {zs : List (Int × Int)} {p : List MemPlace} {f0 f1 : Field}
    (ht : P.underlying t = some (.array n e)) (he : P.underlying e = some (.struct #[f0, f1])) (h0 : P.underlying f0.type = some (.int k)) (h1 : P.underlying f1.type = some (.int k)) (o0 : f0.offset = 0) (o1 : f1.offset = 1) (c0 : P.cellsOf f0.type = 1) (c1 : P.cellsOf f1.type = 1)
    (hce : P.cellsOf e = 2) (hct : P.cellsOf t = n * 2) (h : DataW.trod enc P w base sp held fuel t cs = some (tabData2 k zs, p)) : ∀ (i : Nat) (z : Int × Int), zs[i]? = some z → cs[2 * i]? = some (.int k z.1) ∧ cs[2 * i + 1]? = some (.int k z.2) := by
  cases fuel with
  | zero => simp [DataW.trod] at h
  | succ fuel =>
    simp only [DataW.trod, ht, hce, hct] at h
    split at h
    · rename_i hl
      obtain ⟨xs, hm, hx⟩ := Option.map_eq_some_iff.1 h
      have hxs : xs.map (·.1) = zs.map fun z => (DataW.agg [.lit (.int k z.1), .lit (.int k z.2)] : DataW H) := by
        have := congrArg Prod.fst hx
        simpa [tabData2] using this
      have hxl : xs.length = n := by simpa using Lib.mapM_length hm
      have hzl : zs.length = n := by
        have := congrArg List.length hxs
        simp at this
        omega
      intro i z hz
      have hi : i < n := by
        have := (List.getElem?_eq_some_iff.1 hz).1
        omega
      obtain ⟨b, hb, hf⟩ := Lib.mapM_at hm i i (by simp [hi])
      have h2 : (xs.map (·.1))[i]? = some b.1 := by simp [hb]
      rw [hxs] at h2
      simp only [List.getElem?_map, hz, Option.map_some, Option.some.injEq] at h2
      obtain ⟨y0, y1, m, rfl, _, hy0, hy1⟩ := trod_struct2 he hf
      obtain ⟨a0, ha0, rfl, _⟩ := DataW.trod_int h0 hy0
      obtain ⟨a1, ha1, rfl, _⟩ := DataW.trod_int h1 hy1
      simp only [DataW.agg.injEq, List.cons.injEq, DataW.lit.injEq, Lit.int.injEq, true_and, and_true] at h2
      rw [o0, c0] at ha0
      rw [o1, c1] at ha1
      have q0 := congrArg (·[0]?) ha0
      have q1 := congrArg (·[0]?) ha1
      simp [List.getElem?_take, List.getElem?_drop] at q0 q1
      rw [h2.1, h2.2]
      exact ⟨by rw [Nat.mul_comm]; exact q0, by rw [Nat.mul_comm]; exact q1⟩
    · cases h
theorem cells_of_reads2 {P : Program} {W : World} {name : String} {k : IntKind} {zs : List (Int × Int)} {g : Nat} {t e : TypeId} {n : Nat} {f0 f1 : Field} (h : Lib.VarReads P W name (tabData2 k zs))
    (hg : P.globalNamed name = some g) (hty : (P.globals[g]?).map (·.type) = some t) (ht : P.underlying t = some (.array n e)) (he : P.underlying e = some (.struct #[f0, f1])) (h0 : P.underlying f0.type = some (.int k)) (h1 : P.underlying f1.type = some (.int k)) (o0 : f0.offset = 0) (o1 : f1.offset = 1) (c0 : P.cellsOf f0.type = 1) (c1 : P.cellsOf f1.type = 1)
    (hce : P.cellsOf e = 2) (hct : P.cellsOf t = n * 2) : ∀ (i : Nat) (z : Int × Int), zs[i]? = some z → W.cell? ⟨g, 2 * i, none⟩ = some (.int k z.1) ∧ W.cell? ⟨g, 2 * i + 1, none⟩ = some (.int k z.2) := by
  obtain ⟨g', t', cs, fuel, p, q1, q2, q3, q4⟩ := h
  obtain rfl := Option.some.inj (hg.symm.trans q1)
  obtain rfl := Option.some.inj (hty.symm.trans q2)
  have e := cells_of_tab2 ht he h0 h1 o0 o1 c0 c1 hce hct q4
  intro i z hz
  have r := e i z hz
  have s0 := World.var?_cell hg q3 (2 * i)
  have s1 := World.var?_cell hg q3 (2 * i + 1)
  exact ⟨s0.trans (by simpa using r.1), s1.trans (by simpa using r.2)⟩
theorem gok_of_laid {W : World} (h : laidMetH Tryd.prog laidL W) : S8.S0.ok W := by
  rw [MakeChecks.laidMetH_plain _ _ _ (by kernel_rfl)] at h
  have h1 : Lib.VarReads Tryd.prog W "tearoff/digits.widths" (Lib.tabData .i64 [1, 2, 4, 8]) := Lib.laidMet.reads h (.head _)
  have h2 : Lib.VarReads Tryd.prog W "tearoff/sets.sums" (tabData2 .i64 [(0, 32), (0, 24), (1, 32), (1, 24)]) := Lib.laidMet.reads h (.tail _ (.head _))
  have h3 : Lib.VarReads Tryd.prog W "tearoff/sets.widths" (Lib.tabData .i64 [1, 2, 4, 8]) := Lib.laidMet.reads h (.tail _ (.tail _ (.head _)))
  have h4 : Lib.VarReads Tryd.prog W "tearoff/sets.heights" (Lib.tabData .i64 [5, 10, 15, 20, 25]) := Lib.laidMet.reads h (.tail _ (.tail _ (.tail _ (.head _))))
  have h5 : Lib.VarReads Tryd.prog W "tearoff/sets.lowHeights" (Lib.tabData .i64 [1, 2, 3, 4]) := Lib.laidMet.reads h (.tail _ (.tail _ (.tail _ (.tail _ (.head _)))))
  have g1 : S7.WOk W := fun i hi => by
    have := cells_of_reads (g := 4) (t := 90) h1 (by kernel_rfl) (by kernel_rfl) Tryd.underlying90 Tryd.underlying3 (by kernel_rfl) (by kernel_rfl) i hi
    exact ⟨this, lt_of_cell this⟩
  have r2 := cells_of_reads2 (g := 3) (t := 94) h2 (by kernel_rfl) (by kernel_rfl) Tryd.underlying94 Tryd.underlying86 Tryd.underlying3 Tryd.underlying3 rfl rfl (by kernel_rfl) (by kernel_rfl) (by kernel_rfl) (by kernel_rfl)
  have g2 : ∀ i, i < 8 → W.cell? ⟨3, i, none⟩ = some (.int .i64 (([0, 32, 0, 24, 1, 32, 1, 24] : List Int).getD i 0)) := fun i hi => by
    match i, hi with
    | 0, _ => exact (r2 0 _ rfl).1
    | 1, _ => exact (r2 0 _ rfl).2
    | 2, _ => exact (r2 1 _ rfl).1
    | 3, _ => exact (r2 1 _ rfl).2
    | 4, _ => exact (r2 2 _ rfl).1
    | 5, _ => exact (r2 2 _ rfl).2
    | 6, _ => exact (r2 3 _ rfl).1
    | 7, _ => exact (r2 3 _ rfl).2
  refine ⟨⟨fun i hi => ⟨g2 i hi, lt_of_cell (g2 i hi)⟩, fun i hi => ?_, fun i hi => ?_, fun i hi => ?_⟩, g1⟩
  · have := cells_of_reads (g := 2) (t := 90) h3 (by kernel_rfl) (by kernel_rfl) Tryd.underlying90 Tryd.underlying3 (by kernel_rfl) (by kernel_rfl) i hi
    exact ⟨this, lt_of_cell this⟩
  · have := cells_of_reads (g := 0) (t := 89) h4 (by kernel_rfl) (by kernel_rfl) Tryd.underlying89 Tryd.underlying3 (by kernel_rfl) (by kernel_rfl) i hi
    exact ⟨this, lt_of_cell this⟩
  · have := cells_of_reads (g := 1) (t := 90) h5 (by kernel_rfl) (by kernel_rfl) Tryd.underlying90 Tryd.underlying3 (by kernel_rfl) (by kernel_rfl) i hi
    exact ⟨this, lt_of_cell this⟩
end Go.Proofs.YtccnbepccajdoaaDoor
