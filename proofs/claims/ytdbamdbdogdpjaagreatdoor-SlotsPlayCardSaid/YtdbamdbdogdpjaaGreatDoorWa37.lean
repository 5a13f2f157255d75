/-
  Texts put together: SlM, OpenR, SlWc, SlWPlay, ArrZ. No statement is proved here.
-/
import Derived.Test.YtdbamdbdogdpjaaGreatDoorWa31
import Derived.Test.YtdbamdbdogdpjaaGreatDoorWa34
import Derived.Test.YtdbamdbdogdpjaaGreatDoorWa36
import Derived.Test.YtdbamdbdogdpjaaGreatDoorWa15
import Derived.Deep.Slices
import Derived.Test.YtdbamdbdogdpjaaGreatDoorWa02
import Derived.Test.YtdbamdbdogdpjaaGreatDoorWa23
import Derived.Test.YtdbamdbdogdpjaaGreatDoorWa24
import Derived.Test.YtdbamdbdogdpjaaGreatDoorWa05
import Derived.Lib.LaidU8
import Derived.Lay
import Derived.SevenTiedAt
import Derived.Test.YtdbamdbdogdpjaaGreatDoorTie

/-
  The contracts of the landed packages disk and slots as one.
-/
namespace Go.Proofs.YtdbamdbdogdpjaaGreatDoor.S20
open Go.RowKit S19
/-- What the calls of the landed disk, and of the landed slots, do. -/
def M0 : DC := D0
def C0 : SlC M0 where
  ok := fun w => S2.GOk w
  bel := fun h hb => h.below (Nat.le_refl _) hb
  okM := fun _ => trivial
  Is := Sz
  lt := fun t => t.lt
  keep := fun t hs hk => t.keep hs fun b hb hl => hk b (.inr hb) hl
  room := fun w n _ _ _ => (room_any n w).mono fun _ _ h => ⟨h.1, h.2 ▸ Below.refl _ _⟩
  new := fun N w g D F first n _ tk hm => snew_any N w g D F first n tk hm
  newNot := fun N w g D F first n _ _ _ _ _ tk hm => snewNot_any N w g D F first n tk hm
  now := fun N w s g Z S _ t => (snow_any N w s g Z S t).mono fun _ _ ⟨A, c, h1, h2, h3, h4⟩ => ⟨A, c, h1, h2, fun a _ h => h3 a h, t.grow h4, Mv.of (Nat.le_trans t.sz.2 (Nat.le_of_lt t.sz.1)) h4⟩
  load := fun N w s g D Z F S hg tk ts hFS zo => by
    cases ho : D.off with
    | true => exact load_off N w s g D Z F S tk ts hFS zo ho
    | false => exact load_on N w s g D Z F S hg tk ts hFS zo ho
  save := fun N w s g D Z F S A n c b hg tk ts hFS zo hr hap hc => save_any N w s g D Z F S A n c b hg tk ts hFS zo hr hap hc
end Go.Proofs.YtdbamdbdogdpjaaGreatDoor.S20

/-
  How an argument that came in reads: rows of bytes.
-/
namespace Go.Proofs.YtdbamdbdogdpjaaGreatDoor
set_option linter.unusedSimpArgs false
set_option linter.unusedVariables false
set_option maxRecDepth 4096
open Go.ChangeShapes Go.WideShapes Go.ChangeAt Go.RowKit

theorem add_0 (a : Addr) : a.add 0 = a := by
  obtain ⟨b, o, s⟩ := a
  unfold Addr.add
  split <;> simp_all
theorem bulk_length {H : Type} (l : List (DataW H)) : l.length ≤ Rows.uptoBulkAll l := by
  induction l with
  | nil => simp
  | cons x r ih =>
    have h1 : 1 ≤ Rows.uptoBulk x := by cases x with
      | lit l => cases l <;> simp [Rows.uptoBulk]
      | _ => simp [Rows.uptoBulk]
    simp only [Rows.uptoBulkAll, List.length_cons]; omega
theorem bulk_flat {H : Type} (D : Nat → DataW H) (X : Nat → List UInt8) : ∀ l : List Nat, (∀ i ∈ l, (X i).length ≤ Rows.uptoBulk (D i)) → (l.map X).flatten.length ≤ Rows.uptoBulkAll (l.map D)
  | [], _ => by simp
  | i :: l, h => by
    have h1 := h i (List.mem_cons_self ..)
    have h2 := bulk_flat D X l (fun j hj => h j (List.mem_cons_of_mem _ hj))
    simp only [List.map_cons, List.flatten_cons, List.length_append, Rows.uptoBulkAll]
    omega
/-- A slice of rows of bytes that came in; what it holds weighs at least as much as the rows' bytes. -/
theorem open_rows {H : Type} {enc : TypeId × Value → H} {W : World} {v : Value} {d : DataW H} {p : List MemPlace} {base : Nat}
    (hv : Value.okWide Tryz.prog W .any base 50 v) (h : DataW.Trod enc Tryz.prog W 0 (fun _ => true) true 50 v d p) :
    ∃ y : Option Addr × Nat × Nat × List (List UInt8), v = .slice y.1 y.2.1 y.2.2.1 ∧ RdBs W y.1 y.2.1 y.2.2.1 y.2.2.2 ∧ y.2.2.2.flatten.length ≤ Rows.uptoBulk d := by
  obtain ⟨A, len, cap, rfl⟩ := okWide_slice Tryz.underlying50 hv
  obtain ⟨fuel, hf⟩ := h
  rcases Go.Deep.open_slice Tryz.underlying50 hf with ⟨hcs, _⟩ | ⟨a, l, c, m, n, D, Pl, hcs, _, hl, hm, hmm, hd0, hx⟩
  · simp [Value.cells] at hcs
    obtain ⟨rfl, rfl, rfl⟩ := hcs
    exact ⟨(none, 0, 0, []), rfl, RdBs.nil_ W, by simp⟩
  · simp [Value.cells] at hcs
    obtain ⟨rfl, rfl, rfl⟩ := hcs
    obtain rfl : m = cap := by simpa using hmm
    have hc1 : Tryz.prog.cellsOf 35 = 1 := by kernel_rfl
    rw [hc1] at hx
    obtain ⟨X, hX⟩ := Go.Deep.choose_lt (α := Option Addr × Nat × Nat × List UInt8) (p := fun i y => W.cell? (a.add (i * 1)) = some (.slice y.1 y.2.1 y.2.2.1) ∧ Rd W y.1 y.2.1 y.2.2.1 y.2.2.2 ∧ y.2.2.2.length ≤ Rows.uptoBulk (D i)) (fun i hi => by
      obtain ⟨cs', h1, h2⟩ := hx i hi
      obtain ⟨_, hlen, hcell⟩ := World.cells?_some h1
      have h0 := hcell 0 (by omega)
      rcases open_ints Tryz.underlying35 Tryz.underlying5 (by kernel_rfl) h2 with ⟨hcs, _⟩ | ⟨x, l, c, zs, hcs, _, hl, hm, hz, hD, hc2, hwz⟩
      · subst hcs
        exact ⟨(none, 0, 0, []), by simpa [add_0] using h0, Rd.nil_ W, by simp⟩
      · subst hcs
        obtain ⟨xs, hx⟩ := rd_of_cells hl hm (by simpa using hz) hc2 hwz
        have e : D i = .slice (lits .u8 (zs.take l)) (lits .u8 (zs.drop l)) := congrArg Prod.fst hD
        have hzl : l ≤ zs.length := by rw [hz]; split <;> omega
        refine ⟨(some x, l, c, xs), by simpa [add_0] using h0, hx, ?_⟩
        rw [e]
        have h3 := bulk_length (H := H) (lits .u8 (zs.take l))
        have h4 : (lits (H := H) .u8 (zs.take l)).length = l := by simp [lits]; omega
        have h5 := hx.len
        simp only [Rows.uptoBulk]
        omega)
    refine ⟨(some a, len, m, (List.range len).map fun i => (X i).2.2.2), rfl, ⟨by simp, hl, hm, (fun e => by cases e), fun hn => ?_⟩, ?_⟩
    rotate_left
    · have := bulk_flat D (fun i => (X i).2.2.2) (List.range len) (fun i hi => (hX i (by have := List.mem_range.1 hi; omega)).2.2)
      have e : d = _ := congrArg Prod.fst hd0
      rw [e]
      simp only [Rows.uptoBulk]
      omega
    simp only at hn
    have h0 := (hX 0 (by omega)).1
    obtain ⟨b, off, spot⟩ := a
    have hspot : spot = none := by simpa [Addr.add] using World.cell?_spot h0
    subst hspot
    refine ⟨b, off, rfl, ?_, fun j hj => ?_⟩
    · have := World.block_lt_of_cell? W _ h0
      simpa [Addr.add] using this
    · obtain ⟨h1, h2, _⟩ := hX j (by simp at hj; omega)
      rw [Addr.add_mid, Nat.mul_one] at h1
      have hj' : j < len := by simpa using hj
      refine ⟨_, _, _, h1, ?_⟩
      simpa [List.getElem?_map, List.getElem?_range, hj'] using h2
end Go.Proofs.YtdbamdbdogdpjaaGreatDoor

/-
  How whole numbers, and rows of rows, read. No statement is proved here.
-/
namespace Go.Proofs.YtdbamdbdogdpjaaGreatDoor.S20
set_option linter.unusedSimpArgs false
set_option linter.unusedVariables false
set_option maxRecDepth 4096
open Go.ChangeShapes Go.WideShapes Go.ChangeAt Go.RowKit Go.Joins S19
theorem nat_of_b {n : Int} (h : (Lit.int .u8 n).wf = true) : ∃ m : Nat, n = (m : Int) ∧ m < 256 := by
  have : 0 ≤ n ∧ n ≤ 255 := by simpa [Lit.wf, IntKind.min, IntKind.max, IntKind.signed, IntKind.bits] using h
  exact ⟨n.toNat, by omega, by omega⟩
theorem byte_of_b {n : Int} (h : (Lit.int .u8 n).wf = true) : ∃ m : UInt8, n = (m.toNat : Int) := by
  have : 0 ≤ n ∧ n ≤ 255 := by simpa [Lit.wf, IntKind.min, IntKind.max, IntKind.signed, IntKind.bits] using h
  refine ⟨UInt8.ofNat n.toNat, ?_⟩
  simp
  omega
theorem i64_of_wf {n : Int} (h : (Lit.int .i64 n).wf = true) : -9223372036854775808 ≤ n ∧ n < 9223372036854775808 := by
  have : -9223372036854775808 ≤ n ∧ n ≤ 9223372036854775807 := by simpa [Lit.wf, IntKind.min, IntKind.max, IntKind.signed, IntKind.bits] using h
  omega
theorem open_rows20 {H : Type} {enc : TypeId × Value → H} {W : World} {v : Value} {d : DataW H} {p : List MemPlace} {base : Nat}
    (hv : Value.okWide Tryz.prog W .any base 50 v) (h : DataW.Trod enc Tryz.prog W 0 (fun _ => true) true 50 v d p) :
    ∃ y : Option Addr × Nat × Nat × List (List UInt8), v = .slice y.1 y.2.1 y.2.2.1 ∧ RdBs W y.1 y.2.1 y.2.2.1 y.2.2.2 := by
  obtain ⟨y, h1, h2, _⟩ := open_rows hv h
  exact ⟨y, h1, h2⟩
end Go.Proofs.YtdbamdbdogdpjaaGreatDoor.S20

/-
  The walk of one statement of layer 20, as its frame calls it.
-/
namespace Go.Proofs.YtdbamdbdogdpjaaGreatDoor.S20
set_option linter.unusedSimpArgs false
set_option linter.unusedVariables false
set_option maxRecDepth 4096
open Go.ChangeShapes Go.WideShapes Go.ChangeAt Go.RowKit Go.Joins S19
theorem slotsPlay_frame (W : World) (hk : C0.ok W) (a : Int) (wa : (Lit.int .u8 a).wf = true) (b : Int) (wb : (Lit.int .u8 b).wf = true) (v : Value) (y : Option Addr × Nat × Nat × List AcW) (o : v = .slice y.1 y.2.1 y.2.2.1 ∧ RW W y.1 y.2.1 y.2.2.1 y.2.2.2) :
    Calls Tryz.prog 3 #[.int .u8 a, .int .u8 b, v] W fun e w' => e = .returned (.bool true) ∧ Below W.heap.size W w' := by
  obtain ⟨n, rfl, hn⟩ := nat_of_b wa
  obtain ⟨m, rfl, hm⟩ := nat_of_b wb
  obtain ⟨rfl, h⟩ := o
  exact slotsPlay_walk M0 C0 W hk n m hn hm _ _ _ _ h
end Go.Proofs.YtdbamdbdogdpjaaGreatDoor.S20

/-
  What the listed variables hold: the constants of layer 2, for the statements of layer 20.
-/
namespace Go.Proofs.YtdbamdbdogdpjaaGreatDoor
set_option linter.unusedSimpArgs false
set_option linter.unusedVariables false
open Go.ChangeShapes Go.WideShapes Go.ChangeAt Go.RowKit

/-- What the rows list. -/
abbrev laidL : List (String × DataW Unit) := [("tearoff/sha2.start", Rows.laid_tearoff_sha2_start), ("tearoff/sha2.rounds", Rows.laid_tearoff_sha2_rounds)]
theorem cells_of_reads {P : Program} {W : World} {name : String} {k : IntKind} {zs : List Int} {g : Nat} {t e : TypeId} {n : Nat} (h : Lib.VarReads P W name (Lib.tabData k zs))
    (hg : P.globalNamed name = some g) (hty : (P.globals[g]?).map (·.type) = some t) (ht : P.underlying t = some (.array n e)) (he : P.underlying e = some (.int k)) (hce : P.cellsOf e = 1) (hct : P.cellsOf t = n) :
    ∀ i, i < zs.length → W.cell? ⟨g, i, none⟩ = some (.int k (zs.getD i 0)) := by
  obtain ⟨g', t', cs, fuel, p, h1, h2, h3, h4⟩ := h
  obtain rfl := Option.some.inj (hg.symm.trans h1)
  obtain rfl := Option.some.inj (hty.symm.trans h2)
  have e := Lib.cells_of_tab ht he hce hct h4
  have hT : Lib.TabIs P W name k zs := by
    unfold Lib.TabIs
    rw [h3, ← e]
  exact hT.cell hg
theorem kN_word2 : ∀ z ∈ S2.kN, ((UInt32.ofNat z.toNat).toNat : Int) = z := by decide +kernel
theorem kN_get (i : Nat) (h : i < 64) : Value.int .u32 (S2.kN.getD i 0) = .int .u32 ((S2.kT.getD i 0).toNat : Int) := by
  have h1 : i < S2.kN.length := h
  have := kN_word2 S2.kN[i] (List.getElem_mem h1)
  simp only [S2.kT, List.getD, List.getElem?_map, List.getElem?_eq_getElem h1, Option.map_some, Option.getD_some]
  rw [this]
theorem gok_of_laid {W : World} (h : laidMetH Tryz.prog laidL W) : S2.GOk W := by
  rw [MakeChecks.laidMetH_plain _ _ _ (by kernel_rfl)] at h
  have h1 : Lib.VarReads Tryz.prog W "tearoff/sha2.start" (Lib.tabData .u32 [1779033703, 3144134277, 1013904242, 2773480762, 1359893119, 2600822924, 528734635, 1541459225]) := Lib.laidMet.reads h (.head _)
  have h2 : Lib.VarReads Tryz.prog W "tearoff/sha2.rounds" (Lib.tabData .u32 S2.kN) := Lib.laidMet.reads h (.tail _ (.head _))
  refine ⟨fun i hi => ?_, fun i hi => ?_⟩
  · rw [← kN_get i hi]
    exact cells_of_reads (g := 1) (t := 141) h2 (by kernel_rfl) (by kernel_rfl) Tryz.underlying141 Tryz.underlying124 (by kernel_rfl) (by kernel_rfl) i hi
  · have := cells_of_reads (g := 0) (t := 125) h1 (by kernel_rfl) (by kernel_rfl) Tryz.underlying125 Tryz.underlying124 (by kernel_rfl) (by kernel_rfl) i hi
    refine this.trans ?_
    match i, hi with
    | 0, _ | 1, _ | 2, _ | 3, _ | 4, _ | 5, _ | 6, _ | 7, _ => rfl
end Go.Proofs.YtdbamdbdogdpjaaGreatDoor
