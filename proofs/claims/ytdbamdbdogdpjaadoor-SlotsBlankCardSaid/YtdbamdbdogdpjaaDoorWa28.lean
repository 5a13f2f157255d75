/-
  Texts put together: SlM, SlO, OpenR, SlWc, SlWAreas, ArrZ, SlL1. No statement is proved here.
-/
import Derived.Test.YtdbamdbdogdpjaaDoorWa22
import Derived.Test.YtdbamdbdogdpjaaDoorWa25
import Derived.Test.YtdbamdbdogdpjaaDoorWa27
import Derived.Test.YtdbamdbdogdpjaaDoorWa12
import Derived.Test.YtdbamdbdogdpjaaDoorWa05
import Derived.Deep.Slices
import Derived.Test.YtdbamdbdogdpjaaDoorWa02
import Derived.Test.YtdbamdbdogdpjaaDoorWa15
import Derived.Lib.LaidU8
import Derived.Lay
import Derived.SevenTiedAt
import Derived.Test.YtdbamdbdogdpjaaDoorTie

/-
  The contracts of the landed packages disk and slots as one.
-/
namespace Go.Proofs.YtdbamdbdogdpjaaDoor.S20
open Go.RowKit S19
/-- What the calls of the landed disk, and of the landed slots, do. -/
def M0 : DC := D0
def C0 : SlC M0 where
  ok := fun w => S2.GOk w
  bel := fun h hb => h.below (Nat.le_refl _) hb
  okM := fun _ => trivial
  Is := Sz
  lt := fun t => t.lt
  keep := fun t hs hk => t.keep hs fun b hb hl => hk b (.inr hb) hl
  room := fun w n _ _ _ => (room_any n w).mono fun _ _ h => ⟨h.1, h.2 ▸ Below.refl _ _⟩
  new := fun N w g D F first n _ tk hm => snew_any N w g D F first n tk hm
  newNot := fun N w g D F first n _ _ _ _ _ tk hm => snewNot_any N w g D F first n tk hm
  now := fun N w s g Z S _ t => (snow_any N w s g Z S t).mono fun _ _ ⟨A, c, h1, h2, h3, h4⟩ => ⟨A, c, h1, h2, fun a _ h => h3 a h, t.grow h4, Mv.of (Nat.le_trans t.sz.2 (Nat.le_of_lt t.sz.1)) h4⟩
  load := fun N w s g D Z F S hg tk ts hFS zo => by
    cases ho : D.off with
    | true => exact load_off N w s g D Z F S tk ts hFS zo ho
    | false => exact load_on N w s g D Z F S hg tk ts hFS zo ho
  save := fun N w s g D Z F S A n c b hg tk ts hFS zo hr hap hc => save_any N w s g D Z F S A n c b hg tk ts hFS zo hr hap hc
end Go.Proofs.YtdbamdbdogdpjaaDoor.S20

/-
  How the steps of layer 20's statements read, which came in. No statement is proved here.
-/
namespace Go.Proofs.YtdbamdbdogdpjaaDoor.S20
set_option linter.unusedSimpArgs false
set_option linter.unusedVariables false
set_option maxRecDepth 4096
open Go.ChangeShapes Go.WideShapes Go.ChangeAt Go.RowKit Go.Joins S19

/-- A step, as it came in. -/
structure AcW where
  kd : Int
  ii : Int
  ba : Option Addr
  bn : Nat
  bc : Nat
  b : List UInt8
  ca : Option Addr
  cn : Nat
  cc : Nat
  ch : List UInt8
  fa : Option Addr
  fn : Nat
  fc : Nat
  fs : List Int
  st : Int
instance : Inhabited AcW := ⟨⟨0, 0, none, 0, 0, [], none, 0, 0, [], none, 0, 0, [], 0⟩⟩
def AcW.cells (a : AcW) : List Value := [.int .i64 a.kd, .int .i64 a.ii, .slice a.ba a.bn a.bc, .slice a.ca a.cn a.cc, .slice a.fa a.fn a.fc, .int .i64 a.st]
structure AcW.Ok (W : World) (a : AcW) : Prop where
  b : Rd W a.ba a.bn a.bc a.b
  ch : Rd W a.ca a.cn a.cc a.ch
  fs : RI W .i64 a.fa a.fn a.fc a.fs
  hi : -9223372036854775808 ≤ a.ii ∧ a.ii < 9223372036854775808
/-- A row of steps. -/
structure RW (W : World) (A : Option Addr) (n c : Nat) (xs : List AcW) : Prop where
  len : xs.length = n
  cap : n ≤ c
  max : c ≤ maxLen
  nil : A = none → c = 0
  at_ : 0 < n → ∃ b off, A = some ⟨b, off, none⟩ ∧ b < W.heap.size ∧ ∀ j, j < n → (xs.getD j default).Ok W ∧ ∀ q, q < 6 → W.cell? ⟨b, off + j * 6 + q, none⟩ = (xs.getD j default).cells[q]?
theorem trod_struct5' {H : Type} {enc : TypeId × Value → H} {P : Program} {w : World} {base : Nat} {spare : Nat → Bool} {held : Bool} {t : TypeId} {f0 f1 f2 f3 f4 : Field} {fuel : Nat} {cs : List Value} {x : DataW H × List MemPlace} (ht : P.underlying t = some (.struct #[f0, f1, f2, f3, f4])) (h : DataW.trod enc P w base spare held fuel t cs = some x) :
    ∃ y0 y1 y2 y3 y4 n, cs.length = P.cellsOf t ∧ DataW.trod enc P w base spare held n f0.type ((cs.drop f0.offset).take (P.cellsOf f0.type)) = some y0 ∧
      DataW.trod enc P w base spare held n f1.type ((cs.drop f1.offset).take (P.cellsOf f1.type)) = some y1 ∧ DataW.trod enc P w base spare held n f2.type ((cs.drop f2.offset).take (P.cellsOf f2.type)) = some y2 ∧
      DataW.trod enc P w base spare held n f3.type ((cs.drop f3.offset).take (P.cellsOf f3.type)) = some y3 ∧ DataW.trod enc P w base spare held n f4.type ((cs.drop f4.offset).take (P.cellsOf f4.type)) = some y4 := by
  obtain ⟨xs, n, _, rfl, hl, hlen, hf⟩ := DataW.trod_struct ht h
  match xs, hlen with
  | [y0, y1, y2, y3, y4], _ => exact ⟨y0, y1, y2, y3, y4, n, hl, by simpa using hf 0 f0 rfl, by simpa using hf 1 f1 rfl, by simpa using hf 2 f2 rfl, by simpa using hf 3 f3 rfl, by simpa using hf 4 f4 rfl⟩
end Go.Proofs.YtdbamdbdogdpjaaDoor.S20

/-
  How an argument that came in reads: rows of bytes.
-/
namespace Go.Proofs.YtdbamdbdogdpjaaDoor
set_option linter.unusedSimpArgs false
set_option linter.unusedVariables false
set_option maxRecDepth 4096
open Go.ChangeShapes Go.WideShapes Go.ChangeAt Go.RowKit

theorem add_0 (a : Addr) : a.add 0 = a := by
  obtain ⟨b, o, s⟩ := a
  unfold Addr.add
  split <;> simp_all
theorem bulk_length {H : Type} (l : List (DataW H)) : l.length ≤ Rows.uptoBulkAll l := by
  induction l with
  | nil => simp
  | cons x r ih =>
    have h1 : 1 ≤ Rows.uptoBulk x := by cases x with
      | lit l => cases l <;> simp [Rows.uptoBulk]
      | _ => simp [Rows.uptoBulk]
    simp only [Rows.uptoBulkAll, List.length_cons]; omega
theorem bulk_flat {H : Type} (D : Nat → DataW H) (X : Nat → List UInt8) : ∀ l : List Nat, (∀ i ∈ l, (X i).length ≤ Rows.uptoBulk (D i)) → (l.map X).flatten.length ≤ Rows.uptoBulkAll (l.map D)
  | [], _ => by simp
  | i :: l, h => by
    have h1 := h i (List.mem_cons_self ..)
    have h2 := bulk_flat D X l (fun j hj => h j (List.mem_cons_of_mem _ hj))
    simp only [List.map_cons, List.flatten_cons, List.length_append, Rows.uptoBulkAll]
    omega
/-- A slice of rows of bytes that came in; what it holds weighs at least as much as the rows' bytes. -/
theorem open_rows {H : Type} {enc : TypeId × Value → H} {W : World} {v : Value} {d : DataW H} {p : List MemPlace} {base : Nat}
    (hv : Value.okWide Tryd.prog W .any base 35 v) (h : DataW.Trod enc Tryd.prog W 0 (fun _ => true) true 35 v d p) :
    ∃ y : Option Addr × Nat × Nat × List (List UInt8), v = .slice y.1 y.2.1 y.2.2.1 ∧ RdBs W y.1 y.2.1 y.2.2.1 y.2.2.2 ∧ y.2.2.2.flatten.length ≤ Rows.uptoBulk d := by
  obtain ⟨A, len, cap, rfl⟩ := okWide_slice Tryd.underlying35 hv
  obtain ⟨fuel, hf⟩ := h
  rcases Go.Deep.open_slice Tryd.underlying35 hf with ⟨hcs, _⟩ | ⟨a, l, c, m, n, D, Pl, hcs, _, hl, hm, hmm, hd0, hx⟩
  · simp [Value.cells] at hcs
    obtain ⟨rfl, rfl, rfl⟩ := hcs
    exact ⟨(none, 0, 0, []), rfl, RdBs.nil_ W, by simp⟩
  · simp [Value.cells] at hcs
    obtain ⟨rfl, rfl, rfl⟩ := hcs
    obtain rfl : m = cap := by simpa using hmm
    have hc1 : Tryd.prog.cellsOf 36 = 1 := by kernel_rfl
    rw [hc1] at hx
    obtain ⟨X, hX⟩ := Go.Deep.choose_lt (α := Option Addr × Nat × Nat × List UInt8) (p := fun i y => W.cell? (a.add (i * 1)) = some (.slice y.1 y.2.1 y.2.2.1) ∧ Rd W y.1 y.2.1 y.2.2.1 y.2.2.2 ∧ y.2.2.2.length ≤ Rows.uptoBulk (D i)) (fun i hi => by
      obtain ⟨cs', h1, h2⟩ := hx i hi
      obtain ⟨_, hlen, hcell⟩ := World.cells?_some h1
      have h0 := hcell 0 (by omega)
      rcases open_ints Tryd.underlying36 Tryd.underlying5 (by kernel_rfl) h2 with ⟨hcs, _⟩ | ⟨x, l, c, zs, hcs, _, hl, hm, hz, hD, hc2, hwz⟩
      · subst hcs
        exact ⟨(none, 0, 0, []), by simpa [add_0] using h0, Rd.nil_ W, by simp⟩
      · subst hcs
        obtain ⟨xs, hx⟩ := rd_of_cells hl hm (by simpa using hz) hc2 hwz
        have e : D i = .slice (lits .u8 (zs.take l)) (lits .u8 (zs.drop l)) := congrArg Prod.fst hD
        have hzl : l ≤ zs.length := by rw [hz]; split <;> omega
        refine ⟨(some x, l, c, xs), by simpa [add_0] using h0, hx, ?_⟩
        rw [e]
        have h3 := bulk_length (H := H) (lits .u8 (zs.take l))
        have h4 : (lits (H := H) .u8 (zs.take l)).length = l := by simp [lits]; omega
        have h5 := hx.len
        simp only [Rows.uptoBulk]
        omega)
    refine ⟨(some a, len, m, (List.range len).map fun i => (X i).2.2.2), rfl, ⟨by simp, hl, hm, (fun e => by cases e), fun hn => ?_⟩, ?_⟩
    rotate_left
    · have := bulk_flat D (fun i => (X i).2.2.2) (List.range len) (fun i hi => (hX i (by have := List.mem_range.1 hi; omega)).2.2)
      have e : d = _ := congrArg Prod.fst hd0
      rw [e]
      simp only [Rows.uptoBulk]
      omega
    simp only at hn
    have h0 := (hX 0 (by omega)).1
    obtain ⟨b, off, spot⟩ := a
    have hspot : spot = none := by simpa [Addr.add] using World.cell?_spot h0
    subst hspot
    refine ⟨b, off, rfl, ?_, fun j hj => ?_⟩
    · have := World.block_lt_of_cell? W _ h0
      simpa [Addr.add] using this
    · obtain ⟨h1, h2, _⟩ := hX j (by simp at hj; omega)
      rw [Addr.add_mid, Nat.mul_one] at h1
      have hj' : j < len := by simpa using hj
      refine ⟨_, _, _, h1, ?_⟩
      simpa [List.getElem?_map, List.getElem?_range, hj'] using h2
end Go.Proofs.YtdbamdbdogdpjaaDoor

/-
  How whole numbers, and rows of rows, read. No statement is proved here.
-/
namespace Go.Proofs.YtdbamdbdogdpjaaDoor.S20
set_option linter.unusedSimpArgs false
set_option linter.unusedVariables false
set_option maxRecDepth 4096
open Go.ChangeShapes Go.WideShapes Go.ChangeAt Go.RowKit Go.Joins S19
theorem nat_of_b {n : Int} (h : (Lit.int .u8 n).wf = true) : ∃ m : Nat, n = (m : Int) ∧ m < 256 := by
  have : 0 ≤ n ∧ n ≤ 255 := by simpa [Lit.wf, IntKind.min, IntKind.max, IntKind.signed, IntKind.bits] using h
  exact ⟨n.toNat, by omega, by omega⟩
theorem byte_of_b {n : Int} (h : (Lit.int .u8 n).wf = true) : ∃ m : UInt8, n = (m.toNat : Int) := by
  have : 0 ≤ n ∧ n ≤ 255 := by simpa [Lit.wf, IntKind.min, IntKind.max, IntKind.signed, IntKind.bits] using h
  refine ⟨UInt8.ofNat n.toNat, ?_⟩
  simp
  omega
theorem i64_of_wf {n : Int} (h : (Lit.int .i64 n).wf = true) : -9223372036854775808 ≤ n ∧ n < 9223372036854775808 := by
  have : -9223372036854775808 ≤ n ∧ n ≤ 9223372036854775807 := by simpa [Lit.wf, IntKind.min, IntKind.max, IntKind.signed, IntKind.bits] using h
  omega
theorem open_rows20 {H : Type} {enc : TypeId × Value → H} {W : World} {v : Value} {d : DataW H} {p : List MemPlace} {base : Nat}
    (hv : Value.okWide Tryd.prog W .any base 35 v) (h : DataW.Trod enc Tryd.prog W 0 (fun _ => true) true 35 v d p) :
    ∃ y : Option Addr × Nat × Nat × List (List UInt8), v = .slice y.1 y.2.1 y.2.2.1 ∧ RdBs W y.1 y.2.1 y.2.2.1 y.2.2.2 := by
  obtain ⟨y, h1, h2, _⟩ := open_rows hv h
  exact ⟨y, h1, h2⟩
end Go.Proofs.YtdbamdbdogdpjaaDoor.S20

/-
  The walk of one statement of layer 20, as its frame calls it.
-/
namespace Go.Proofs.YtdbamdbdogdpjaaDoor.S20
set_option linter.unusedSimpArgs false
set_option linter.unusedVariables false
set_option maxRecDepth 4096
open Go.ChangeShapes Go.WideShapes Go.ChangeAt Go.RowKit Go.Joins S19
theorem slotsAreas_frame (W : World) (hk : C0.ok W) (a : Int) (wa : (Lit.int .u8 a).wf = true) (b : Int) (wb : (Lit.int .i64 b).wf = true) (c : Int) (wc : (Lit.int .i64 c).wf = true) :
    Calls Tryd.prog 3 #[.int .u8 a, .int .i64 b, .int .i64 c] W fun e w' => e = .returned (.bool true) ∧ Below W.heap.size W w' := by
  obtain ⟨n, rfl, hn⟩ := nat_of_b wa
  obtain ⟨b1, b2⟩ := i64_of_wf wb
  obtain ⟨c1, c2⟩ := i64_of_wf wc
  exact slotsAreas_walk M0 C0 W hk n hn b c b1 b2 c1 c2
end Go.Proofs.YtdbamdbdogdpjaaDoor.S20

/-
  What the listed variables hold: the constants of layer 2, for the statements of layer 20.
-/
namespace Go.Proofs.YtdbamdbdogdpjaaDoor
set_option linter.unusedSimpArgs false
set_option linter.unusedVariables false
open Go.ChangeShapes Go.WideShapes Go.ChangeAt Go.RowKit

/-- What the rows list. -/
abbrev laidL : List (String × DataW Unit) := [("tearoff/sha2.start", Rows.laid_tearoff_sha2_start), ("tearoff/sha2.rounds", Rows.laid_tearoff_sha2_rounds)]
theorem cells_of_reads {P : Program} {W : World} {name : String} {k : IntKind} {zs : List Int} {g : Nat} {t e : TypeId} {n : Nat} (h : Lib.VarReads P W name (Lib.tabData k zs))
    (hg : P.globalNamed name = some g) (hty : (P.globals[g]?).map (·.type) = some t) (ht : P.underlying t = some (.array n e)) (he : P.underlying e = some (.int k)) (hce : P.cellsOf e = 1) (hct : P.cellsOf t = n) :
    ∀ i, i < zs.length → W.cell? ⟨g, i, none⟩ = some (.int k (zs.getD i 0)) := by
  obtain ⟨g', t', cs, fuel, p, h1, h2, h3, h4⟩ := h
  obtain rfl := Option.some.inj (hg.symm.trans h1)
  obtain rfl := Option.some.inj (hty.symm.trans h2)
  have e := Lib.cells_of_tab ht he hce hct h4
  have hT : Lib.TabIs P W name k zs := by
    unfold Lib.TabIs
    rw [h3, ← e]
  exact hT.cell hg
theorem kN_word2 : ∀ z ∈ S2.kN, ((UInt32.ofNat z.toNat).toNat : Int) = z := by decide +kernel
theorem kN_get (i : Nat) (h : i < 64) : Value.int .u32 (S2.kN.getD i 0) = .int .u32 ((S2.kT.getD i 0).toNat : Int) := by
  have h1 : i < S2.kN.length := h
  have := kN_word2 S2.kN[i] (List.getElem_mem h1)
  simp only [S2.kT, List.getD, List.getElem?_map, List.getElem?_eq_getElem h1, Option.map_some, Option.getD_some]
  rw [this]
theorem gok_of_laid {W : World} (h : laidMetH Tryd.prog laidL W) : S2.GOk W := by
  rw [MakeChecks.laidMetH_plain _ _ _ (by kernel_rfl)] at h
  have h1 : Lib.VarReads Tryd.prog W "tearoff/sha2.start" (Lib.tabData .u32 [1779033703, 3144134277, 1013904242, 2773480762, 1359893119, 2600822924, 528734635, 1541459225]) := Lib.laidMet.reads h (.head _)
  have h2 : Lib.VarReads Tryd.prog W "tearoff/sha2.rounds" (Lib.tabData .u32 S2.kN) := Lib.laidMet.reads h (.tail _ (.head _))
  refine ⟨fun i hi => ?_, fun i hi => ?_⟩
  · rw [← kN_get i hi]
    exact cells_of_reads (g := 1) (t := 112) h2 (by kernel_rfl) (by kernel_rfl) Tryd.underlying112 Tryd.underlying107 (by kernel_rfl) (by kernel_rfl) i hi
  · have := cells_of_reads (g := 0) (t := 108) h1 (by kernel_rfl) (by kernel_rfl) Tryd.underlying108 Tryd.underlying107 (by kernel_rfl) (by kernel_rfl) i hi
    refine this.trans ?_
    match i, hi with
    | 0, _ | 1, _ | 2, _ | 3, _ | 4, _ | 5, _ | 6, _ | 7, _ => rfl
end Go.Proofs.YtdbamdbdogdpjaaDoor

/-
  The walk of layer 20's fifth statement (SlotsFull), over the contracts. No statement is proved here. (Written by gensll1.py.)
-/
namespace Go.Proofs.YtdbamdbdogdpjaaDoor.S20
set_option linter.unusedSimpArgs false
set_option linter.unusedVariables false
set_option maxRecDepth 4096
open Go.RowKit S19

theorem byte_lit (w : World) (b : UInt8) : Rd (w.alloc (.cells #[.int .u8 (b.toNat : Int)] 5)) (some ⟨w.heap.size, 0, none⟩) 1 1 [b] := by
  have := World.ownsRow_lit (base := 0) (e := 5) (size := 1) w #[.int .u8 (b.toNat : Int)] 1 (Nat.zero_le _) (by simp [maxLen]) (by simp)
  exact Rd.own (B := 0) (e := 5) (by simpa [bv] using this)
set_option maxHeartbeats 1000000 in
theorem rfill20 (b : UInt8) (n : Nat) (w : World) (hn : n ≤ 65536) :
    Calls Tryd.prog 21 #[.int .u8 (b.toNat : Int), .int .i64 (n : Int)] w (New w.heap.size w (List.replicate n b)) := by
  go_enter Tryd.func21, Tryd.ntmps21
  go_wp2
  go_loopw [5, 6] (fun out i wr => ∃ k : Nat, k ≤ n ∧ i = .int .i64 (k : Int) ∧ wr.ownsRow w.heap.size 5 1 out k (bv (List.replicate k b)) ∧ Below w.heap.size w wr)
    (fun _ i _ => n - (intOf i).toNat)
  case atStart => exact ⟨0, Nat.zero_le _, rfl, World.ownsRow_nil _ _ _ _, Below.refl _ _⟩
  case round =>
    obtain ⟨k, hk, rfl, hown, hbel⟩ := hrel
    by_cases hlt : k < n
    · have hsz := hbel.size
      have hr := byte_lit wr b
      have hb1 : Below w.heap.size w (wr.alloc (.cells #[.int .u8 (b.toNat : Int)] 5)) := hbel.alloc hsz _
      go_wp2_with (at_builtin; refine append_rd rfl _ _ rfl w.heap.size _ k _ rfl (hown.alloc _) (some ⟨wr.heap.size, 0, none⟩) 1 1 _ rfl hr (by omega) hb1.size ?_; intro v' w1 hown1 hg1)
      go_roundw
      case rel =>
        exact ⟨k + 1, by omega, by go_num, by rw [List.replicate_succ']; exact hown1, hb1.grown hg1 hb1.size (fun g hg => (hown.lt g hg).1)⟩
      case measure => simp [intOf]; omega
    · obtain rfl : k = n := by omega
      go_wp2
      go_ret
      exact New.mk hown hbel
theorem out_of {F S F' S' : Nat → Prop} {n : Nat} {a : Nat} (h : ∀ b, Or2 F' S' b → Or2 F S b ∨ n ≤ b) (ha : a < n) (hn : ¬ Or2 F S a) : ¬ Or2 F' S' a := fun e => by
  rcases h a e with e | e
  · exact hn e
  · omega
theorem full_facts (k : Nat) (h1 : 1 ≤ k) (h8 : k ≤ 8) (b : List UInt8) (hb : b.length = room k) (c : UInt8) : (Sl.new 0 k).Ok (Dk.new (2 * k)) ∧ (Sl.new 0 k).saveC (Dk.new (2 * k)) (b ++ [c]) = 1 ∧ (Sl.new 0 k).saveD (Dk.new (2 * k)) (b ++ [c]) = Dk.new (2 * k) ∧ (Sl.new 0 k).save (Dk.new (2 * k)) (b ++ [c]) = Sl.new 0 k ∧
    (Sl.new 0 k).saveC (Dk.new (2 * k)) b = 0 ∧ (Sl.new 0 k).save (Dk.new (2 * k)) b = ⟨0, k, 0, 1, b⟩ ∧ (⟨0, k, 0, 1, b⟩ : Sl).loadC ((Sl.new 0 k).saveD (Dk.new (2 * k)) b) = 0 ∧ (⟨0, k, 0, 1, b⟩ : Sl).loadB ((Sl.new 0 k).saveD (Dk.new (2 * k)) b) = b ∧ (⟨0, k, 0, 1, b⟩ : Sl).loadN ((Sl.new 0 k).saveD (Dk.new (2 * k)) b) = 1 := by
  have hm : may (Dk.new (2 * k)).sure.length 0 (k : Int) = true := decide_eq_true (by simp [Dk.new]; omega)
  have hZ : (Sl.new 0 k).Ok (Dk.new (2 * k)) := new_ok (first := 0) (n := k) hm
  have hl : room (Sl.new 0 k).n < (b ++ [c]).length := by show room k < _; simp; omega
  have g1 : (Sl.new 0 k).saveC (Dk.new (2 * k)) (b ++ [c]) = 1 := by rw [Sl.saveC, if_pos hl]
  have hbl : b.length ≤ room (Sl.new 0 k).n := by show _ ≤ room k; omega
  obtain ⟨h3, h4, _⟩ := save_calm (Calm.new (2 * k)) rfl hZ hbl
  have ho : (whole ((Sl.new 0 k).area (Dk.new (2 * k)) (1 - (Sl.new 0 k).goes)) (Sl.new 0 k).n).1 ≤ (Sl.new 0 k).num := by
    rw [area_new (k := 2 * k) (Z := Sl.new 0 k) (by show 0 + 2 * k ≤ 2 * k; omega) (by omega), whole_zero]
    exact Nat.zero_le _
  obtain ⟨h5, h6⟩ := load_saved (Calm.new (2 * k)) rfl hZ hbl (by show 0 + 1 < _; omega) ho ⟨0, k, 0, 1, b⟩ ⟨rfl, rfl⟩
  refine ⟨hZ, g1, by rw [Sl.saveD, if_pos hl], by rw [Sl.save, g1, if_neg (by omega)], h3, h4, h5, ?_, ?_⟩
  · rw [Sl.loadB, if_pos h5, h6]
  · rw [Sl.loadN, if_pos h5, h6]; rfl
set_option maxHeartbeats 8000000 in
theorem slotsFull_walk (M : DC) (C : SlC M) (w : World) (hk : C.ok w) (n : Nat) (hn : n < 256) (c : UInt8) : Calls Tryd.prog 6 #[.int .u8 (n : Int), .int .u8 (c.toNat : Int)] w fun e w' => e = .returned (.bool true) ∧ Below w.heap.size w w' := by
  obtain ⟨N, hN⟩ : ∃ N, w.heap.size = N := ⟨_, rfl⟩
  have HN := Lib.hid hN
  have HK := Lib.hid hk
  have OKN := Lib.hid (show ∀ X, Below N w X → C.ok X from fun X hX => C.bel hk (by rw [hN]; exact hX))
  have BN := Lib.hid (show ∀ X Y, Below N w X → Below X.heap.size X Y → Below N w Y from fun X Y h h' => h.trans (h'.mono (by have := h.size; omega)))
  obtain ⟨r, hr⟩ : ∃ r, r = n % 8 := ⟨_, rfl⟩
  have hr8 : r < 8 := by rw [hr]; exact Nat.mod_lt _ (by omega)
  have t1 : (n : Int) % 8 = (r : Int) := by rw [hr]; rfl
  have t2 : (n : Int).tmod 8 = (r : Int) := by rw [Int.tmod_eq_emod_of_nonneg (Int.natCast_nonneg n), t1]
  clear hr
  obtain ⟨k, hkk⟩ : ∃ k, k = 1 + r := ⟨_, rfl⟩
  have k1 : 1 ≤ k := by omega
  have k8 : k ≤ 8 := by omega
  have t3 : (1 : Int) + (r : Int) = (k : Int) := by omega
  have t4 : wrap64 (k : Int) = (k : Int) := (wrap_nat k (by omega)).1
  have t5 : IntKind.i64.wrap (k : Int) = (k : Int) := (wrap_nat k (by omega)).2
  obtain ⟨kk, hk2⟩ : ∃ kk, kk = 2 * k := ⟨_, rfl⟩
  have t6 : (2 : Int) * (k : Int) = (kk : Int) := by omega
  have t7 : wrap64 (kk : Int) = (kk : Int) := (wrap_nat kk (by omega)).1
  have t8 : IntKind.i64.wrap (kk : Int) = (kk : Int) := (wrap_nat kk (by omega)).2
  obtain ⟨m, hm⟩ : ∃ m, m = room (k : Int) := ⟨_, rfl⟩
  have hm64 : m = 64 * k - 28 := by rw [hm]; exact room_nat k1 k8
  obtain ⟨kq, hkq⟩ : ∃ kq, kq = 64 * k := ⟨_, rfl⟩
  have t9 : (64 : Int) * (k : Int) = (kq : Int) := by omega
  have ta : wrap64 (kq : Int) = (kq : Int) := (wrap_nat kq (by omega)).1
  have tb : IntKind.i64.wrap (kq : Int) = (kq : Int) := (wrap_nat kq (by omega)).2
  have tc : (kq : Int) - 28 = (m : Int) := by omega
  have td : wrap64 (m : Int) = (m : Int) := (wrap_nat m (by omega)).1
  have te : IntKind.i64.wrap (m : Int) = (m : Int) := (wrap_nat m (by omega)).2
  have hmm : m ≤ 600 := by omega
  obtain ⟨b, hb⟩ : ∃ b, b = List.replicate m c := ⟨_, rfl⟩
  have hbl : b.length = m := by rw [hb]; simp
  obtain ⟨f0, f1, f2, f3, f4, f5, f6, f7, f8⟩ := full_facts k k1 k8 b (by rw [hbl, hm]) c
  rw [← hk2] at f0 f1 f2 f3 f4 f5 f6 f7 f8
  obtain ⟨D0, hD0⟩ : ∃ D0, D0 = Dk.new kk := ⟨_, rfl⟩
  obtain ⟨Z0, hZ0⟩ : ∃ Z0, Z0 = Sl.new 0 k := ⟨_, rfl⟩
  obtain ⟨Z1, hZ1⟩ : ∃ Z1 : Sl, Z1 = ⟨0, k, 0, 1, b⟩ := ⟨_, rfl⟩
  rw [← hD0, ← hZ0] at f0 f1 f2 f3 f4 f5 f6 f7 f8
  rw [← hZ1] at f5 f6 f7 f8
  obtain ⟨D1, hD1⟩ : ∃ D1, D1 = Z0.saveD D0 b := ⟨_, rfl⟩
  rw [← hD1] at f6 f7 f8
  have hmay : may D0.sure.length 0 (k : Int) = true := by rw [hD0]; exact decide_eq_true (by simp [Dk.new]; omega)
  have CA := Lib.hid (show Calls Tryd.prog 7 #[] w fun e w' => e = .returned (.bool true) ∧ Below N w w' from (awake20_any M C w hk).mono fun e w' h => by rw [← hN]; exact h)
  have C1 := Lib.hid (show ∀ X, Below N w X → Calls Tryd.prog 8 #[.int .i64 (kk : Int)] X fun e w' => ∃ g F, e = .returned (.tuple #[.pointer (some ⟨g, 0, none⟩), .int .i64 0]) ∧ M.Is N w' g D0 F ∧ Below N X w' from fun X hX => (M.new N X kk (C.okM (OKN.out X hX)) (by rw [← hN]; exact hX.size) (by omega) (by omega)).mono fun e w' ⟨g, F, h1, h2, h3, h4⟩ => ⟨g, F, h1, by rw [hD0]; exact h2, h4.mono (by rw [← hN]; exact hX.size)⟩)
  have C2 := Lib.hid (show ∀ X g F, Below N w X → M.Is N X g D0 F → Calls Tryd.prog 9 #[.pointer (some ⟨g, 0, none⟩), .int .i64 0, .int .i64 (k : Int)] X fun e w' => ∃ s F' S', e = .returned (.tuple #[.pointer (some ⟨s, 0, none⟩), .int .i64 0]) ∧ Lz M C N w' g s D0 Z0 F' S' ∧ Below N X w' from fun X g F hX hI => (C.new N X g D0 F 0 k (OKN.out X hX) hI hmay).mono fun e w' ⟨s, S, F', h1, h2, h3, h4, h5, h6, h7⟩ => ⟨s, F', S, h1, ⟨h3, by rw [hZ0]; exact h2, h6, f0⟩, h7.bel⟩)
  have C3 := Lib.hid (show ∀ X, Below N w X → Calls Tryd.prog 12 #[.int .i64 (k : Int)] X fun e w' => e = .returned (.int .i64 (m : Int)) ∧ Below X.heap.size X w' from fun X hX => by rw [hm]; exact C.room X k (by omega) (by omega) (OKN.out X hX))
  have C4 := Lib.hid (show ∀ X, Calls Tryd.prog 21 #[.int .u8 (c.toNat : Int), .int .i64 (m : Int)] X (New X.heap.size X b) from fun X => by rw [hb]; exact rfill20 c m X (by omega))
  have hcnt : D0.cnt < 1099511627000 := by rw [hD0]; show 0 < _; omega
  have C5 := Lib.hid (show ∀ X g s F S A c', Below N w X → Lz M C N X g s D0 Z0 F S → Rd X A (m + 1) c' (b ++ [c]) → (∀ a, 0 < m + 1 → A = some a → ¬ Or2 F S a.block) → Calls Tryd.prog 14 #[.pointer (some ⟨s, 0, none⟩), .slice A (m + 1) c'] X fun e w' => e = .returned (.int .i64 1) ∧ ∃ F' S', Lz M C N w' g s D0 Z0 F' S' ∧ (∀ b, Or2 F' S' b → Or2 F S b ∨ X.heap.size ≤ b) ∧ Mv N (Or2 F S) X w' from fun X g s F S A c' hX hI hR hA => (hI.save (OKN.out X hX) hR hA hcnt).mono fun e w' ⟨h1, F', S', h2, h3, h4⟩ => ⟨by rw [h1, f1]; rfl, F', S', by rw [f2, f3] at h2; exact h2, h3, h4⟩)
  have C6 := Lib.hid (show ∀ X g s F S, Below N w X → Lz M C N X g s D0 Z0 F S → Calls Tryd.prog 22 #[.pointer (some ⟨g, 0, none⟩)] X fun e w' => ∃ x F', e = .returned (.tuple #[.int .i64 0, .int .i64 x]) ∧ Lz M C N w' g s D0 Z0 F' S ∧ (∀ b, Or2 F' S b → Or2 F S b ∨ X.heap.size ≤ b) ∧ Mv N (Or2 F S) X w' from fun X g s F S hX hI => (M.count N X g D0 F (C.okM (OKN.out X hX)) hI.is).mono fun e w' ⟨h1, F', h2, h3, h4⟩ => ⟨(D0.pend.length : Int), F', by rw [h1, hD0]; rfl, hI.disk h2 h3 h4 rfl, fun b hb => hb.elim (fun e => (h3 b e).imp .inl id) (fun e => .inl (.inr e)), h4.mono (fun b hb => .inl hb)⟩)
  have C7 := Lib.hid (show ∀ X g s F S A c', Below N w X → Lz M C N X g s D0 Z0 F S → Rd X A m c' b → (∀ a, 0 < m → A = some a → ¬ Or2 F S a.block) → Calls Tryd.prog 14 #[.pointer (some ⟨s, 0, none⟩), .slice A m c'] X fun e w' => e = .returned (.int .i64 0) ∧ ∃ F' S', Lz M C N w' g s D1 Z1 F' S' ∧ (∀ b, Or2 F' S' b → Or2 F S b ∨ X.heap.size ≤ b) ∧ Mv N (Or2 F S) X w' from fun X g s F S A c' hX hI hR hA => (hI.save (OKN.out X hX) hR hA hcnt).mono fun e w' ⟨h1, F', S', h2, h3, h4⟩ => ⟨by rw [h1, f4]; rfl, F', S', by rw [f5, ← hD1] at h2; exact h2, h3, h4⟩)
  have C8 := Lib.hid (show ∀ X g s F S, Below N w X → Lz M C N X g s D1 Z1 F S → Calls Tryd.prog 17 #[.pointer (some ⟨s, 0, none⟩)] X fun e w' => ∃ A c, e = .returned (.tuple #[.slice A m c, .int .u64 1, .int .i64 0]) ∧ Rd w' A m c b ∧ Mv N (Or2 F S) X w' from fun X g s F S hX hI => (hI.load (OKN.out X hX)).mono fun e w' ⟨A, c, F', S', h1, h2, _, h3, h4, h5⟩ => by
    rw [f7, hbl] at h1 h2
    rw [f6, f8] at h1
    exact ⟨A, c, h1, h2, h5⟩)
  have LB := Lib.hid hbl
  have HMM := Lib.hid hmm
  clear f0 f1 f2 f3 f4 f5 f6 f7 f8 hD0 hZ0 hZ1 hD1 hk hmay hcnt hbl hb hmm hkq hm64 hm hk2 k1 k8 hkk hr8
  go_enter Tryd.func6, Tryd.ntmps6
  go_upto_region 11 with (first
    | (go_at_call 7; ((with_reducible refine CA.out.mono ?_); rintro e w1 ⟨rfl, b1⟩; have B1 := Lib.hid b1; clear b1))
    | (go_at_call 8; ((with_reducible refine (C1.out w1 B1.out).mono ?_); rintro e w2 ⟨g, F2, rfl, i2, b2⟩; have I2 := Lib.hid i2; have B2 := Lib.hid (B1.out.trans b2); clear i2 b2))
    | (go_at_call 9; ((with_reducible refine (C2.out w2 g F2 B2.out I2.out).mono ?_); rintro e w3 ⟨s, F3, S3, rfl, i3, b3⟩; have I3 := Lib.hid i3; have B3 := Lib.hid (B2.out.trans b3); clear i3 b3))
    | (go_at_call 12; ((with_reducible refine (C3.out w3 B3.out).mono ?_); rintro e w4 ⟨rfl, b4⟩; have I4 := Lib.hid (I3.out.grow b4); have B4 := Lib.hid (BN.out _ _ B3.out b4); clear b4))
    | (go_at_call 21; ((with_reducible refine (C4.out w4).mono ?_); rintro e w5 ⟨A5, n5, c5, rfl, o5, b5⟩; obtain rfl : m = n5 := LB.out.symm.trans (own_len o5); have O5 := Lib.hid o5; have R5 := Lib.hid (Rd.own o5); have I5 := Lib.hid (I4.out.grow b5); have B5 := Lib.hid (BN.out _ _ B4.out b5); have X5 := Lib.hid (show ∀ a, 0 < m → A5 = some a → ¬ Or2 F3 S3 a.block ∧ a.block < w5.heap.size from fun a _ e => ⟨fun hO => by have q1 := (o5.lt a.block (by rw [e]; rfl)).1; have q2 := (I4.out.lt _ hO).2; omega, (o5.lt a.block (by rw [e]; rfl)).2⟩); clear o5 b5)))
  have mm2 : 0 + m + 1 ≤ 140737488355328 := by have := HMM.out; omega
  go_wp2_with (first
    | (at_builtin; refine append_rd rfl (.tmp 45) (.tmp 46) rfl w5.heap.size _ 0 [] rfl (World.ownsRow_lit (base := w5.heap.size) (e := 5) (size := 1) w5 #[] 0 (Nat.le_refl _) (by simp [maxLen]) rfl) A5 m c5 b rfl (R5.out.alloc _) (Nat.le_trans (Nat.le_succ _) mm2) (by simp) ?_; intro v6 w6 o6 g6; obtain ⟨A6, c6, hv6⟩ := own_form o6; rw [Nat.zero_add] at hv6; subst hv6; have O6 := Lib.hid (own_n o6); have B6 := Lib.hid (((Below.refl w5.heap.size w5).alloc (Nat.le_refl _) _).grown g6 (by simp) (fun q hq => Nat.le_of_eq (Option.some.inj hq))); clear o6 g6)
    | (at_builtin; refine append_rd rfl (.tmp 47) (.tmp 49) rfl w5.heap.size (.slice A6 m c6) m b rfl (own_below O6.out ((Below.refl _ _).alloc (Nat.le_refl _) _)) (some ⟨w6.heap.size, 0, none⟩) 1 1 [c] rfl (byte_lit w6 c) (by rw [Nat.zero_add] at mm2; exact mm2) (Nat.le_trans B6.out.size (by simp)) ?_; intro v7 w7 o7 g7; obtain ⟨A7, c7, rfl⟩ := own_form o7; have O7 := Lib.hid o7; have B7 := Lib.hid ((B6.out.alloc B6.out.size _).grown g7 (Nat.le_trans B6.out.size (by simp)) (fun q hq => (O6.out.lt q hq).1)); have X7 := Lib.hid (show ∀ a, 0 < m + 1 → A7 = some a → ¬ Or2 F3 S3 a.block from fun a _ e hO => by have q1 := (o7.lt a.block (by rw [e]; rfl)).1; have q2 := (I5.out.lt _ hO).2; omega); clear o7 g7)
    | (go_at_call 14; ((with_reducible refine (C5.out w7 g s F3 S3 A7 c7 (BN.out _ _ B5.out B7.out) (I5.out.grow B7.out) (Rd.own O7.out) X7.out).mono ?_); rintro e w8 ⟨rfl, F8, S8, i8, s8, m8⟩; have I8 := Lib.hid i8; have B8 := Lib.hid ((BN.out _ _ B5.out B7.out).trans m8.bel); have R8 := Lib.hid (m8.rd (R5.out.below B7.out) (fun a q e => (X5.out a q e).1)); have X8 := Lib.hid (show ∀ a, 0 < m → A5 = some a → ¬ Or2 F8 S8 a.block ∧ a.block < w8.heap.size from fun a q e => ⟨out_of s8 (Nat.lt_of_lt_of_le (X5.out a q e).2 B7.out.size) (X5.out a q e).1, Nat.lt_of_lt_of_le (X5.out a q e).2 (Nat.le_trans B7.out.size m8.size)⟩); clear i8 s8 m8))
    | (go_at_call 22; ((with_reducible refine (C6.out w8 g s F8 S8 B8.out I8.out).mono ?_); rintro e w9 ⟨x9, F9, rfl, i9, s9, m9⟩; have I9 := Lib.hid i9; have B9 := Lib.hid (B8.out.trans m9.bel); have R9 := Lib.hid (m9.rd R8.out (fun a q e => (X8.out a q e).1)); have X9 := Lib.hid (show ∀ a, 0 < m → A5 = some a → ¬ Or2 F9 S8 a.block ∧ a.block < w9.heap.size from fun a q e => ⟨out_of s9 (X8.out a q e).2 (X8.out a q e).1, Nat.lt_of_lt_of_le (X8.out a q e).2 m9.size⟩); clear i9 s9 m9))
    | (go_at_call 14; ((with_reducible refine (C7.out w9 g s F9 S8 A5 c5 B9.out I9.out R9.out (fun a q e => (X9.out a q e).1)).mono ?_); rintro e wa ⟨rfl, Fa, Sa, ia, sa, ma⟩; have Ia := Lib.hid ia; have Ba := Lib.hid (B9.out.trans ma.bel); have Ra := Lib.hid (ma.rd R9.out (fun a q e => (X9.out a q e).1)); have Xa := Lib.hid (show ∀ a, 0 < m → A5 = some a → ¬ Or2 Fa Sa a.block from fun a q e => out_of sa (X9.out a q e).2 (X9.out a q e).1); clear ia sa ma))
    | (go_at_call 17; ((with_reducible refine (C8.out wa g s Fa Sa Ba.out Ia.out).mono ?_); rintro e wb ⟨Ab, cb, rfl, rb, mb⟩; have Rb := Lib.hid rb; have Bb := Lib.hid (Ba.out.trans mb.bel); have R5b := Lib.hid (mb.rd Ra.out Xa.out); clear rb mb))
    | (go_at_call 18; ((with_reducible refine (rsame_true Ab A5 m cb m c5 b b _ Rb.out R5b.out rfl).mono ?_); rintro e wc ⟨rfl, bc⟩; have Bc := Lib.hid (BN.out _ _ Bb.out bc); clear bc)))
  go_ret
  exact ⟨rfl, by first | exact Bc.out | (rw [HN.out]; exact Bc.out)⟩
end Go.Proofs.YtdbamdbdogdpjaaDoor.S20
