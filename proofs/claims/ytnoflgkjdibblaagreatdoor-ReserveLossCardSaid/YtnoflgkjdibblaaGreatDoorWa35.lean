/-
  Texts put together: SlM, ReM, RvWc, RvWLoss, ArrZ, SlL3, Sl11. No statement is proved here.
-/
import Derived.Test.YtnoflgkjdibblaaGreatDoorWa30
import Derived.Test.YtnoflgkjdibblaaGreatDoorWa33
import Derived.Test.YtnoflgkjdibblaaGreatDoorWa34
import Derived.Test.YtnoflgkjdibblaaGreatDoorWa22
import Derived.Test.YtnoflgkjdibblaaGreatDoorWa23
import Derived.Test.YtnoflgkjdibblaaGreatDoorWa12
import Derived.Test.YtnoflgkjdibblaaGreatDoorWa18
import Derived.Test.YtnoflgkjdibblaaGreatDoorWa04
import Derived.Lib.LaidU8
import Derived.Lay
import Derived.SevenTiedAt
import Derived.Test.YtnoflgkjdibblaaGreatDoorTie
import Derived.Test.YtnoflgkjdibblaaGreatDoorWa17
import Derived.Test.YtnoflgkjdibblaaGreatDoorWa05
import Derived.Test.YtnoflgkjdibblaaGreatDoorWa26

/-
  The contracts of the landed packages disk and slots as one.
-/
namespace Go.Proofs.YtnoflgkjdibblaaGreatDoor.S20
open Go.RowKit S19
/-- What the calls of the landed disk, and of the landed slots, do. -/
def M0 : DC := D0
def C0 : SlC M0 where
  ok := fun w => S2.GOk w
  bel := fun h hb => h.below (Nat.le_refl _) hb
  okM := fun _ => trivial
  Is := Sz
  lt := fun t => t.lt
  keep := fun t hs hk => t.keep hs fun b hb hl => hk b (.inr hb) hl
  room := fun w n _ _ _ => (room_any n w).mono fun _ _ h => ⟨h.1, h.2 ▸ Below.refl _ _⟩
  new := fun N w g D F first n _ tk hm => snew_any N w g D F first n tk hm
  newNot := fun N w g D F first n _ _ _ _ _ tk hm => snewNot_any N w g D F first n tk hm
  now := fun N w s g Z S _ t => (snow_any N w s g Z S t).mono fun _ _ ⟨A, c, h1, h2, h3, h4⟩ => ⟨A, c, h1, h2, fun a _ h => h3 a h, t.grow h4, Mv.of (Nat.le_trans t.sz.2 (Nat.le_of_lt t.sz.1)) h4⟩
  load := fun N w s g D Z F S hg tk ts hFS zo => by
    cases ho : D.off with
    | true => exact load_off N w s g D Z F S tk ts hFS zo ho
    | false => exact load_on N w s g D Z F S hg tk ts hFS zo ho
  save := fun N w s g D Z F S A n c b hg tk ts hFS zo hr hap hc => save_any N w s g D Z F S A n c b hg tk ts hFS zo hr hap hc
end Go.Proofs.YtnoflgkjdibblaaGreatDoor.S20

/-
  The contracts of the landed package reserve as one.
-/
namespace Go.Proofs.YtnoflgkjdibblaaGreatDoor.S21
open Go.RowKit S19 S20
theorem c0_lo {N : Nat} {w : World} {s g : Nat} {Z : Sl} {S : Nat → Prop} (t : C0.Is N w s g Z S) : N ≤ w.heap.size := by
  have q : Sz N w s g Z S := t
  exact Nat.le_trans q.sz.2 (Nat.le_of_lt q.sz.1)
theorem or3_of {F S R : Nat → Prop} {F' S' : Nat → Prop} {n : Nat} (h : ∀ b, Or2 F' S' b → Or2 F S b ∨ n ≤ b) : ∀ b, Or3 F' S' R b → Or3 F S R b ∨ n ≤ b := fun b hb => by
  rcases hb with e | e | e
  · exact (h b (.inl e)).imp (fun e => e.elim .inl fun e => .inr (.inl e)) id
  · exact (h b (.inr e)).imp (fun e => e.elim .inl fun e => .inr (.inl e)) id
  · exact .inl (.inr (.inr e))
/-- What the calls of the landed reserve do. -/
def K0 : RvC M0 C0 where
  ok := fun w => C0.ok w
  bel := fun h hb => C0.bel h hb
  okC := fun h => h
  Is := Ki
  lt := fun t => t.lt
  keep := fun t hs hk => t.keep hs fun b hb hl => hk b (.inr hb) hl
  read := fun w A n c b _ hr hn => (lread_any A n c b w hr hn).mono fun e w' ⟨A', c', h1, h2, _, h4⟩ => ⟨A', c', h1, h2, h4⟩
  new := fun N w s g D Z F S A n c h tot bat hk t hr _ hc ht hb hn => lnew_any M0 C0 N w s g D Z F S A n c h tot bat (c0_lo t.sl) hk t hr (by omega) ht hb hn
  opn := fun N w s g D Z F S hk t => lopen_any M0 C0 N w s g D Z F S (c0_lo t.sl) hk t
  take := fun N w cc s g x h D Z F S R hk t r ap ho hc => (ltake_any M0 C0 N w cc g s x h D Z F S R (fun X hX => C0.bel hk hX) t r ap ho (by omega)).mono fun e w' ⟨h1, F', S', h2, h3, h4, h5, h6⟩ => ⟨F', S', R, h1, h2, h3, h4, or3_of h5, h6⟩
  head := fun N w cc s x h R _ r => lhead_any N w cc s x h R r
  state := fun N w cc s x h R _ r => lstate_any N w cc s x h R r
/-- And Retire. -/
def KT : RvT M0 C0 where
  toRvC := K0
  ret := fun N w cc s g x h D Z F S R hk t r ap ho hc => (lretire_any M0 C0 N w cc g s x h D Z F S R (fun X hX => C0.bel hk hX) t r ap ho (by omega)).mono fun e w' ⟨h1, F', S', h2, h3, h4, h5, h6⟩ => ⟨F', S', R, h1, h2, h3, h4, or3_of h5, h6⟩
end Go.Proofs.YtnoflgkjdibblaaGreatDoor.S21

/-
  How a byte's whole number reads. No statement is proved here.
-/
namespace Go.Proofs.YtnoflgkjdibblaaGreatDoor.S21
set_option linter.unusedSimpArgs false
set_option linter.unusedVariables false
theorem nat_of_b21 {n : Int} (h : (Lit.int .u8 n).wf = true) : ∃ m : Nat, n = (m : Int) ∧ m < 256 := by
  have : 0 ≤ n ∧ n ≤ 255 := by simpa [Lit.wf, IntKind.min, IntKind.max, IntKind.signed, IntKind.bits] using h
  exact ⟨n.toNat, by omega, by omega⟩
end Go.Proofs.YtnoflgkjdibblaaGreatDoor.S21

/-
  The walk of one statement of layer 21, as its frame calls it.
-/
namespace Go.Proofs.YtnoflgkjdibblaaGreatDoor.S21
set_option linter.unusedSimpArgs false
set_option linter.unusedVariables false
set_option maxRecDepth 4096
open Go.ChangeShapes Go.WideShapes Go.ChangeAt Go.RowKit Go.Joins S19 S20
theorem reserveLoss_frame (W : World) (hk : C0.ok W) (a : Int) (wa : (Lit.int .u8 a).wf = true) (v : Value) (y : Option Addr × Nat × Nat × List Bool) (o : v = .slice y.1 y.2.1 y.2.2.1 ∧ Rb W y.1 y.2.1 y.2.2.1 y.2.2.2 ∧ y.2.1 ≤ 9223372036854775807) :
    Calls Tryz.prog 4 #[.int .u8 a, v] W fun e w' => e = .returned (.bool true) ∧ Below W.heap.size W w' := by
  obtain ⟨m, rfl, hm⟩ := nat_of_b21 wa
  obtain ⟨rfl, h1, h2⟩ := o
  exact reserveLoss_walk M0 C0 K0 W hk m hm _ _ _ _ h1 h2
end Go.Proofs.YtnoflgkjdibblaaGreatDoor.S21

/-
  What the listed variables hold: the constants of layer 2, for the statements of layer 20.
-/
namespace Go.Proofs.YtnoflgkjdibblaaGreatDoor
set_option linter.unusedSimpArgs false
set_option linter.unusedVariables false
open Go.ChangeShapes Go.WideShapes Go.ChangeAt Go.RowKit

/-- What the rows list. -/
abbrev laidL : List (String × DataW Unit) := [("tearoff/sha2.start", Rows.laid_tearoff_sha2_start), ("tearoff/sha2.rounds", Rows.laid_tearoff_sha2_rounds)]
theorem cells_of_reads {P : Program} {W : World} {name : String} {k : IntKind} {zs : List Int} {g : Nat} {t e : TypeId} {n : Nat} (h : Lib.VarReads P W name (Lib.tabData k zs))
    (hg : P.globalNamed name = some g) (hty : (P.globals[g]?).map (·.type) = some t) (ht : P.underlying t = some (.array n e)) (he : P.underlying e = some (.int k)) (hce : P.cellsOf e = 1) (hct : P.cellsOf t = n) :
    ∀ i, i < zs.length → W.cell? ⟨g, i, none⟩ = some (.int k (zs.getD i 0)) := by
  obtain ⟨g', t', cs, fuel, p, h1, h2, h3, h4⟩ := h
  obtain rfl := Option.some.inj (hg.symm.trans h1)
  obtain rfl := Option.some.inj (hty.symm.trans h2)
  have e := Lib.cells_of_tab ht he hce hct h4
  have hT : Lib.TabIs P W name k zs := by
    unfold Lib.TabIs
    rw [h3, ← e]
  exact hT.cell hg
theorem kN_word2 : ∀ z ∈ S2.kN, ((UInt32.ofNat z.toNat).toNat : Int) = z := by decide +kernel
theorem kN_get (i : Nat) (h : i < 64) : Value.int .u32 (S2.kN.getD i 0) = .int .u32 ((S2.kT.getD i 0).toNat : Int) := by
  have h1 : i < S2.kN.length := h
  have := kN_word2 S2.kN[i] (List.getElem_mem h1)
  simp only [S2.kT, List.getD, List.getElem?_map, List.getElem?_eq_getElem h1, Option.map_some, Option.getD_some]
  rw [this]
theorem gok_of_laid {W : World} (h : laidMetH Tryz.prog laidL W) : S2.GOk W := by
  rw [MakeChecks.laidMetH_plain _ _ _ (by kernel_rfl)] at h
  have h1 : Lib.VarReads Tryz.prog W "tearoff/sha2.start" (Lib.tabData .u32 [1779033703, 3144134277, 1013904242, 2773480762, 1359893119, 2600822924, 528734635, 1541459225]) := Lib.laidMet.reads h (.head _)
  have h2 : Lib.VarReads Tryz.prog W "tearoff/sha2.rounds" (Lib.tabData .u32 S2.kN) := Lib.laidMet.reads h (.tail _ (.head _))
  refine ⟨fun i hi => ?_, fun i hi => ?_⟩
  · rw [← kN_get i hi]
    exact cells_of_reads (g := 1) (t := 181) h2 (by kernel_rfl) (by kernel_rfl) Tryz.underlying181 Tryz.underlying158 (by kernel_rfl) (by kernel_rfl) i hi
  · have := cells_of_reads (g := 0) (t := 168) h1 (by kernel_rfl) (by kernel_rfl) Tryz.underlying168 Tryz.underlying158 (by kernel_rfl) (by kernel_rfl) i hi
    refine this.trans ?_
    match i, hi with
    | 0, _ | 1, _ | 2, _ | 3, _ | 4, _ | 5, _ | 6, _ | 7, _ => rfl
end Go.Proofs.YtnoflgkjdibblaaGreatDoor

/-
  The walk of layer 20's fourth statement (SlotsBlank), over the contracts. No statement is proved here. (Written by gensll3.py.)
-/
namespace Go.Proofs.YtnoflgkjdibblaaGreatDoor.S20
set_option linter.unusedSimpArgs false
set_option linter.unusedVariables false
set_option maxRecDepth 4096
open Go.RowKit S19

/-- A sector of no byte 0. -/
def fillS (a : List UInt8) (n : Nat) : List UInt8 := (List.range n).map fun i => UInt8.ofNat (1 + (a.getD (i % a.length) 0).toNat % 255)
theorem fillS_len (a : List UInt8) (n : Nat) : (fillS a n).length = n := by simp [fillS]
theorem fillS_step (a : List UInt8) (n k : Nat) (hk : k < n) : ((fillS a n).take k ++ List.replicate (n - k) 0).set k (UInt8.ofNat (1 + (a.getD (k % a.length) 0).toNat % 255)) = (fillS a n).take (k + 1) ++ List.replicate (n - (k + 1)) 0 := by
  have hl := fillS_len a n
  rw [List.set_append_right _ _ (by simp [hl]; omega)]
  have e1 : k - ((fillS a n).take k).length = 0 := by simp [hl]; omega
  rw [e1, show n - k = (n - (k + 1)) + 1 by omega, List.replicate_succ, List.set_cons_zero, List.take_add_one, List.append_assoc]
  congr 1
  have : (fillS a n)[k]? = some (UInt8.ofNat (1 + (a.getD (k % a.length) 0).toNat % 255)) := by simp [fillS, hk]
  rw [this]
  rfl
theorem one_byte (v : Nat) : (UInt8.ofNat (1 + v % 255)).toNat = 1 + v % 255 := by
  rw [UInt8.toNat_ofNat']
  exact Nat.mod_eq_of_lt (by have := Nat.mod_lt v (show 0 < 255 by omega); omega)
theorem fillS_pos (a : List UInt8) (n : Nat) : ∀ u ∈ fillS a n, 1 ≤ u.toNat := by
  intro u hu
  obtain ⟨i, _, rfl⟩ := List.mem_map.1 hu
  rw [one_byte]
  omega
def Z64' : List UInt8 := List.replicate 64 0
theorem not_zeros {x : List UInt8} (hx : ∀ u ∈ x, 1 ≤ u.toNat) (hl : 0 < x.length) {n : Nat} : x ≠ List.replicate n 0 := by
  intro e
  have h0 : (0 : UInt8) ∈ x := by
    rw [e]
    refine List.mem_replicate.2 ⟨?_, rfl⟩
    rintro rfl
    rw [e] at hl
    simp at hl
  have := hx 0 h0
  simp at this
theorem head_zero (x : List UInt8) (n : Nat) : whole (Z64' ++ x) n = (0, []) := by
  unfold whole
  refine if_neg fun h => h.1 ?_
  unfold numOf Z64'
  rw [List.take_append_of_le_length (by simp), List.take_replicate, getL_zero]
theorem four_pos {l : List UInt8} (hl : l.length = 4) (hp : ∀ u ∈ l, 1 ≤ u.toNat) : 16777216 ≤ getL l := by
  match l, hl with
  | u :: r, hl =>
    have hr : r.length = 3 := by simpa using hl
    rw [getL_cons, hr]
    have := hp u (by simp)
    have e : (256 : Nat) ^ 3 = 16777216 := by decide
    rw [e]
    omega
theorem pos_not (y z : List UInt8) (hy : ∀ u ∈ y, 1 ≤ u.toNat) (hl : y.length = 64) : whole (y ++ z) 2 = (0, []) := by
  unfold whole
  refine if_neg fun h => ?_
  have h2 := h.2.1
  have e : ((y ++ z).drop 8).take 4 = (y.drop 8).take 4 := by
    rw [List.drop_append_of_le_length (by omega), List.take_append_of_le_length (by simp; omega)]
  have h4 := four_pos (l := (y.drop 8).take 4) (by simp; omega) (fun u hu => hy u (List.mem_of_mem_drop (List.mem_of_mem_take hu)))
  unfold cntOf at h2
  rw [e, room_nat (n := 2) (by omega) (by omega)] at h2
  omega
theorem blank_facts (x y : List UInt8) (hx : ∀ u ∈ x, 1 ≤ u.toNat) (hy : ∀ u ∈ y, 1 ≤ u.toNat) (lx : x.length = 64) (ly : y.length = 64) :
    (Dk.new 4).writeC 1 x = 0 ∧ ((Dk.new 4).write 1 x).writeC 2 y = 0 ∧ (Sl.new 0 2).loadC ((Dk.new 4).write 1 x) = 11 ∧ (Sl.new 0 2).load ((Dk.new 4).write 1 x) = Sl.new 0 2 ∧
    (Sl.new 0 2).loadC (((Dk.new 4).write 1 x).write 2 y) = 8 ∧ (Sl.new 0 2).load (((Dk.new 4).write 1 x).write 2 y) = Sl.new 0 2 := by
  have hC := Calm.new 4
  obtain ⟨w1, d1⟩ := hC.write (i := 1) (b := x) (by simp [Dk.new]) lx
  have hC1 : Calm { Dk.new 4 with cnt := (Dk.new 4).cnt + 1, pend := (Dk.new 4).pend ++ [(1, x)] } := ⟨hC.off, hC.stop, hC.fails⟩
  obtain ⟨w2, d2⟩ := hC1.write (i := 2) (b := y) (by simp [Dk.new]) ly
  have d1' : (Dk.new 4).write 1 x = { Dk.new 4 with cnt := (Dk.new 4).cnt + 1, pend := (Dk.new 4).pend ++ [(1, x)] } := d1
  rw [d1']
  have d2' := d2
  obtain ⟨D1, hD1⟩ : ∃ D1, D1 = ({ Dk.new 4 with cnt := (Dk.new 4).cnt + 1, pend := (Dk.new 4).pend ++ [(1, x)] } : Dk) := ⟨_, rfl⟩
  rw [← hD1] at w2 d2 hC1 ⊢
  obtain ⟨D2, hD2⟩ : ∃ D2, D2 = D1.write 2 y := ⟨_, rfl⟩
  have hD2' : D2 = { D1 with cnt := D1.cnt + 1, pend := D1.pend ++ [(2, y)] } := hD2.trans d2
  rw [← hD2]
  have hC2 : Calm D2 := by rw [hD2']; exact ⟨hC1.off, hC1.stop, hC1.fails⟩
  have a10 : (Sl.new 0 2).area D1 0 = Z64' ++ x := by rw [hD1]; simp [Sl.area, Sl.new, Sl.areaK, Dk.atS, Dk.new, Dk.lastOf, Z64']
  have a11 : (Sl.new 0 2).area D1 1 = List.replicate 128 0 := by rw [hD1]; simp [Sl.area, Sl.new, Sl.areaK, Dk.atS, Dk.new, Dk.lastOf]
  have a20 : (Sl.new 0 2).area D2 0 = Z64' ++ x := by rw [hD2', hD1]; simp [Sl.area, Sl.new, Sl.areaK, Dk.atS, Dk.new, Dk.lastOf, Z64']
  have a21 : (Sl.new 0 2).area D2 1 = y ++ Z64' := by rw [hD2', hD1]; simp [Sl.area, Sl.new, Sl.areaK, Dk.atS, Dk.new, Dk.lastOf, Z64']
  have s1 : (Sl.new 0 2).seen D1 = (-1, 0, []) := by
    rw [seen_of (a0 := (0, [])) (a1 := (0, [])) (by rw [a10]; exact head_zero _ _) (by rw [a11]; exact whole_zero _ _)]
    rfl
  have s2 : (Sl.new 0 2).seen D2 = (-1, 0, []) := by
    rw [seen_of (a0 := (0, [])) (a1 := (0, [])) (by rw [a20]; exact head_zero _ _) (by rw [a21]; exact pos_not _ _ hy ly)]
    rfl
  have o1 : ¬ D1.off = true := by rw [hC1.off]; simp
  have o2 : ¬ D2.off = true := by rw [hC2.off]; simp
  have b20 : blank (Z64' ++ x) (Sl.new 0 2).n = false := by
    refine decide_eq_false fun e => ?_
    have e2 : x = (List.replicate (64 * 2) (0 : UInt8)).drop 64 := by
      have := congrArg (List.drop 64) e
      rw [List.drop_left' (by simp [Z64'])] at this
      exact this
    rw [List.drop_replicate] at e2
    exact not_zeros hx (by omega) e2
  have b21 : blank (y ++ Z64') (Sl.new 0 2).n = false := by
    refine decide_eq_false fun e => ?_
    have e2 : y = (List.replicate (64 * 2) (0 : UInt8)).take 64 := by
      have := congrArg (List.take 64) e
      rw [List.take_left' ly] at this
      exact this
    rw [List.take_replicate] at e2
    exact not_zeros hy (by omega) e2
  refine ⟨w1, w2, ?_, ?_, ?_, ?_⟩
  · rw [Sl.loadC, if_neg o1, s1, if_pos (by decide), if_pos (by rw [a11]; simp [blank, Sl.new])]
  · rw [Sl.load, if_neg o1, s1]; rfl
  · rw [Sl.loadC, if_neg o2, s2, if_pos (by decide), a20, a21, b20, b21]; rfl
  · rw [Sl.load, if_neg o2, s2]; rfl
theorem rep64 : (madeCells (Value.int .u8 0).cells (64 * 1)).toList = bv (List.replicate 64 0) := bv_zero 64
theorem own_setOther {w : World} {B e size n g i : Nat} {v u : Value} {xs : List Value} (h : w.ownsRow B e size v n xs) (hne : v.ownBlock ≠ some g) : (w.setCell ⟨g, i, none⟩ u).ownsRow B e size v n xs :=
  own_keepH h fun b hb _ => Below.heap_setCell w ⟨g, i, none⟩ u b (by rintro rfl; exact hne hb)
theorem wLen {w : World} {A : Option Addr} {n c : Nat} {xs : List UInt8} (h : Rd w A n c xs) (hn : 100 < n) : (decide ((100 : Int) < (n : Int))) = true := by simp; omega
end Go.Proofs.YtnoflgkjdibblaaGreatDoor.S20

/-
  The landed disk and slots beside the document's own; a sector's bytes cut or filled; whether a step is too great. No statement is proved here.
-/
namespace Go.Proofs.YtnoflgkjdibblaaGreatDoor.S20
set_option linter.unusedSimpArgs false
set_option linter.unusedVariables false
set_option maxRecDepth 4096
open Go.RowKit S19

theorem writes_cnt (at_ : Nat) (xs : List UInt8) : ∀ (k j : Nat) (D : Dk), (Sl.writes at_ xs k j D).2.cnt ≤ D.cnt + k
  | 0, j, D => Nat.le_refl _
  | k + 1, j, D => by
    unfold Sl.writes
    have hw := Dk.write_cnt D ((at_ + j : Nat) : Int) (Sl.row xs j)
    split
    · have := writes_cnt at_ xs k (j + 1) (D.write ((at_ + j : Nat) : Int) (Sl.row xs j))
      omega
    · show (D.write _ _).cnt ≤ _
      omega
theorem saveD_cnt (Z : Sl) (D : Dk) (b : List UInt8) : (Z.saveD D b).cnt ≤ D.cnt + Z.n + 1 := by
  unfold Sl.saveD
  split
  · omega
  · have h := writes_cnt (Z.first + Z.goes * Z.n) (recB Z.next b Z.n) Z.n 0 D
    split
    · have h2 := Dk.flush_cnt (Z.written D b).2
      have h3 : (Z.written D b).2.cnt ≤ D.cnt + Z.n := h
      omega
    · have h3 : (Z.written D b).2.cnt ≤ D.cnt + Z.n := h
      omega
/-- The document's slots are so in any world where their blocks, and those below N, are as they were. -/
theorem Qs.keep {N : Nat} {w w' : World} {h q k : Nat} {L : Value} {D : Dk} {Z : Sl} {G S T : Nat → Prop} (t : Qs N w h q L k D Z G S T) (hs : w.heap.size ≤ w'.heap.size) (hk : ∀ b, (b < N ∨ Or3 G S T b) → b < w.heap.size → w'.heap[b]? = w.heap[b]?) : Qs N w' h q L k D Z G S T :=
  ⟨t.rk.keep hs fun b hb hl => hk b (hb.imp id .inl) hl, t.rz.keep hs fun b e => hk b (.inr (.inr (.inl e))) (t.rz.lt b e).2, t.ld.keep hs fun b e => hk b (.inr (.inr (.inr e))) (t.ld.lt b e).2, t.zo, t.gs, t.gt, t.st⟩
theorem Lz.keep {M : DC} {C : SlC M} {N : Nat} {w w' : World} {g s : Nat} {D : Dk} {Z : Sl} {F S : Nat → Prop} (t : Lz M C N w g s D Z F S) (hs : w.heap.size ≤ w'.heap.size) (hk : ∀ b, (b < N ∨ Or2 F S b) → b < w.heap.size → w'.heap[b]? = w.heap[b]?) : Lz M C N w' g s D Z F S :=
  ⟨M.keep t.is hs fun b hb hl => hk b (hb.imp id .inl) hl, C.keep t.sl hs fun b hb hl => hk b (hb.imp id .inr) hl, t.dj, t.zo⟩
/-- The landed disk and slots, and the document's own, apart. -/
structure Bo (M : DC) (C : SlC M) (N : Nat) (w : World) (g s h q : Nat) (L : Value) (k : Nat) (D : Dk) (Z : Sl) (D2 : Dk) (Z2 : Sl) (F S G R T : Nat → Prop) : Prop where
  lz : Lz M C N w g s D Z F S
  qs : Qs N w h q L k D2 Z2 G R T
  ap : ∀ b, Or2 F S b → ¬ Or3 G R T b
section
variable {M : DC} {C : SlC M} {N : Nat} {w w' : World} {g s s' h q q' k k' : Nat} {L L' : Value} {D D' D2 D2' : Dk} {Z Z' Z2 Z2' : Sl} {F S G R T F' S' G' R' T' : Nat → Prop}
theorem Bo.left (t : Bo M C N w g s h q L k D Z D2 Z2 F S G R T) (l : Lz M C N w' g s' D' Z' F' S') (hs : ∀ b, Or2 F' S' b → Or2 F S b ∨ w.heap.size ≤ b) (m : Mv N (Or2 F S) w w') : Bo M C N w' g s' h q L k D' Z' D2 Z2 F' S' G R T := by
  refine ⟨l, t.qs.keep m.size fun b hb hlt => m.same b hlt fun hO => ?_, fun b h1 h2 => ?_⟩
  · rcases hb with e | e
    · have := (t.lz.lt b hO).1; omega
    · exact t.ap b hO e
  · rcases hs b h1 with e | e
    · exact t.ap b e h2
    · have := (t.qs.lt b h2).2; omega
theorem Bo.right (t : Bo M C N w g s h q L k D Z D2 Z2 F S G R T) (l : Qs N w' h q' L' k' D2' Z2' G' R' T') (hs : ∀ b, Or3 G' R' T' b → Or3 G R T b ∨ w.heap.size ≤ b) (m : Mv N (Or3 G R T) w w') : Bo M C N w' g s h q' L' k' D Z D2' Z2' F S G' R' T' := by
  refine ⟨t.lz.keep m.size fun b hb hlt => m.same b hlt fun hO => ?_, l, fun b h1 h2 => ?_⟩
  · rcases hb with e | e
    · have := (t.qs.lt b hO).1; omega
    · exact t.ap b e hO
  · rcases hs b h2 with e | e
    · exact t.ap b h1 e
    · have := (t.lz.lt b h1).2; omega
theorem Bo.grow (t : Bo M C N w g s h q L k D Z D2 Z2 F S G R T) (hb : Below w.heap.size w w') : Bo M C N w' g s h q L k D Z D2 Z2 F S G R T := ⟨t.lz.grow hb, t.qs.grow hb, t.ap⟩
end
/-- Bytes cut, or filled, to a sector. -/
def fitL (b : List UInt8) : List UInt8 := (List.range 64).map fun i => b.getD i 0
theorem fitL_len (b : List UInt8) : (fitL b).length = 64 := by simp [fitL]
theorem fitL_step (b : List UInt8) (k : Nat) (hk : k < 64) : ((fitL b).take k ++ List.replicate (64 - k) 0).set k (b.getD k 0) = (fitL b).take (k + 1) ++ List.replicate (64 - (k + 1)) 0 := by
  have hl := fitL_len b
  rw [List.set_append_right _ _ (by simp [hl]; omega)]
  have e1 : k - ((fitL b).take k).length = 0 := by simp [hl]; omega
  rw [e1, show 64 - k = (64 - (k + 1)) + 1 by omega, List.replicate_succ, List.set_cons_zero, List.take_add_one, List.append_assoc]
  congr 1
  have : (fitL b)[k]? = some (b.getD k 0) := by simp [fitL, hk]
  rw [this]
  rfl
theorem fitL_end (b : List UInt8) (k : Nat) (hk : k ≤ 64) (h : k = 64 ∨ b.length ≤ k) : (fitL b).take k ++ List.replicate (64 - k) 0 = fitL b := by
  rcases h with rfl | h
  · rw [List.take_of_length_le (by rw [fitL_len]; omega)]; simp
  · refine List.ext_getElem? fun i => ?_
    rcases Nat.lt_or_ge i k with h1 | h1
    · rw [List.getElem?_append_left (by simp [fitL_len]; omega), List.getElem?_take_of_lt h1]
    · rcases Nat.lt_or_ge i 64 with h2 | h2
      · rw [List.getElem?_append_right (by simp [fitL_len]; omega), List.getElem?_replicate, if_pos (by simp [fitL_len]; omega)]
        have : b.getD i 0 = 0 := by rw [List.getD_eq_getElem?_getD, List.getElem?_eq_none (by omega)]; rfl
        simp [fitL, h2]
        simpa [List.getD_eq_getElem?_getD] using this.symm
      · rw [List.getElem?_eq_none (by simp [fitL_len]; omega), List.getElem?_eq_none (by rw [fitL_len]; omega)]
/-- Whether a step is too great. -/
def bigB (bn cn fn : Nat) : Bool := decide (700 < bn) || (decide (300 < cn) || decide (300 < fn))
end Go.Proofs.YtnoflgkjdibblaaGreatDoor.S20
