/-
  Texts put together: SlM, ReM, RvWc, RvWPlays, ArrZ. No statement is proved here.
-/
import Derived.Test.YtnoflgkjdibblaaGreatDoorWb29
import Derived.Test.YtnoflgkjdibblaaGreatDoorWb32
import Derived.Test.YtnoflgkjdibblaaGreatDoorWb34
import Derived.Test.YtnoflgkjdibblaaGreatDoorWb25
import Derived.Test.YtnoflgkjdibblaaGreatDoorWb09
import Derived.Test.YtnoflgkjdibblaaGreatDoorWb22
import Derived.Test.YtnoflgkjdibblaaGreatDoorWb20
import Derived.Test.YtnoflgkjdibblaaGreatDoorWb04
import Derived.Lib.LaidU8
import Derived.Lay
import Derived.SevenTiedAt
import Derived.Test.YtnoflgkjdibblaaGreatDoorTie

/-
  The contracts of the landed packages disk and slots as one.
-/
namespace Go.Proofs.YtnoflgkjdibblaaGreatDoor.S20
open Go.RowKit S19
/-- What the calls of the landed disk, and of the landed slots, do. -/
def M0 : DC := D0
def C0 : SlC M0 where
  ok := fun w => S2.GOk w
  bel := fun h hb => h.below (Nat.le_refl _) hb
  okM := fun _ => trivial
  Is := Sz
  lt := fun t => t.lt
  keep := fun t hs hk => t.keep hs fun b hb hl => hk b (.inr hb) hl
  room := fun w n _ _ _ => (room_any n w).mono fun _ _ h => ⟨h.1, h.2 ▸ Below.refl _ _⟩
  new := fun N w g D F first n _ tk hm => snew_any N w g D F first n tk hm
  newNot := fun N w g D F first n _ _ _ _ _ tk hm => snewNot_any N w g D F first n tk hm
  now := fun N w s g Z S _ t => (snow_any N w s g Z S t).mono fun _ _ ⟨A, c, h1, h2, h3, h4⟩ => ⟨A, c, h1, h2, fun a _ h => h3 a h, t.grow h4, Mv.of (Nat.le_trans t.sz.2 (Nat.le_of_lt t.sz.1)) h4⟩
  load := fun N w s g D Z F S hg tk ts hFS zo => by
    cases ho : D.off with
    | true => exact load_off N w s g D Z F S tk ts hFS zo ho
    | false => exact load_on N w s g D Z F S hg tk ts hFS zo ho
  save := fun N w s g D Z F S A n c b hg tk ts hFS zo hr hap hc => save_any N w s g D Z F S A n c b hg tk ts hFS zo hr hap hc
end Go.Proofs.YtnoflgkjdibblaaGreatDoor.S20

/-
  The contracts of the landed package reserve as one.
-/
namespace Go.Proofs.YtnoflgkjdibblaaGreatDoor.S21
open Go.RowKit S19 S20
theorem c0_lo {N : Nat} {w : World} {s g : Nat} {Z : Sl} {S : Nat → Prop} (t : C0.Is N w s g Z S) : N ≤ w.heap.size := by
  have q : Sz N w s g Z S := t
  exact Nat.le_trans q.sz.2 (Nat.le_of_lt q.sz.1)
theorem or3_of {F S R : Nat → Prop} {F' S' : Nat → Prop} {n : Nat} (h : ∀ b, Or2 F' S' b → Or2 F S b ∨ n ≤ b) : ∀ b, Or3 F' S' R b → Or3 F S R b ∨ n ≤ b := fun b hb => by
  rcases hb with e | e | e
  · exact (h b (.inl e)).imp (fun e => e.elim .inl fun e => .inr (.inl e)) id
  · exact (h b (.inr e)).imp (fun e => e.elim .inl fun e => .inr (.inl e)) id
  · exact .inl (.inr (.inr e))
/-- What the calls of the landed reserve do. -/
def K0 : RvC M0 C0 where
  ok := fun w => C0.ok w
  bel := fun h hb => C0.bel h hb
  okC := fun h => h
  Is := Ki
  lt := fun t => t.lt
  keep := fun t hs hk => t.keep hs fun b hb hl => hk b (.inr hb) hl
  read := fun w A n c b _ hr hn => (lread_any A n c b w hr hn).mono fun e w' ⟨A', c', h1, h2, _, h4⟩ => ⟨A', c', h1, h2, h4⟩
  new := fun N w s g D Z F S A n c h tot bat hk t hr _ hc ht hb hn => lnew_any M0 C0 N w s g D Z F S A n c h tot bat (c0_lo t.sl) hk t hr (by omega) ht hb hn
  opn := fun N w s g D Z F S hk t => lopen_any M0 C0 N w s g D Z F S (c0_lo t.sl) hk t
  take := fun N w cc s g x h D Z F S R hk t r ap ho hc => (ltake_any M0 C0 N w cc g s x h D Z F S R (fun X hX => C0.bel hk hX) t r ap ho (by omega)).mono fun e w' ⟨h1, F', S', h2, h3, h4, h5, h6⟩ => ⟨F', S', R, h1, h2, h3, h4, or3_of h5, h6⟩
  head := fun N w cc s x h R _ r => lhead_any N w cc s x h R r
  state := fun N w cc s x h R _ r => lstate_any N w cc s x h R r
/-- And Retire. -/
def KT : RvT M0 C0 where
  toRvC := K0
  ret := fun N w cc s g x h D Z F S R hk t r ap ho hc => (lretire_any M0 C0 N w cc g s x h D Z F S R (fun X hX => C0.bel hk hX) t r ap ho (by omega)).mono fun e w' ⟨h1, F', S', h2, h3, h4, h5, h6⟩ => ⟨F', S', R, h1, h2, h3, h4, or3_of h5, h6⟩
end Go.Proofs.YtnoflgkjdibblaaGreatDoor.S21

/-
  How a byte's whole number reads. No statement is proved here.
-/
namespace Go.Proofs.YtnoflgkjdibblaaGreatDoor.S21
set_option linter.unusedSimpArgs false
set_option linter.unusedVariables false
end Go.Proofs.YtnoflgkjdibblaaGreatDoor.S21

/-
  The walk of one statement of layer 21, as its frame calls it.
-/
namespace Go.Proofs.YtnoflgkjdibblaaGreatDoor.S21
set_option linter.unusedSimpArgs false
set_option linter.unusedVariables false
set_option maxRecDepth 4096
open Go.ChangeShapes Go.WideShapes Go.ChangeAt Go.RowKit Go.Joins S19 S20
theorem reservePlays_frame (W : World) (hk : C0.ok W) (v : Value) (y : Nat × Nat × Option Addr × Nat × Nat × List UInt8) (o : v = .agg #[.int .u64 (y.1 : Int), .int .u64 (y.2.1 : Int), .slice y.2.2.1 y.2.2.2.1 y.2.2.2.2.1] ∧ y.1 < 18446744073709551616 ∧ y.2.1 < 18446744073709551616 ∧ Rd W y.2.2.1 y.2.2.2.1 y.2.2.2.2.1 y.2.2.2.2.2) (v' : Value) (z : Option Addr × Nat × Nat × List AcX) (o' : v' = .slice z.1 z.2.1 z.2.2.1 ∧ RX W z.1 z.2.1 z.2.2.1 z.2.2.2) :
    Calls Tryz.prog 3 #[v, v'] W fun e w' => e = .returned (.bool true) ∧ Below W.heap.size W w' := by
  obtain ⟨rfl, h1, h2, h3⟩ := o
  obtain ⟨rfl, h4⟩ := o'
  exact reservePlays_walk M0 C0 KT W hk _ _ h1 h2 _ _ _ _ h3 _ _ _ _ h4
end Go.Proofs.YtnoflgkjdibblaaGreatDoor.S21

/-
  What the listed variables hold: the constants of layer 2, for the statements of layer 20.
-/
namespace Go.Proofs.YtnoflgkjdibblaaGreatDoor
set_option linter.unusedSimpArgs false
set_option linter.unusedVariables false
open Go.ChangeShapes Go.WideShapes Go.ChangeAt Go.RowKit

/-- What the rows list. -/
abbrev laidL : List (String × DataW Unit) := [("tearoff/sha2.start", Rows.laid_tearoff_sha2_start), ("tearoff/sha2.rounds", Rows.laid_tearoff_sha2_rounds)]
theorem cells_of_reads {P : Program} {W : World} {name : String} {k : IntKind} {zs : List Int} {g : Nat} {t e : TypeId} {n : Nat} (h : Lib.VarReads P W name (Lib.tabData k zs))
    (hg : P.globalNamed name = some g) (hty : (P.globals[g]?).map (·.type) = some t) (ht : P.underlying t = some (.array n e)) (he : P.underlying e = some (.int k)) (hce : P.cellsOf e = 1) (hct : P.cellsOf t = n) :
    ∀ i, i < zs.length → W.cell? ⟨g, i, none⟩ = some (.int k (zs.getD i 0)) := by
  obtain ⟨g', t', cs, fuel, p, h1, h2, h3, h4⟩ := h
  obtain rfl := Option.some.inj (hg.symm.trans h1)
  obtain rfl := Option.some.inj (hty.symm.trans h2)
  have e := Lib.cells_of_tab ht he hce hct h4
  have hT : Lib.TabIs P W name k zs := by
    unfold Lib.TabIs
    rw [h3, ← e]
  exact hT.cell hg
theorem kN_word2 : ∀ z ∈ S2.kN, ((UInt32.ofNat z.toNat).toNat : Int) = z := by decide +kernel
theorem kN_get (i : Nat) (h : i < 64) : Value.int .u32 (S2.kN.getD i 0) = .int .u32 ((S2.kT.getD i 0).toNat : Int) := by
  have h1 : i < S2.kN.length := h
  have := kN_word2 S2.kN[i] (List.getElem_mem h1)
  simp only [S2.kT, List.getD, List.getElem?_map, List.getElem?_eq_getElem h1, Option.map_some, Option.getD_some]
  rw [this]
theorem gok_of_laid {W : World} (h : laidMetH Tryz.prog laidL W) : S2.GOk W := by
  rw [MakeChecks.laidMetH_plain _ _ _ (by kernel_rfl)] at h
  have h1 : Lib.VarReads Tryz.prog W "tearoff/sha2.start" (Lib.tabData .u32 [1779033703, 3144134277, 1013904242, 2773480762, 1359893119, 2600822924, 528734635, 1541459225]) := Lib.laidMet.reads h (.head _)
  have h2 : Lib.VarReads Tryz.prog W "tearoff/sha2.rounds" (Lib.tabData .u32 S2.kN) := Lib.laidMet.reads h (.tail _ (.head _))
  refine ⟨fun i hi => ?_, fun i hi => ?_⟩
  · rw [← kN_get i hi]
    exact cells_of_reads (g := 1) (t := 181) h2 (by kernel_rfl) (by kernel_rfl) Tryz.underlying181 Tryz.underlying158 (by kernel_rfl) (by kernel_rfl) i hi
  · have := cells_of_reads (g := 0) (t := 168) h1 (by kernel_rfl) (by kernel_rfl) Tryz.underlying168 Tryz.underlying158 (by kernel_rfl) (by kernel_rfl) i hi
    refine this.trans ?_
    match i, hi with
    | 0, _ | 1, _ | 2, _ | 3, _ | 4, _ | 5, _ | 6, _ | 7, _ => rfl
end Go.Proofs.YtnoflgkjdibblaaGreatDoor
