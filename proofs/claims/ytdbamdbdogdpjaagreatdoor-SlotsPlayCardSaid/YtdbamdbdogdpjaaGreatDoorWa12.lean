/-
  Texts put together: DkB, DkC, DkD. No statement is proved here.
-/
import Derived.Test.YtdbamdbdogdpjaaGreatDoorWa11

/-
  The document's own disk: what is flushed. No statement is proved here.
-/
namespace Go.Proofs.YtdbamdbdogdpjaaGreatDoor.S19
set_option linter.unusedSimpArgs false
set_option linter.unusedVariables false
set_option maxRecDepth 4096
open Go.RowKit

section
variable {N : Nat} {w : World} {h bS n cS : Nat} {G : Nat → Prop} {V : RkV} {sure : List (List UInt8)} {zs : List Int} {rs : List (List UInt8)} {fails : List Int}
/-- One sure row is another one. -/
theorem Rest.setS (r : Rest N w h sure zs rs fails G V) (hS : V.vS = .slice (some ⟨bS, 0, none⟩) sure.length cS) {i : Nat} (hi : i < sure.length) {u : Value} {xs : List UInt8} (hu : Rr w G h V (some u) xs) :
    Rest N (w.setCell ⟨bS, i, none⟩ u) h (sure.set i xs) zs rs fails G { V with ss := V.ss.set i u } ∧ Mv N G w (w.setCell ⟨bS, i, none⟩ u) := by
  have hob : V.vS.ownBlock = some bS := by rw [hS]; rfl
  have hk : ∀ b, b ≠ bS → (w.setCell ⟨bS, i, none⟩ u).heap[b]? = w.heap[b]? := fun b hb => Below.heap_setCell w ⟨bS, i, none⟩ u b hb
  have hs : w.heap.size ≤ (w.setCell ⟨bS, i, none⟩ u).heap.size := by simp
  have hG : G bS := r.inG bS (.inr (.inl hob))
  have hrow : ∀ u' xs', Rr w G h V u' xs' → Rr (w.setCell ⟨bS, i, none⟩ u) G h { V with ss := V.ss.set i u } u' xs' := fun u' xs' hr => by
    have := hr.keep (w' := w.setCell ⟨bS, i, none⟩ u) hs fun b _ h2 _ => hk b fun e => h2 (.inr (.inl (by rw [e]; exact hob)))
    exact this
  have oS := r.oS
  have hsl : V.ss.length = sure.length := by have := oS.1; omega
  refine ⟨⟨?_, fun j hj => ?_, own_keepH r.oW fun b e _ => hk b fun e' => (r.dW b e).2.1 (by rw [e']; exact hob), own_keepH r.oB fun b e _ => hk b fun e' => (r.dB b e).2.1 (by rw [e']; exact hob), fun j hj => hrow _ _ (r.rB j hj),
    r.rF.keep hs fun a h1 h2 _ => hk _ fun e => (r.inF a h1 h2).2 (.inr (.inl (by rw [e]; exact hob))), r.inF, r.inG, fun b hb => ⟨(r.gN b hb).1, Nat.lt_of_lt_of_le (r.gN b hb).2 hs⟩, r.dS, r.dW, r.dB⟩,
    ⟨(Below.refl _ _).setCell (p := ⟨bS, i, none⟩) (r.gN bS hG).1 u, fun b _ hb => hk b (by rintro rfl; exact hb hG)⟩⟩
  · rw [List.length_set]
    rw [hS] at oS ⊢
    exact (oS.stored i u).1
  · rw [List.length_set] at hj
    show Rr _ G h _ (V.ss.set i u)[j]? ((sure.set i xs).getD j [])
    by_cases e : i = j
    · subst e
      rw [List.getElem?_set_self (by omega), List.getD_eq_getElem?_getD, List.getElem?_set_self hi]
      exact hrow _ _ hu
    · rw [List.getElem?_set_ne e, List.getD_eq_getElem?_getD, List.getElem?_set_ne e, ← List.getD_eq_getElem?_getD]
      exact hrow _ _ (r.rS j hj)
/-- Nothing is pending. -/
theorem Rest.nil (r : Rest N w h sure zs rs fails G V) : Rest N w h sure [] [] fails G { V with vW := .slice none 0 0, vB := .slice none 0 0, bs := [] } := by
  have hsp : ∀ b, spine h { V with vW := .slice none 0 0, vB := .slice none 0 0, bs := [] } b → spine h V b := by
    rintro b (e | e | e | e)
    · exact .inl e
    · exact .inr (.inl e)
    · simp [Value.ownBlock] at e
    · simp [Value.ownBlock] at e
  refine ⟨r.oS, fun i hi => ?_, World.ownsRow_nil _ _ _ _, World.ownsRow_nil _ _ _ _, fun i hi => absurd hi (by simp), r.rF, fun a h1 h2 => ⟨(r.inF a h1 h2).1, fun e => (r.inF a h1 h2).2 (hsp _ e)⟩, fun b e => r.inG b (hsp b e), r.gN, ?_, ?_, ?_⟩
  · obtain ⟨A, n, c, h1, h2, h3⟩ := r.rS i hi
    exact ⟨A, n, c, h1, h2, fun a q1 q2 => ⟨(h3 a q1 q2).1, fun e => (h3 a q1 q2).2 (hsp _ e)⟩⟩
  · intro b e
    exact ⟨(r.dS b e).1, by simp [Value.ownBlock], by simp [Value.ownBlock]⟩
  · intro b e
    simp [Value.ownBlock] at e
  · intro b e
    simp [Value.ownBlock] at e
end
theorem laid_snoc (i : Nat) (b : List UInt8) : ∀ (ps : List (Nat × List UInt8)) (s : List (List UInt8)), Dk.laid (ps ++ [(i, b)]) s = (Dk.laid ps s).set i b
  | [], s => rfl
  | p :: ps, s => by rw [List.cons_append, Dk.laid, laid_snoc i b ps, Dk.laid]
theorem laid_take (ps : List (Nat × List UInt8)) (s : List (List UInt8)) (k : Nat) (hk : k < ps.length) : Dk.laid (ps.take (k + 1)) s = (Dk.laid (ps.take k) s).set (ps.getD k (0, [])).1 (ps.getD k (0, [])).2 := by
  have e : ps.take (k + 1) = ps.take k ++ [((ps.getD k (0, [])).1, (ps.getD k (0, [])).2)] := by
    have e0 : ((ps.getD k (0, [])).1, (ps.getD k (0, [])).2) = ps[k] := by simp [List.getD, hk]
    rw [e0, List.take_add_one, List.getElem?_eq_getElem hk]
    rfl
  rw [e, laid_snoc]
end Go.Proofs.YtdbamdbdogdpjaaGreatDoor.S19

/-
  The document's own disk: Flush. No statement is proved here. (Written by gendkc.py.)
-/
namespace Go.Proofs.YtdbamdbdogdpjaaGreatDoor.S19
set_option linter.unusedSimpArgs false
set_option linter.unusedVariables false
set_option maxRecDepth 4096
open Go.RowKit

set_option maxHeartbeats 8000000 in
theorem rflushD_any {L : Value} (N : Nat) (w : World) (h : Nat) (D : Dk) (G : Nat → Prop) (r : Rk N w h L D G) (hc : D.cnt < 1099511627776) : Calls Tryz.prog 39 #[.pointer (some ⟨h, 0, none⟩)] w (PostR N G h L w D.flush (.int .i64 (D.stepC : Int))) := by
  have CC := Lib.hid (counted_any N w h D G r hc)
  have hok := r.ok
  have hOK := Dk.flush_ok hok
  obtain ⟨cd, hcd⟩ : ∃ cd, cd = D.stepC := ⟨_, rfl⟩
  rw [← hcd] at CC ⊢
  by_cases hz : cd = 0
  case neg =>
    have e : D.flush = if D.off = true then D else D.step := by
      unfold Dk.flush
      by_cases ho : D.off = true
      · rw [if_pos ho, if_pos ho]
      · rw [if_neg ho, if_neg ho, if_neg (by rw [← hcd]; exact hz)]
    rw [e]
    have y1 : ((cd : Int) == 0) = false := by simp; omega
    have y2 : ¬ (cd : Int) = 0 := by omega
    generalize (if D.off = true then D else D.step) = D1 at *
    clear hok hOK hcd e r hz hc
    go_enter Tryz.func39, Tryz.ntmps39
    go_wp2_with (go_at_call 55; ((with_reducible refine CC.out.mono ?_); rintro e w1 ⟨rfl, G1, r1, s1, m1⟩; have R1 := Lib.hid r1; have S1 := Lib.hid s1; have M1 := Lib.hid m1; clear r1 s1 m1))
    go_ret
    exact ⟨rfl, G1, R1.out, S1.out, M1.out⟩
  case pos =>
    subst hz
    have ho : ¬ D.off = true := by
      intro e
      rw [Dk.stepC, if_pos e] at hcd; cases hcd
    have e : D.flush = { D.step with sure := Dk.laid D.pend D.sure, pend := [] } := by rw [Dk.flush, if_neg ho, if_pos hcd.symm]
    rw [e] at hOK ⊢
    rw [if_neg ho] at CC
    have h1 := Dk.step_sure D
    have h2 := Dk.step_pend D
    obtain ⟨D1, hD1⟩ : ∃ D1, D1 = D.step := ⟨_, rfl⟩
    rw [← hD1] at hOK h1 h2 CC ⊢
    rw [← h1, ← h2] at hOK ⊢
    have HOK := Lib.hid hOK
    have HPB := Lib.hid (show ∀ p ∈ D1.pend, p.1 < D1.sure.length from by rw [h1, h2]; exact fun p hp => (hok.pend p hp).1)
    have HPL := Lib.hid (show D1.pend.length ≤ 1099511627776 by rw [h2]; have := hok.few; omega)
    clear hok hOK hcd e r hc ho hD1 h1 h2
    go_enter Tryz.func39, Tryz.ntmps39
    go_upto_region 4 with (go_at_call 55; ((with_reducible refine CC.out.mono ?_); rintro e w1 ⟨rfl, G1, r1, s1, m1⟩; have R1 := Lib.hid r1; have S1 := Lib.hid s1; have M1 := Lib.hid m1; clear r1 s1 m1))
    obtain ⟨V1, hb1, hr1⟩ := R1.out.ex
    have E1 := Lib.hid hr1
    have T1 := Lib.hid hb1
    have GN := Lib.hid (show N ≤ h ∧ G1 h ∧ N ≤ w1.heap.size from ⟨(hr1.gN h (hr1.inG h (.inl rfl))).1, hr1.inG h (.inl rfl), by have := hr1.gN h (hr1.inG h (.inl rfl)); omega⟩)
    obtain ⟨pl, hpl⟩ : ∃ pl, pl = D1.pend.length := ⟨_, rfl⟩
    obtain ⟨sl, hsl⟩ : ∃ sl, sl = D1.sure.length := ⟨_, rfl⟩
    obtain ⟨AW, cW, eW⟩ := own_form hr1.oW
    obtain ⟨AB, cB, eB⟩ := own_form hr1.oB
    obtain ⟨AS, cS, eS⟩ := own_form hr1.oS
    rw [pendZ_len, ← hpl] at eW
    rw [pendR_len, ← hpl] at eB
    rw [← hsl] at eS
    have HPP := Lib.hid hpl
    have HSL := Lib.hid hsl
    have HEW := Lib.hid eW
    have HEB := Lib.hid eB
    have HES := Lib.hid eS
    rw [eW, eB, eS] at T1
    have hplB : pl ≤ 1099511627776 := by rw [hpl]; exact HPL.out
    clear hb1 hr1 hpl hsl eW eB eS CC R1
    go_wp2_with (fail)
    go_loopw [4] (fun kv wi => ∃ (k : Nat) (ss : List Value), k ≤ pl ∧ kv = .int .i64 (k : Int) ∧ Bk wi h 52 #[L, .slice AS sl cS, .slice AW pl cW, .slice AB pl cB, .slice V1.AF V1.nF V1.cF, .int .i64 D1.stop, .int .i64 (D1.cnt : Int), .bool D1.off] ∧ Rest N wi h (Dk.laid (D1.pend.take k) D1.sure) (pendZ D1.pend) (pendR D1.pend) D1.fails G1 { V1 with ss := ss } ∧ Mv N G1 w1 wi)
      (fun kv _ => pl - (intOf kv).toNat)
    case atStart => exact ⟨0, V1.ss, Nat.zero_le _, rfl, T1.out, by rw [List.take_zero]; exact E1.out, Mv.refl _ _ _⟩
    case round =>
      obtain ⟨k, ss, hk, rfl, hT, hE, hM⟩ := hrel
      have TR := Lib.hid hT
      have ER := Lib.hid hE
      have MR := Lib.hid hM
      have k1 : wr.cell? ⟨h, 1, none⟩ = some (.slice AS sl cS) := hT.cell 1
      have k2 : wr.cell? ⟨h, 2, none⟩ = some (.slice AW pl cW) := hT.cell 2
      have k3 : wr.cell? ⟨h, 3, none⟩ = some (.slice AB pl cB) := hT.cell 3
      clear hT hE hM T1 E1
      by_cases hlt : k < pl
      · have t0 : (k : Int) < (pl : Int) := by omega
        have hlk : k < D1.pend.length := by have := HPP.out; omega
        have OW := ER.out.oW
        have OB := ER.out.oB
        have OS := ER.out.oS
        rw [pendZ_len, ← HPP.out] at OW
        rw [pendR_len, ← HPP.out] at OB
        rw [Dk.laid_len, ← HSL.out] at OS
        have eW : V1.vW = .slice AW pl cW := HEW.out
        have eB : V1.vB = .slice AB pl cB := HEB.out
        have eS : V1.vS = .slice AS sl cS := HES.out
        have OW : wr.ownsRow N 3 1 (.slice AW pl cW) pl (zv (pendZ D1.pend)) := by rw [← eW]; exact OW
        have OB : wr.ownsRow N 35 1 (.slice AB pl cB) pl V1.bs := by rw [← eB]; exact OB
        have OS : wr.ownsRow N 35 1 (.slice AS sl cS) sl ss := by rw [← eS]; exact OS
        obtain ⟨bW, hbW, hlW, hcW, _⟩ := own_cellB OW hlt
        obtain ⟨bB, hbB, hlB, hcB, _⟩ := own_cellB OB hlt
        obtain ⟨pw, hpw⟩ : ∃ pw, pw = (D1.pend.getD k (0, [])).1 := ⟨_, rfl⟩
        have hpwl : pw < sl := by
          rw [hpw, HSL.out]
          exact HPB.out _ (by rw [List.getD_eq_getElem?_getD, List.getElem?_eq_getElem hlk]; exact List.getElem_mem _)
        obtain ⟨bS, hbS, hlS, hcS, hfS⟩ := own_cellB OS hpwl
        rw [pendZ_at _ _ hlk, ← hpw] at hcW
        obtain ⟨A1, n1, c1, e1, r1, g1⟩ := ER.out.rB k (by rw [pendR_len]; exact hlk)
        have e1' : V1.bs[k]? = some (.slice A1 n1 c1) := e1
        rw [e1'] at hcB
        have hss : ∃ us, ss[pw]? = some us := ⟨_, List.getElem?_eq_getElem (by have := OS.1; omega)⟩
        obtain ⟨us, hus⟩ := hss
        rw [hus] at hcS
        have hneW : bW ≠ bS ∧ bW ≠ h := by
          have := ER.out.dW bW (by show V1.vW.ownBlock = _; rw [eW, hbW]; rfl)
          exact ⟨fun e => this.2.1 (by show V1.vS.ownBlock = _; rw [eS, hbS, e]; rfl), this.1⟩
        have hneB : bB ≠ bS := by
          have := ER.out.dB bB (by show V1.vB.ownBlock = _; rw [eB, hbB]; rfl)
          exact fun e => this.2.1 (by show V1.vS.ownBlock = _; rw [eS, hbS, e]; rfl)
        have hneH : h ≠ bS := Ne.symm (ER.out.dS bS (by show V1.vS.ownBlock = _; rw [eS, hbS]; rfl)).1
        have GD := Lib.hid (Below.refl wr.heap.size wr).drew
        have ED := Lib.hid (ER.out.keep GD.out.size fun b _ hl => GD.out.block b hl)
        have SET := Lib.hid (Rest.setS (bS := bS) (cS := cS) (i := pw) (u := .slice A1 n1 c1) (xs := (pendR D1.pend).getD k []) ED.out (by show V1.vS = _; rw [eS, hbS, Dk.laid_len, HSL.out]) (by rw [Dk.laid_len, ← HSL.out]; exact hpwl) (by
          have := ED.out.rB k (by rw [pendR_len]; exact hlk)
          have e2 : ({ V1 with ss := ss } : RkV).bs[k]? = some (.slice A1 n1 c1) := e1
          rw [e2] at this
          exact this))
        have STEP := Lib.hid (show (Dk.laid (D1.pend.take k) D1.sure).set pw ((pendR D1.pend).getD k []) = Dk.laid (D1.pend.take (k + 1)) D1.sure by rw [laid_take _ _ _ hlk, pendR_at, hpw])
        rw [hbW] at k2
        rw [hbB] at k3
        rw [hbS] at k1
        have KS := Lib.hid (show ∀ X : World, (∀ b, b < wr.heap.size → b ≠ bS → X.heap[b]? = wr.heap[b]?) → X.cell? ⟨h, 1, none⟩ = some (.slice (some ⟨bS, 0, none⟩) sl cS) ∧ X.cell? ⟨h, 2, none⟩ = some (.slice (some ⟨bW, 0, none⟩) pl cW) ∧ X.cell? ⟨h, 3, none⟩ = some (.slice (some ⟨bB, 0, none⟩) pl cB) ∧ X.cell? ⟨bW, k, none⟩ = some (.int .i64 (pw : Int)) ∧ X.cell? ⟨bB, k, none⟩ = some (.slice A1 n1 c1) from fun X hX =>
          ⟨(World.cell?_of_block (a := ⟨h, 1, none⟩) (hX h TR.out.lt hneH)).trans k1, (World.cell?_of_block (a := ⟨h, 2, none⟩) (hX h TR.out.lt hneH)).trans k2, (World.cell?_of_block (a := ⟨h, 3, none⟩) (hX h TR.out.lt hneH)).trans k3, (World.cell?_of_block (a := ⟨bW, k, none⟩) (hX bW hlW hneW.1)).trans hcW, (World.cell?_of_block (a := ⟨bB, k, none⟩) (hX bB hlB hneB)).trans hcB⟩)
        have c9 : wr.drew.cell? ⟨bS, pw, none⟩ = some us := (GD.out.cell (p := ⟨bS, pw, none⟩) hlS).trans hcS
        have f9 : wr.drew.frozen? ⟨bS, pw, none⟩ = false := hfS
        have p0 : (pw : Int) < (sl : Int) := by omega
        have HNH := Lib.hid hneH
        clear hcW hcB hcS hfS hus hneW hneB e1 e1' r1 g1 OW OB OS eW eB eS hbW hbB hlW hlB hpw hlk hpwl
        subst hbS
        go_upto_region 7 with (fail)
        clear k1 k2 k3
        (go_region_held3 (fun X => X.cell? ⟨h, 1, none⟩ = some (.slice (some ⟨bS, 0, none⟩) sl cS) ∧ X.cell? ⟨h, 2, none⟩ = some (.slice (some ⟨bW, 0, none⟩) pl cW) ∧ X.cell? ⟨h, 3, none⟩ = some (.slice (some ⟨bB, 0, none⟩) pl cB) ∧ X.cell? ⟨bW, k, none⟩ = some (.int .i64 (pw : Int)) ∧ X.cell? ⟨bB, k, none⟩ = some (.slice A1 n1 c1)) (first
          | exact KS.out _ (fun b hb hne => (Below.heap_setCell _ ⟨bS, pw, none⟩ _ b hne).trans (GD.out.block b hb))
          | exact KS.out _ (fun b hb _ => GD.out.block b hb)) (fail))
        have T3 := Lib.hid ((TR.out.below GD.out TR.out.lt).far (p := ⟨bS, pw, none⟩) HNH.out (.slice A1 n1 c1))
        have M3 := Lib.hid ((Mv.of (N := N) (F := G1) (Nat.le_trans GN.out.2.2 MR.out.size) GD.out).trans SET.out.2 (fun b hb => .inl hb))
        have E3 := Lib.hid SET.out.1
        rw [STEP.out] at E3
        clear c9 f9 SET ED
        obtain ⟨w5, hw5⟩ : ∃ w5, w5 = (wr.setCell ⟨bS, pw, none⟩ (.slice A1 n1 c1)).drew := ⟨_, rfl⟩
        have conv : wr.drew.setCell ⟨bS, pw, none⟩ (.slice A1 n1 c1) = w5 := by rw [hw5]; rfl
        rw [conv] at T3 E3 M3
        first
          | rw [← hw5]
          | rw [conv]
          | skip
        clear conv hw5
        go_wp2_with (fail)
        go_roundw
        case rel => exact ⟨k + 1, _, by omega, by go_num, T3.out, E3.out, MR.out.trans M3.out (fun b hb => .inl hb)⟩
        case measure => simp [intOf]; omega
      · have t0 : ¬ (k : Int) < (pl : Int) := by omega
        obtain rfl : k = pl := by omega
        have f2 := TR.out.frozen 2
        have f3 := TR.out.frozen 3
        have TF := Lib.hid ((TR.out.put 2 (.slice none 0 0)).put 3 (.slice none 0 0))
        have EF := Lib.hid (((ER.out.nil).poke 2 (.slice none 0 0)).poke 3 (.slice none 0 0))
        have MF := Lib.hid ((MR.out.trans (Mv.poke (G := G1) GN.out.1 GN.out.2.1 wr 2 (.slice none 0 0)) (fun b hb => .inl hb)).trans (Mv.poke (G := G1) GN.out.1 GN.out.2.1 _ 3 (.slice none 0 0)) (fun b hb => .inl hb))
        rw [show D1.pend.take k = D1.pend by rw [HPP.out, List.take_length]] at EF
        go_wp2_with (fail)
        go_ret
        refine ⟨rfl, G1, ⟨HOK.out, _, ?_, EF.out⟩, S1.out, M1.out.trans MF.out S1.out⟩
        have := TF.out
        rw [← HES.out] at this
        exact this
end Go.Proofs.YtdbamdbdogdpjaaGreatDoor.S19

/-
  The document's own disk: one sure row more; rows that have come. No statement is proved here.
-/
namespace Go.Proofs.YtdbamdbdogdpjaaGreatDoor.S19
set_option linter.unusedSimpArgs false
set_option linter.unusedVariables false
set_option maxRecDepth 4096
open Go.RowKit

section
variable {N : Nat} {w wl w' : World} {h : Nat} {G : Nat → Prop} {V : RkV} {sure : List (List UInt8)} {zs : List Int} {rs : List (List UInt8)} {fails : List Int}
theorem Rest.lo (r : Rest N w h sure zs rs fails G V) : N ≤ w.heap.size := by have := r.gN h (r.inG h (.inl rfl)); omega
theorem Rest.fLt (r : Rest N w h sure zs rs fails G V) : ∀ a, 0 < V.nF → V.AF = some a → a.block < w.heap.size := fun a h1 h2 => by
  obtain ⟨b, off, e, hbb, _⟩ := r.rF.at_ h1
  rw [h2] at e
  injection e with e
  subst e
  exact hbb
/-- One sure row more. -/
theorem Rest.pushS (r : Rest N w h sure zs rs fails G V) (hb : Below w.heap.size w wl) {v' u : Value} {xs : List UInt8} {A : Option Addr} {n c : Nat} (ho : w'.ownsRow N 35 1 v' (sure ++ [xs]).length (V.ss ++ [u])) (hg : wl.grownBy w' V.vS.ownBlock) (hv : v'.ownBlock = V.vS.ownBlock ∨ v'.ownBlock = some wl.heap.size) (hlt : ∀ b, v'.ownBlock = some b → b < w'.heap.size)
    (hu : u = .slice A n c) (hr : Rd wl A n c xs) (hA : ∀ a, 0 < n → A = some a → w.heap.size ≤ a.block) :
    Rest N w' h (sure ++ [xs]) zs rs fails (fun b => plus G v' b ∨ ∃ a, 0 < n ∧ A = some a ∧ a.block = b) { V with vS := v', ss := V.ss ++ [u] } ∧ Mv N G w w' ∧ (∀ b, (plus G v' b ∨ ∃ a, 0 < n ∧ A = some a ∧ a.block = b) → G b ∨ w.heap.size ≤ b) := by
  have hsz : w.heap.size ≤ w'.heap.size := Nat.le_trans hb.size hg.size
  have hk := grown_keep hb hg
  have hN := r.lo
  have hbs := hb.size
  have hG : ∀ b, V.vS.ownBlock = some b → G b := fun b e => r.inG b (.inr (.inl e))
  have hnew : ∀ b, v'.ownBlock = some b → V.vS.ownBlock = some b ∨ b = wl.heap.size := fun b e => by
    rcases hv with hv | hv
    · exact .inl (hv ▸ e)
    · rw [hv] at e
      exact .inr (Option.some.inj e).symm
  have hnotlow : ∀ b, b < w.heap.size → v'.ownBlock = some b → V.vS.ownBlock = some b := fun b hl e => by
    rcases hnew b e with e | e
    · exact e
    · omega
  have hbl : V.ss.length = sure.length := by have := r.oS.1; omega
  subst hu
  have hAl : ∀ a, 0 < n → A = some a → a.block < wl.heap.size := fun a h1 h2 => by
    obtain ⟨b, off, e, hbb, _⟩ := hr.at_ h1
    rw [h2] at e
    injection e with e
    subst e
    exact hbb
  have hsp : ∀ b, b < w.heap.size → spine h { V with vS := v', ss := V.ss ++ [.slice A n c] } b → spine h V b := by
    rintro b hl (e | e | e | e)
    · exact .inl e
    · exact .inr (.inl (hnotlow b hl e))
    · exact .inr (.inr (.inl e))
    · exact .inr (.inr (.inr e))
  have hrow : ∀ u xs, Rr w G h V u xs → Rr w' (fun b => plus G v' b ∨ ∃ a, 0 < n ∧ A = some a ∧ a.block = b) h { V with vS := v', ss := V.ss ++ [.slice A n c] } u xs := by
    rintro u xs ⟨A, n, c, h1, h2, h3⟩
    refine ⟨A, n, c, h1, ⟨h2.len, h2.cap, h2.max, h2.nil, fun hn => ?_⟩, fun a hn ha => ?_⟩
    · obtain ⟨b, off, rfl, hlb, hc⟩ := h2.at_ hn
      obtain ⟨q1, q2⟩ := h3 _ hn rfl
      exact ⟨b, off, rfl, Nat.lt_of_lt_of_le hlb hsz, fun j hj => (World.cell?_of_block (a := ⟨b, off + j, none⟩) (hk b hlb fun e => q2 (.inr (.inl e)))).trans (hc j hj)⟩
    · obtain ⟨q1, q2⟩ := h3 a hn ha
      exact ⟨.inl (.inl q1), fun e => q2 (hsp _ (r.gN _ q1).2 e)⟩
  refine ⟨⟨ho, fun i hi => ?_, own_keepH r.oW fun b e hl => hk b hl (r.dW b e).2.1, own_keepH r.oB fun b e hl => hk b hl (r.dB b e).2.1, fun i hi => hrow _ _ (r.rB i hi),
      r.rF.keep hsz fun a h1 h2 h3 => hk _ h3 fun e => (r.inF a h1 h2).2 (.inr (.inl e)), fun a h1 h2 => ⟨(r.inF a h1 h2).1.imp id fun q => .inl (.inl q), fun e => (r.inF a h1 h2).2 (hsp _ (r.fLt a h1 h2) e)⟩, ?_, ?_, ?_, ?_, ?_⟩, ⟨?_, ?_⟩, ?_⟩
  · by_cases hlt' : i < sure.length
    · have := hrow _ _ (r.rS i hlt')
      show Rr w' _ h _ (V.ss ++ [.slice A n c])[i]? ((sure ++ [xs]).getD i [])
      rw [List.getElem?_append_left (by omega), List.getD_eq_getElem?_getD, List.getElem?_append_left hlt', ← List.getD_eq_getElem?_getD]
      exact this
    · have hil : i = sure.length := by rw [List.length_append, List.length_singleton] at hi; omega
      subst hil
      show Rr w' _ h _ (V.ss ++ [.slice A n c])[sure.length]? ((sure ++ [xs]).getD sure.length [])
      rw [List.getElem?_append_right (by omega), hbl, Nat.sub_self, List.getD_eq_getElem?_getD, List.getElem?_append_right (Nat.le_refl _), Nat.sub_self]
      refine ⟨A, n, c, rfl, ⟨hr.len, hr.cap, hr.max, hr.nil, fun hn => ?_⟩, fun a h1 h2 => ⟨.inr ⟨a, h1, h2, rfl⟩, ?_⟩⟩
      · obtain ⟨b, off, e, hlb, hc⟩ := hr.at_ hn
        refine ⟨b, off, e, Nat.lt_of_lt_of_le hlb hg.size, fun j hj => (World.cell?_of_block (a := ⟨b, off + j, none⟩) (hg.block b hlb fun e' => ?_)).trans (hc j hj)⟩
        have q1 := hA _ hn e
        have q2 := (r.gN b (hG b e'.symm)).2
        have : (⟨b, off, none⟩ : Addr).block = b := rfl
        omega
      · have q1 := hA a h1 h2
        have q3 := hAl a h1 h2
        rintro (e | e | e | e)
        · have := (r.gN h (r.inG h (.inl rfl))).2; omega
        · rcases hnew _ e with e | e
          · have := (r.gN _ (hG _ e)).2; omega
          · omega
        · have := (r.gN _ (r.inG _ (.inr (.inr (.inl e))))).2; omega
        · have := (r.gN _ (r.inG _ (.inr (.inr (.inr e))))).2; omega
  · rintro b (e | e | e | e)
    · exact .inl (.inl (r.inG b (.inl e)))
    · exact .inl (.inr e)
    · exact .inl (.inl (r.inG b (.inr (.inr (.inl e)))))
    · exact .inl (.inl (r.inG b (.inr (.inr (.inr e)))))
  · rintro b ((e | e) | ⟨a, h1, h2, rfl⟩)
    · exact ⟨(r.gN b e).1, Nat.lt_of_lt_of_le (r.gN b e).2 hsz⟩
    · refine ⟨?_, hlt b e⟩
      rcases hnew b e with e | e
      · exact (r.gN b (hG b e)).1
      · omega
    · exact ⟨Nat.le_trans hN (hA a h1 h2), Nat.lt_of_lt_of_le (hAl a h1 h2) hg.size⟩
  · intro b e
    rcases hnew b e with e' | e'
    · exact r.dS b e'
    · refine ⟨fun q => ?_, fun q => ?_, fun q => ?_⟩
      · have := (r.gN h (r.inG h (.inl rfl))).2; omega
      · have := (r.gN b (r.inG b (.inr (.inr (.inl q))))).2; omega
      · have := (r.gN b (r.inG b (.inr (.inr (.inr q))))).2; omega
  · intro b e
    refine ⟨(r.dW b e).1, fun e' => (r.dW b e).2.1 (hnotlow b (r.gN b (r.inG b (.inr (.inr (.inl e))))).2 e'), (r.dW b e).2.2⟩
  · intro b e
    refine ⟨(r.dB b e).1, fun e' => (r.dB b e).2.1 (hnotlow b (r.gN b (r.inG b (.inr (.inr (.inr e))))).2 e'), (r.dB b e).2.2⟩
  · exact (hb.mono hN).grown hg (Nat.le_trans hN hb.size) fun b e => (r.gN b (hG b e)).1
  · exact fun b h1 h2 => hk b h1 fun e => h2 (hG b e)
  · rintro b ((e | e) | ⟨a, h1, h2, rfl⟩)
    · exact .inl e
    · rcases hnew b e with e | e
      · exact .inl (hG b e)
      · exact .inr (by omega)
    · exact .inr (hA a h1 h2)
/-- More blocks may be meant. -/
theorem Rest.more (r : Rest N w h sure zs rs fails G V) {G' : Nat → Prop} (hG : ∀ b, G b → G' b) (hN : ∀ b, G' b → N ≤ b ∧ b < w.heap.size) : Rest N w h sure zs rs fails G' V :=
  ⟨r.oS, fun i hi => (by obtain ⟨A, n, c, h1, h2, h3⟩ := r.rS i hi; exact ⟨A, n, c, h1, h2, fun a q1 q2 => ⟨hG _ (h3 a q1 q2).1, (h3 a q1 q2).2⟩⟩), r.oW, r.oB,
    fun i hi => (by obtain ⟨A, n, c, h1, h2, h3⟩ := r.rB i hi; exact ⟨A, n, c, h1, h2, fun a q1 q2 => ⟨hG _ (h3 a q1 q2).1, (h3 a q1 q2).2⟩⟩), r.rF,
    fun a h1 h2 => ⟨(r.inF a h1 h2).1.imp id (hG _), (r.inF a h1 h2).2⟩, fun b e => hG b (r.inG b e), hN, r.dS, r.dW, r.dB⟩
/-- A disk of no sector. -/
theorem Rest.start {w : World} {h : Nat} (hN : N ≤ h) (hl : h < w.heap.size) : Rest N w h [] [] [] [] (fun b => b = h) ⟨.slice none 0 0, [], .slice none 0 0, .slice none 0 0, [], none, 0, 0⟩ := by
  refine ⟨World.ownsRow_nil _ _ _ _, fun i hi => absurd hi (by simp), World.ownsRow_nil _ _ _ _, World.ownsRow_nil _ _ _ _, fun i hi => absurd hi (by simp), RI.nil_ _ _, fun a h1 => absurd h1 (by simp), ?_, ?_, ?_, ?_, ?_⟩
  · rintro b (e | e | e | e)
    · exact e
    · simp [Value.ownBlock] at e
    · simp [Value.ownBlock] at e
    · simp [Value.ownBlock] at e
  · rintro b rfl; exact ⟨hN, hl⟩
  · intro b e; simp [Value.ownBlock] at e
  · intro b e; simp [Value.ownBlock] at e
  · intro b e; simp [Value.ownBlock] at e
end
end Go.Proofs.YtdbamdbdogdpjaaGreatDoor.S19
