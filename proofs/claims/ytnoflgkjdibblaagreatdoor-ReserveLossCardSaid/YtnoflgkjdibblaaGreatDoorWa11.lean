/-
  Texts put together: DkC, DkD, DkE, DkF. No statement is proved here.
-/
import Derived.Test.YtnoflgkjdibblaaGreatDoorWa10

/-
  The document's own disk: Flush. No statement is proved here. (Written by gendkc.py.)
-/
namespace Go.Proofs.YtnoflgkjdibblaaGreatDoor.S19
set_option linter.unusedSimpArgs false
set_option linter.unusedVariables false
set_option maxRecDepth 4096
open Go.RowKit

set_option maxHeartbeats 8000000 in
theorem rflushD_any {L : Value} (N : Nat) (w : World) (h : Nat) (D : Dk) (G : Nat → Prop) (r : Rk N w h L D G) (hc : D.cnt < 1099511627776) : Calls Tryz.prog 72 #[.pointer (some ⟨h, 0, none⟩)] w (PostR N G h L w D.flush (.int .i64 (D.stepC : Int))) := by
  have CC := Lib.hid (counted_any N w h D G r hc)
  have hok := r.ok
  have hOK := Dk.flush_ok hok
  obtain ⟨cd, hcd⟩ : ∃ cd, cd = D.stepC := ⟨_, rfl⟩
  rw [← hcd] at CC ⊢
  by_cases hz : cd = 0
  case neg =>
    have e : D.flush = if D.off = true then D else D.step := by
      unfold Dk.flush
      by_cases ho : D.off = true
      · rw [if_pos ho, if_pos ho]
      · rw [if_neg ho, if_neg ho, if_neg (by rw [← hcd]; exact hz)]
    rw [e]
    have y1 : ((cd : Int) == 0) = false := by simp; omega
    have y2 : ¬ (cd : Int) = 0 := by omega
    generalize (if D.off = true then D else D.step) = D1 at *
    clear hok hOK hcd e r hz hc
    go_enter Tryz.func72, Tryz.ntmps72
    go_wp2_with (go_at_call 92; ((with_reducible refine CC.out.mono ?_); rintro e w1 ⟨rfl, G1, r1, s1, m1⟩; have R1 := Lib.hid r1; have S1 := Lib.hid s1; have M1 := Lib.hid m1; clear r1 s1 m1))
    go_ret
    exact ⟨rfl, G1, R1.out, S1.out, M1.out⟩
  case pos =>
    subst hz
    have ho : ¬ D.off = true := by
      intro e
      rw [Dk.stepC, if_pos e] at hcd; cases hcd
    have e : D.flush = { D.step with sure := Dk.laid D.pend D.sure, pend := [] } := by rw [Dk.flush, if_neg ho, if_pos hcd.symm]
    rw [e] at hOK ⊢
    rw [if_neg ho] at CC
    have h1 := Dk.step_sure D
    have h2 := Dk.step_pend D
    obtain ⟨D1, hD1⟩ : ∃ D1, D1 = D.step := ⟨_, rfl⟩
    rw [← hD1] at hOK h1 h2 CC ⊢
    rw [← h1, ← h2] at hOK ⊢
    have HOK := Lib.hid hOK
    have HPB := Lib.hid (show ∀ p ∈ D1.pend, p.1 < D1.sure.length from by rw [h1, h2]; exact fun p hp => (hok.pend p hp).1)
    have HPL := Lib.hid (show D1.pend.length ≤ 1099511627776 by rw [h2]; have := hok.few; omega)
    clear hok hOK hcd e r hc ho hD1 h1 h2
    go_enter Tryz.func72, Tryz.ntmps72
    go_upto_region 4 with (go_at_call 92; ((with_reducible refine CC.out.mono ?_); rintro e w1 ⟨rfl, G1, r1, s1, m1⟩; have R1 := Lib.hid r1; have S1 := Lib.hid s1; have M1 := Lib.hid m1; clear r1 s1 m1))
    obtain ⟨V1, hb1, hr1⟩ := R1.out.ex
    have E1 := Lib.hid hr1
    have T1 := Lib.hid hb1
    have GN := Lib.hid (show N ≤ h ∧ G1 h ∧ N ≤ w1.heap.size from ⟨(hr1.gN h (hr1.inG h (.inl rfl))).1, hr1.inG h (.inl rfl), by have := hr1.gN h (hr1.inG h (.inl rfl)); omega⟩)
    obtain ⟨pl, hpl⟩ : ∃ pl, pl = D1.pend.length := ⟨_, rfl⟩
    obtain ⟨sl, hsl⟩ : ∃ sl, sl = D1.sure.length := ⟨_, rfl⟩
    obtain ⟨AW, cW, eW⟩ := own_form hr1.oW
    obtain ⟨AB, cB, eB⟩ := own_form hr1.oB
    obtain ⟨AS, cS, eS⟩ := own_form hr1.oS
    rw [pendZ_len, ← hpl] at eW
    rw [pendR_len, ← hpl] at eB
    rw [← hsl] at eS
    have HPP := Lib.hid hpl
    have HSL := Lib.hid hsl
    have HEW := Lib.hid eW
    have HEB := Lib.hid eB
    have HES := Lib.hid eS
    rw [eW, eB, eS] at T1
    have hplB : pl ≤ 1099511627776 := by rw [hpl]; exact HPL.out
    clear hb1 hr1 hpl hsl eW eB eS CC R1
    go_wp2_with (fail)
    go_loopw [4] (fun kv wi => ∃ (k : Nat) (ss : List Value), k ≤ pl ∧ kv = .int .i64 (k : Int) ∧ Bk wi h 62 #[L, .slice AS sl cS, .slice AW pl cW, .slice AB pl cB, .slice V1.AF V1.nF V1.cF, .int .i64 D1.stop, .int .i64 (D1.cnt : Int), .bool D1.off] ∧ Rest N wi h (Dk.laid (D1.pend.take k) D1.sure) (pendZ D1.pend) (pendR D1.pend) D1.fails G1 { V1 with ss := ss } ∧ Mv N G1 w1 wi)
      (fun kv _ => pl - (intOf kv).toNat)
    case atStart => exact ⟨0, V1.ss, Nat.zero_le _, rfl, T1.out, by rw [List.take_zero]; exact E1.out, Mv.refl _ _ _⟩
    case round =>
      obtain ⟨k, ss, hk, rfl, hT, hE, hM⟩ := hrel
      have TR := Lib.hid hT
      have ER := Lib.hid hE
      have MR := Lib.hid hM
      have k1 : wr.cell? ⟨h, 1, none⟩ = some (.slice AS sl cS) := hT.cell 1
      have k2 : wr.cell? ⟨h, 2, none⟩ = some (.slice AW pl cW) := hT.cell 2
      have k3 : wr.cell? ⟨h, 3, none⟩ = some (.slice AB pl cB) := hT.cell 3
      clear hT hE hM T1 E1
      by_cases hlt : k < pl
      · have t0 : (k : Int) < (pl : Int) := by omega
        have hlk : k < D1.pend.length := by have := HPP.out; omega
        have OW := ER.out.oW
        have OB := ER.out.oB
        have OS := ER.out.oS
        rw [pendZ_len, ← HPP.out] at OW
        rw [pendR_len, ← HPP.out] at OB
        rw [Dk.laid_len, ← HSL.out] at OS
        have eW : V1.vW = .slice AW pl cW := HEW.out
        have eB : V1.vB = .slice AB pl cB := HEB.out
        have eS : V1.vS = .slice AS sl cS := HES.out
        have OW : wr.ownsRow N 3 1 (.slice AW pl cW) pl (zv (pendZ D1.pend)) := by rw [← eW]; exact OW
        have OB : wr.ownsRow N 23 1 (.slice AB pl cB) pl V1.bs := by rw [← eB]; exact OB
        have OS : wr.ownsRow N 23 1 (.slice AS sl cS) sl ss := by rw [← eS]; exact OS
        obtain ⟨bW, hbW, hlW, hcW, _⟩ := own_cellB OW hlt
        obtain ⟨bB, hbB, hlB, hcB, _⟩ := own_cellB OB hlt
        obtain ⟨pw, hpw⟩ : ∃ pw, pw = (D1.pend.getD k (0, [])).1 := ⟨_, rfl⟩
        have hpwl : pw < sl := by
          rw [hpw, HSL.out]
          exact HPB.out _ (by rw [List.getD_eq_getElem?_getD, List.getElem?_eq_getElem hlk]; exact List.getElem_mem _)
        obtain ⟨bS, hbS, hlS, hcS, hfS⟩ := own_cellB OS hpwl
        rw [pendZ_at _ _ hlk, ← hpw] at hcW
        obtain ⟨A1, n1, c1, e1, r1, g1⟩ := ER.out.rB k (by rw [pendR_len]; exact hlk)
        have e1' : V1.bs[k]? = some (.slice A1 n1 c1) := e1
        rw [e1'] at hcB
        have hss : ∃ us, ss[pw]? = some us := ⟨_, List.getElem?_eq_getElem (by have := OS.1; omega)⟩
        obtain ⟨us, hus⟩ := hss
        rw [hus] at hcS
        have hneW : bW ≠ bS ∧ bW ≠ h := by
          have := ER.out.dW bW (by show V1.vW.ownBlock = _; rw [eW, hbW]; rfl)
          exact ⟨fun e => this.2.1 (by show V1.vS.ownBlock = _; rw [eS, hbS, e]; rfl), this.1⟩
        have hneB : bB ≠ bS := by
          have := ER.out.dB bB (by show V1.vB.ownBlock = _; rw [eB, hbB]; rfl)
          exact fun e => this.2.1 (by show V1.vS.ownBlock = _; rw [eS, hbS, e]; rfl)
        have hneH : h ≠ bS := Ne.symm (ER.out.dS bS (by show V1.vS.ownBlock = _; rw [eS, hbS]; rfl)).1
        have GD := Lib.hid (Below.refl wr.heap.size wr).drew
        have ED := Lib.hid (ER.out.keep GD.out.size fun b _ hl => GD.out.block b hl)
        have SET := Lib.hid (Rest.setS (bS := bS) (cS := cS) (i := pw) (u := .slice A1 n1 c1) (xs := (pendR D1.pend).getD k []) ED.out (by show V1.vS = _; rw [eS, hbS, Dk.laid_len, HSL.out]) (by rw [Dk.laid_len, ← HSL.out]; exact hpwl) (by
          have := ED.out.rB k (by rw [pendR_len]; exact hlk)
          have e2 : ({ V1 with ss := ss } : RkV).bs[k]? = some (.slice A1 n1 c1) := e1
          rw [e2] at this
          exact this))
        have STEP := Lib.hid (show (Dk.laid (D1.pend.take k) D1.sure).set pw ((pendR D1.pend).getD k []) = Dk.laid (D1.pend.take (k + 1)) D1.sure by rw [laid_take _ _ _ hlk, pendR_at, hpw])
        rw [hbW] at k2
        rw [hbB] at k3
        rw [hbS] at k1
        have KS := Lib.hid (show ∀ X : World, (∀ b, b < wr.heap.size → b ≠ bS → X.heap[b]? = wr.heap[b]?) → X.cell? ⟨h, 1, none⟩ = some (.slice (some ⟨bS, 0, none⟩) sl cS) ∧ X.cell? ⟨h, 2, none⟩ = some (.slice (some ⟨bW, 0, none⟩) pl cW) ∧ X.cell? ⟨h, 3, none⟩ = some (.slice (some ⟨bB, 0, none⟩) pl cB) ∧ X.cell? ⟨bW, k, none⟩ = some (.int .i64 (pw : Int)) ∧ X.cell? ⟨bB, k, none⟩ = some (.slice A1 n1 c1) from fun X hX =>
          ⟨(World.cell?_of_block (a := ⟨h, 1, none⟩) (hX h TR.out.lt hneH)).trans k1, (World.cell?_of_block (a := ⟨h, 2, none⟩) (hX h TR.out.lt hneH)).trans k2, (World.cell?_of_block (a := ⟨h, 3, none⟩) (hX h TR.out.lt hneH)).trans k3, (World.cell?_of_block (a := ⟨bW, k, none⟩) (hX bW hlW hneW.1)).trans hcW, (World.cell?_of_block (a := ⟨bB, k, none⟩) (hX bB hlB hneB)).trans hcB⟩)
        have c9 : wr.drew.cell? ⟨bS, pw, none⟩ = some us := (GD.out.cell (p := ⟨bS, pw, none⟩) hlS).trans hcS
        have f9 : wr.drew.frozen? ⟨bS, pw, none⟩ = false := hfS
        have p0 : (pw : Int) < (sl : Int) := by omega
        have HNH := Lib.hid hneH
        clear hcW hcB hcS hfS hus hneW hneB e1 e1' r1 g1 OW OB OS eW eB eS hbW hbB hlW hlB hpw hlk hpwl
        subst hbS
        go_upto_region 7 with (fail)
        clear k1 k2 k3
        (go_region_held3 (fun X => X.cell? ⟨h, 1, none⟩ = some (.slice (some ⟨bS, 0, none⟩) sl cS) ∧ X.cell? ⟨h, 2, none⟩ = some (.slice (some ⟨bW, 0, none⟩) pl cW) ∧ X.cell? ⟨h, 3, none⟩ = some (.slice (some ⟨bB, 0, none⟩) pl cB) ∧ X.cell? ⟨bW, k, none⟩ = some (.int .i64 (pw : Int)) ∧ X.cell? ⟨bB, k, none⟩ = some (.slice A1 n1 c1)) (first
          | exact KS.out _ (fun b hb hne => (Below.heap_setCell _ ⟨bS, pw, none⟩ _ b hne).trans (GD.out.block b hb))
          | exact KS.out _ (fun b hb _ => GD.out.block b hb)) (fail))
        have T3 := Lib.hid ((TR.out.below GD.out TR.out.lt).far (p := ⟨bS, pw, none⟩) HNH.out (.slice A1 n1 c1))
        have M3 := Lib.hid ((Mv.of (N := N) (F := G1) (Nat.le_trans GN.out.2.2 MR.out.size) GD.out).trans SET.out.2 (fun b hb => .inl hb))
        have E3 := Lib.hid SET.out.1
        rw [STEP.out] at E3
        clear c9 f9 SET ED
        obtain ⟨w5, hw5⟩ : ∃ w5, w5 = (wr.setCell ⟨bS, pw, none⟩ (.slice A1 n1 c1)).drew := ⟨_, rfl⟩
        have conv : wr.drew.setCell ⟨bS, pw, none⟩ (.slice A1 n1 c1) = w5 := by rw [hw5]; rfl
        rw [conv] at T3 E3 M3
        first
          | rw [← hw5]
          | rw [conv]
          | skip
        clear conv hw5
        go_wp2_with (fail)
        go_roundw
        case rel => exact ⟨k + 1, _, by omega, by go_num, T3.out, E3.out, MR.out.trans M3.out (fun b hb => .inl hb)⟩
        case measure => simp [intOf]; omega
      · have t0 : ¬ (k : Int) < (pl : Int) := by omega
        obtain rfl : k = pl := by omega
        have f2 := TR.out.frozen 2
        have f3 := TR.out.frozen 3
        have TF := Lib.hid ((TR.out.put 2 (.slice none 0 0)).put 3 (.slice none 0 0))
        have EF := Lib.hid (((ER.out.nil).poke 2 (.slice none 0 0)).poke 3 (.slice none 0 0))
        have MF := Lib.hid ((MR.out.trans (Mv.poke (G := G1) GN.out.1 GN.out.2.1 wr 2 (.slice none 0 0)) (fun b hb => .inl hb)).trans (Mv.poke (G := G1) GN.out.1 GN.out.2.1 _ 3 (.slice none 0 0)) (fun b hb => .inl hb))
        rw [show D1.pend.take k = D1.pend by rw [HPP.out, List.take_length]] at EF
        go_wp2_with (fail)
        go_ret
        refine ⟨rfl, G1, ⟨HOK.out, _, ?_, EF.out⟩, S1.out, M1.out.trans MF.out S1.out⟩
        have := TF.out
        rw [← HES.out] at this
        exact this
end Go.Proofs.YtnoflgkjdibblaaGreatDoor.S19

/-
  The document's own disk: one sure row more; rows that have come. No statement is proved here.
-/
namespace Go.Proofs.YtnoflgkjdibblaaGreatDoor.S19
set_option linter.unusedSimpArgs false
set_option linter.unusedVariables false
set_option maxRecDepth 4096
open Go.RowKit

section
variable {N : Nat} {w wl w' : World} {h : Nat} {G : Nat → Prop} {V : RkV} {sure : List (List UInt8)} {zs : List Int} {rs : List (List UInt8)} {fails : List Int}
theorem Rest.lo (r : Rest N w h sure zs rs fails G V) : N ≤ w.heap.size := by have := r.gN h (r.inG h (.inl rfl)); omega
theorem Rest.fLt (r : Rest N w h sure zs rs fails G V) : ∀ a, 0 < V.nF → V.AF = some a → a.block < w.heap.size := fun a h1 h2 => by
  obtain ⟨b, off, e, hbb, _⟩ := r.rF.at_ h1
  rw [h2] at e
  injection e with e
  subst e
  exact hbb
/-- One sure row more. -/
theorem Rest.pushS (r : Rest N w h sure zs rs fails G V) (hb : Below w.heap.size w wl) {v' u : Value} {xs : List UInt8} {A : Option Addr} {n c : Nat} (ho : w'.ownsRow N 23 1 v' (sure ++ [xs]).length (V.ss ++ [u])) (hg : wl.grownBy w' V.vS.ownBlock) (hv : v'.ownBlock = V.vS.ownBlock ∨ v'.ownBlock = some wl.heap.size) (hlt : ∀ b, v'.ownBlock = some b → b < w'.heap.size)
    (hu : u = .slice A n c) (hr : Rd wl A n c xs) (hA : ∀ a, 0 < n → A = some a → w.heap.size ≤ a.block) :
    Rest N w' h (sure ++ [xs]) zs rs fails (fun b => plus G v' b ∨ ∃ a, 0 < n ∧ A = some a ∧ a.block = b) { V with vS := v', ss := V.ss ++ [u] } ∧ Mv N G w w' ∧ (∀ b, (plus G v' b ∨ ∃ a, 0 < n ∧ A = some a ∧ a.block = b) → G b ∨ w.heap.size ≤ b) := by
  have hsz : w.heap.size ≤ w'.heap.size := Nat.le_trans hb.size hg.size
  have hk := grown_keep hb hg
  have hN := r.lo
  have hbs := hb.size
  have hG : ∀ b, V.vS.ownBlock = some b → G b := fun b e => r.inG b (.inr (.inl e))
  have hnew : ∀ b, v'.ownBlock = some b → V.vS.ownBlock = some b ∨ b = wl.heap.size := fun b e => by
    rcases hv with hv | hv
    · exact .inl (hv ▸ e)
    · rw [hv] at e
      exact .inr (Option.some.inj e).symm
  have hnotlow : ∀ b, b < w.heap.size → v'.ownBlock = some b → V.vS.ownBlock = some b := fun b hl e => by
    rcases hnew b e with e | e
    · exact e
    · omega
  have hbl : V.ss.length = sure.length := by have := r.oS.1; omega
  subst hu
  have hAl : ∀ a, 0 < n → A = some a → a.block < wl.heap.size := fun a h1 h2 => by
    obtain ⟨b, off, e, hbb, _⟩ := hr.at_ h1
    rw [h2] at e
    injection e with e
    subst e
    exact hbb
  have hsp : ∀ b, b < w.heap.size → spine h { V with vS := v', ss := V.ss ++ [.slice A n c] } b → spine h V b := by
    rintro b hl (e | e | e | e)
    · exact .inl e
    · exact .inr (.inl (hnotlow b hl e))
    · exact .inr (.inr (.inl e))
    · exact .inr (.inr (.inr e))
  have hrow : ∀ u xs, Rr w G h V u xs → Rr w' (fun b => plus G v' b ∨ ∃ a, 0 < n ∧ A = some a ∧ a.block = b) h { V with vS := v', ss := V.ss ++ [.slice A n c] } u xs := by
    rintro u xs ⟨A, n, c, h1, h2, h3⟩
    refine ⟨A, n, c, h1, ⟨h2.len, h2.cap, h2.max, h2.nil, fun hn => ?_⟩, fun a hn ha => ?_⟩
    · obtain ⟨b, off, rfl, hlb, hc⟩ := h2.at_ hn
      obtain ⟨q1, q2⟩ := h3 _ hn rfl
      exact ⟨b, off, rfl, Nat.lt_of_lt_of_le hlb hsz, fun j hj => (World.cell?_of_block (a := ⟨b, off + j, none⟩) (hk b hlb fun e => q2 (.inr (.inl e)))).trans (hc j hj)⟩
    · obtain ⟨q1, q2⟩ := h3 a hn ha
      exact ⟨.inl (.inl q1), fun e => q2 (hsp _ (r.gN _ q1).2 e)⟩
  refine ⟨⟨ho, fun i hi => ?_, own_keepH r.oW fun b e hl => hk b hl (r.dW b e).2.1, own_keepH r.oB fun b e hl => hk b hl (r.dB b e).2.1, fun i hi => hrow _ _ (r.rB i hi),
      r.rF.keep hsz fun a h1 h2 h3 => hk _ h3 fun e => (r.inF a h1 h2).2 (.inr (.inl e)), fun a h1 h2 => ⟨(r.inF a h1 h2).1.imp id fun q => .inl (.inl q), fun e => (r.inF a h1 h2).2 (hsp _ (r.fLt a h1 h2) e)⟩, ?_, ?_, ?_, ?_, ?_⟩, ⟨?_, ?_⟩, ?_⟩
  · by_cases hlt' : i < sure.length
    · have := hrow _ _ (r.rS i hlt')
      show Rr w' _ h _ (V.ss ++ [.slice A n c])[i]? ((sure ++ [xs]).getD i [])
      rw [List.getElem?_append_left (by omega), List.getD_eq_getElem?_getD, List.getElem?_append_left hlt', ← List.getD_eq_getElem?_getD]
      exact this
    · have hil : i = sure.length := by rw [List.length_append, List.length_singleton] at hi; omega
      subst hil
      show Rr w' _ h _ (V.ss ++ [.slice A n c])[sure.length]? ((sure ++ [xs]).getD sure.length [])
      rw [List.getElem?_append_right (by omega), hbl, Nat.sub_self, List.getD_eq_getElem?_getD, List.getElem?_append_right (Nat.le_refl _), Nat.sub_self]
      refine ⟨A, n, c, rfl, ⟨hr.len, hr.cap, hr.max, hr.nil, fun hn => ?_⟩, fun a h1 h2 => ⟨.inr ⟨a, h1, h2, rfl⟩, ?_⟩⟩
      · obtain ⟨b, off, e, hlb, hc⟩ := hr.at_ hn
        refine ⟨b, off, e, Nat.lt_of_lt_of_le hlb hg.size, fun j hj => (World.cell?_of_block (a := ⟨b, off + j, none⟩) (hg.block b hlb fun e' => ?_)).trans (hc j hj)⟩
        have q1 := hA _ hn e
        have q2 := (r.gN b (hG b e'.symm)).2
        have : (⟨b, off, none⟩ : Addr).block = b := rfl
        omega
      · have q1 := hA a h1 h2
        have q3 := hAl a h1 h2
        rintro (e | e | e | e)
        · have := (r.gN h (r.inG h (.inl rfl))).2; omega
        · rcases hnew _ e with e | e
          · have := (r.gN _ (hG _ e)).2; omega
          · omega
        · have := (r.gN _ (r.inG _ (.inr (.inr (.inl e))))).2; omega
        · have := (r.gN _ (r.inG _ (.inr (.inr (.inr e))))).2; omega
  · rintro b (e | e | e | e)
    · exact .inl (.inl (r.inG b (.inl e)))
    · exact .inl (.inr e)
    · exact .inl (.inl (r.inG b (.inr (.inr (.inl e)))))
    · exact .inl (.inl (r.inG b (.inr (.inr (.inr e)))))
  · rintro b ((e | e) | ⟨a, h1, h2, rfl⟩)
    · exact ⟨(r.gN b e).1, Nat.lt_of_lt_of_le (r.gN b e).2 hsz⟩
    · refine ⟨?_, hlt b e⟩
      rcases hnew b e with e | e
      · exact (r.gN b (hG b e)).1
      · omega
    · exact ⟨Nat.le_trans hN (hA a h1 h2), Nat.lt_of_lt_of_le (hAl a h1 h2) hg.size⟩
  · intro b e
    rcases hnew b e with e' | e'
    · exact r.dS b e'
    · refine ⟨fun q => ?_, fun q => ?_, fun q => ?_⟩
      · have := (r.gN h (r.inG h (.inl rfl))).2; omega
      · have := (r.gN b (r.inG b (.inr (.inr (.inl q))))).2; omega
      · have := (r.gN b (r.inG b (.inr (.inr (.inr q))))).2; omega
  · intro b e
    refine ⟨(r.dW b e).1, fun e' => (r.dW b e).2.1 (hnotlow b (r.gN b (r.inG b (.inr (.inr (.inl e))))).2 e'), (r.dW b e).2.2⟩
  · intro b e
    refine ⟨(r.dB b e).1, fun e' => (r.dB b e).2.1 (hnotlow b (r.gN b (r.inG b (.inr (.inr (.inr e))))).2 e'), (r.dB b e).2.2⟩
  · exact (hb.mono hN).grown hg (Nat.le_trans hN hb.size) fun b e => (r.gN b (hG b e)).1
  · exact fun b h1 h2 => hk b h1 fun e => h2 (hG b e)
  · rintro b ((e | e) | ⟨a, h1, h2, rfl⟩)
    · exact .inl e
    · rcases hnew b e with e | e
      · exact .inl (hG b e)
      · exact .inr (by omega)
    · exact .inr (hA a h1 h2)
/-- More blocks may be meant. -/
theorem Rest.more (r : Rest N w h sure zs rs fails G V) {G' : Nat → Prop} (hG : ∀ b, G b → G' b) (hN : ∀ b, G' b → N ≤ b ∧ b < w.heap.size) : Rest N w h sure zs rs fails G' V :=
  ⟨r.oS, fun i hi => (by obtain ⟨A, n, c, h1, h2, h3⟩ := r.rS i hi; exact ⟨A, n, c, h1, h2, fun a q1 q2 => ⟨hG _ (h3 a q1 q2).1, (h3 a q1 q2).2⟩⟩), r.oW, r.oB,
    fun i hi => (by obtain ⟨A, n, c, h1, h2, h3⟩ := r.rB i hi; exact ⟨A, n, c, h1, h2, fun a q1 q2 => ⟨hG _ (h3 a q1 q2).1, (h3 a q1 q2).2⟩⟩), r.rF,
    fun a h1 h2 => ⟨(r.inF a h1 h2).1.imp id (hG _), (r.inF a h1 h2).2⟩, fun b e => hG b (r.inG b e), hN, r.dS, r.dW, r.dB⟩
/-- A disk of no sector. -/
theorem Rest.start {w : World} {h : Nat} (hN : N ≤ h) (hl : h < w.heap.size) : Rest N w h [] [] [] [] (fun b => b = h) ⟨.slice none 0 0, [], .slice none 0 0, .slice none 0 0, [], none, 0, 0⟩ := by
  refine ⟨World.ownsRow_nil _ _ _ _, fun i hi => absurd hi (by simp), World.ownsRow_nil _ _ _ _, World.ownsRow_nil _ _ _ _, fun i hi => absurd hi (by simp), RI.nil_ _ _, fun a h1 => absurd h1 (by simp), ?_, ?_, ?_, ?_, ?_⟩
  · rintro b (e | e | e | e)
    · exact e
    · simp [Value.ownBlock] at e
    · simp [Value.ownBlock] at e
    · simp [Value.ownBlock] at e
  · rintro b rfl; exact ⟨hN, hl⟩
  · intro b e; simp [Value.ownBlock] at e
  · intro b e; simp [Value.ownBlock] at e
  · intro b e; simp [Value.ownBlock] at e
end
end Go.Proofs.YtnoflgkjdibblaaGreatDoor.S19

/-
  The document's own disk: a new one. No statement is proved here. (Written by gendke.py.)
-/
namespace Go.Proofs.YtnoflgkjdibblaaGreatDoor.S19
set_option linter.unusedSimpArgs false
set_option linter.unusedVariables false
set_option maxRecDepth 4096
open Go.RowKit

set_option maxHeartbeats 8000000 in
theorem rnewD_any (N : Nat) (w : World) (k : Nat) (hN : N ≤ w.heap.size) (h1 : 1 ≤ k) (h2 : k ≤ 256) : Calls Tryz.prog 7 #[.int .i64 (k : Int)] w fun e w' => ∃ h G, e = .returned (.pointer (some ⟨h, 0, none⟩)) ∧ Rk N w' h (.slice none 0 0) (Dk.new k) G ∧ (∀ b, G b → w.heap.size ≤ b) ∧ Below w.heap.size w w' := by
  obtain ⟨i8, hi8, hz80, hz81, hz82⟩ := info_parts Tryz.infoU8
  have HI8 := Lib.hid hi8
  clear hi8
  obtain ⟨h, hh⟩ : ∃ h, w.heap.size = h := ⟨_, rfl⟩
  obtain ⟨w1, hw1⟩ : ∃ w1, w.alloc (.cells #[.slice none 0 0, .slice none 0 0, .slice none 0 0, .slice none 0 0, .slice none 0 0, .int .i64 0, .int .i64 0, .bool false] 62) = w1 := ⟨_, rfl⟩
  have T1 := Lib.hid (show Bk w1 h 62 #[.slice none 0 0, .slice none 0 0, .slice none 0 0, .slice none 0 0, .slice none 0 0, .int .i64 0, .int .i64 0, .bool false] by rw [← hw1]; exact Bk.newAt _ _ _ _ hh)
  have B1 := Lib.hid (show Below h w w1 by rw [← hw1, ← hh]; exact (Below.refl _ _).alloc (Nat.le_refl _) _)
  have E1 := Lib.hid (show Rest N w1 h [] [] [] [] (fun b => b = h) ⟨.slice none 0 0, [], .slice none 0 0, .slice none 0 0, [], none, 0, 0⟩ from Rest.start (by rw [← hh]; exact hN) T1.out.lt)
  have HH := Lib.hid hh
  have HNN := Lib.hid (show N ≤ h by rw [← hh]; exact hN)
  go_enter Tryz.func7, Tryz.ntmps7
  go_upto_region 2 with (fail)
  first
    | rw [hw1, hh]
    | rw [hw1]
    | rw [hh]
    | skip
  clear hw1 hh hN
  go_wp2_with (fail)
  go_loopw [4] (fun jv wi => ∃ (j : Nat) (vS : Value) (ss : List Value) (G : Nat → Prop), j ≤ k ∧ jv = .int .i64 (j : Int) ∧ Bk wi h 62 #[.slice none 0 0, vS, .slice none 0 0, .slice none 0 0, .slice none 0 0, .int .i64 0, .int .i64 0, .bool false] ∧ Rest N wi h (List.replicate j (List.replicate 64 0)) [] [] [] G ⟨vS, ss, .slice none 0 0, .slice none 0 0, [], none, 0, 0⟩ ∧ (∀ b, G b → h ≤ b) ∧ Below h w wi)
    (fun jv _ => k - (intOf jv).toNat)
  case atStart => exact ⟨0, .slice none 0 0, [], _, Nat.zero_le _, rfl, T1.out, E1.out, fun b e => Nat.le_of_eq e.symm, B1.out⟩
  case round =>
    obtain ⟨j, vS, ss, G, hj, rfl, hT, hE, hG, hB⟩ := hrel
    have TR := Lib.hid hT
    have ER := Lib.hid hE
    have GR := Lib.hid hG
    have BR := Lib.hid hB
    clear hT hE hG hB T1 E1 B1
    by_cases hlt : j < k
    · have t0 : (j : Int) < (k : Int) := by omega
      have HGH := Lib.hid (show G h from ER.out.inG h (.inl rfl))
      have HSZ := Lib.hid (show h < wr.heap.size from TR.out.lt)
      go_upto_region 5 with (fail)
      refine wp_region_any (by kernel_rfl) ?_
      rename_i K hK
      obtain ⟨wd, hwd⟩ : ∃ wd, wr.drew = wd := ⟨_, rfl⟩
      have D0 : Below wr.heap.size wr wd := by rw [← hwd]; exact (Below.refl _ _).drew
      change wpAny _ _ _ _ _ _ _ wr.drew
      rw [hwd]
      clear hwd
      have T4 := TR.out.below D0 TR.out.lt
      have MK := run_makeSlice_full (P := Tryz.prog) (w := wd) wr.heap.size 23 5 i8 (.int .u8 0) 1 Tryz.underlying23 HI8.out hz80 hz81 .i64 .i64 64 (by omega) (by rw [hz82]; omega) (by unfold maxLen; omega) D0.size
      obtain ⟨w5, m1, m2, m3⟩ := MK
      have m1' : (Instr.makeSlice 23 (.int .i64 64) (.int .i64 64)).run Tryz.prog wd = .ok (.slice (some ⟨wd.heap.size, 0, none⟩) 64 64) w5 := m1
      have O5 : w5.ownsRow wr.heap.size 5 1 (.slice (some ⟨wd.heap.size, 0, none⟩) 64 64) 64 (bv (List.replicate 64 0)) := by rw [← bv_zero]; exact m2
      have B5 : Below wr.heap.size wr w5 := D0.grown m3 D0.size (fun q e => by cases e)
      have T5 := TR.out.below B5 TR.out.lt
      have N5 := B5.size
      refine wpAny_of_held (S := fun _ => True) _ _ _ _ ?_
      refine RD.h_take 0 (.pointer (some ⟨h, 0, none⟩)) rfl (by kernel_rfl) (by kernel_rfl) (by kernel_rfl) (fun _ _ _ h => h) (by rfl) trivial (fun X hX => ?_) ?_
      · go_simp
      simp only [Act.put, List.setIfInBounds_toArray, List.set_cons_zero, List.set_cons_succ]
      refine RD.h_take 1 (.pointer (some ⟨h, 0, none⟩)) rfl (by kernel_rfl) (by kernel_rfl) (by kernel_rfl) (fun _ _ _ h => h) (by rfl) trivial (fun X hX => ?_) ?_
      · go_simp
      simp only [Act.put, List.setIfInBounds_toArray, List.set_cons_zero, List.set_cons_succ]
      refine RD.h_take 2 (.pointer (some ⟨h, 0, none⟩)) rfl (by kernel_rfl) (by kernel_rfl) (by kernel_rfl) (fun _ _ _ h => h) (by rfl) trivial (fun X hX => ?_) ?_
      · go_simp
      simp only [Act.put, List.setIfInBounds_toArray, List.set_cons_zero, List.set_cons_succ]
      refine RD.h_take 3 (.pointer (some ⟨h, 1, none⟩)) rfl (by kernel_rfl) (by kernel_rfl) (by kernel_rfl) (fun _ _ _ h => h) (by rfl) trivial (fun X hX => ?_) ?_
      · go_simp
      simp only [Act.put, List.setIfInBounds_toArray, List.set_cons_zero, List.set_cons_succ]
      refine RD.h_any [4, 5] (by kernel_rfl) (by simp) (RD.two_of ?_ ?_)
      · refine RD.h_run vS (wd) rfl (by rfl) (by have c3 := T4.cell 1; simp only [List.getElem?_toArray, List.getElem?_cons_zero, List.getElem?_cons_succ] at c3; go_simp) ⟨trivial, ?_⟩
        simp only [Act.put, List.setIfInBounds_toArray, List.set_cons_zero, List.set_cons_succ]
        refine RD.h_any [5] (by kernel_rfl) (by simp) (RD.one_of ?_)
        refine RD.h_run (.slice (some ⟨wd.heap.size, 0, none⟩) 64 64) w5 rfl (by rfl) (by go_simp) ⟨trivial, ?_⟩
        simp only [Act.put, List.setIfInBounds_toArray, List.set_cons_zero, List.set_cons_succ]
        refine RD.h_any [6] (by kernel_rfl) (by simp) (RD.one_of ?_)
        refine RD.h_run (.slice (some ⟨w5.heap.size, 0, none⟩) 1 1) (w5.alloc (.cells #[.slice (some ⟨wd.heap.size, 0, none⟩) 64 64] 23)) rfl (by rfl) (by go_simp) ⟨trivial, ?_⟩
        simp only [Act.put, List.setIfInBounds_toArray, List.set_cons_zero, List.set_cons_succ]
        have T6 := T5.alloc (.cells #[.slice (some ⟨wd.heap.size, 0, none⟩) 64 64] 23)
        refine RD.h_any [7] (by kernel_rfl) (by simp) (RD.one_of ?_)
        have BC : Below wr.heap.size wr (w5.alloc (.cells #[.slice (some ⟨wd.heap.size, 0, none⟩) 64 64] 23)) := B5.alloc B5.size _
        have OSS : wr.ownsRow N 23 1 vS j ss := by have := ER.out.oS; rwa [List.length_replicate] at this
        refine RD.h_op rfl (step_append_bs (by rfl) (.tmp 16) (.tmp 18) rfl N vS j ss rfl (own_below OSS BC) w5.heap.size (.slice (some ⟨wd.heap.size, 0, none⟩) 64 64) rfl rfl (by simp) (by omega) (Nat.le_trans ER.out.lo BC.size) (fun v8 w8 h1 h2 h3 => ⟨trivial, ?_⟩))
        obtain ⟨A8, c8, hv8⟩ := own_form h1
        obtain ⟨wl, hwl⟩ : ∃ wl, wl = w5.alloc (.cells #[.slice (some ⟨wd.heap.size, 0, none⟩) 64 64] 23) := ⟨_, rfl⟩
        have RL9 : Rd wl (some ⟨wd.heap.size, 0, none⟩) 64 64 (List.replicate 64 0) := by rw [hwl]; exact (Rd.own O5).alloc _
        have TL : Bk wl h 62 #[.slice none 0 0, vS, .slice none 0 0, .slice none 0 0, .slice none 0 0, .int .i64 0, .int .i64 0, .bool false] := by rw [hwl]; exact T6
        rw [← hwl] at BC h2 h3
        have PB := Lib.hid (Rest.pushS (w := wr) (wl := wl) (w' := w8) (v' := v8) (u := .slice (some ⟨wd.heap.size, 0, none⟩) 64 64) (xs := List.replicate 64 0) (A := some ⟨wd.heap.size, 0, none⟩) (n := 64) (c := 64) ER.out BC (by rw [List.length_append, List.length_singleton, List.length_replicate]; exact h1) h2 h3 (own_ltB h1) rfl RL9 (fun a _ e => by injection e with e; rw [← e]; exact D0.size))
        have T9 := TL.only h2 (fun e => (ER.out.dS h e.symm).1 rfl)
        have B9 : Below h w w8 := (BR.out.trans (BC.mono (Nat.le_of_lt HSZ.out))).grown h2 (Nat.le_trans (Nat.le_of_lt HSZ.out) BC.size) (fun q e => GR.out q (ER.out.inG q (.inr (.inl e))))
        subst hv8
        simp only [Act.put, List.setIfInBounds_toArray, List.set_cons_zero, List.set_cons_succ]
        refine RD.h_any [8] (by kernel_rfl) (by simp) (RD.one_of ?_)
        refine RD.h_run (.pointer (some ⟨h, 0, none⟩)) w8 rfl (by rfl) (by go_simp) ⟨trivial, ?_⟩
        simp only [Act.put, List.setIfInBounds_toArray, List.set_cons_zero, List.set_cons_succ]
        refine RD.h_any [9] (by kernel_rfl) (by simp) (RD.one_of ?_)
        refine RD.h_run (.pointer (some ⟨h, 1, none⟩)) w8 rfl (by rfl) (by go_simp) ⟨trivial, ?_⟩
        simp only [Act.put, List.setIfInBounds_toArray, List.set_cons_zero, List.set_cons_succ]
        refine RD.h_any [10] (by kernel_rfl) (by simp) (RD.one_of ?_)
        refine RD.h_skip (w8.setCell ⟨h, 1, none⟩ (.slice A8 (j + 1) c8)) rfl (by rfl) (by have c3 := T9.cell 1; have fz := T9.frozen 1; simp only [List.getElem?_toArray, List.getElem?_cons_zero, List.getElem?_cons_succ] at c3; go_simp) ⟨trivial, ?_⟩
        simp only [Act.put, List.setIfInBounds_toArray, List.set_cons_zero, List.set_cons_succ]
        refine RD.h_done (by kernel_rfl) ?_
        change K _ _
        apply hK
        have TF := Lib.hid (T9.put 1 (.slice A8 (j + 1) c8))
        have EF := Lib.hid (PB.out.1.poke 1 (.slice A8 (j + 1) c8))
        rw [show List.replicate j (List.replicate 64 (0 : UInt8)) ++ [List.replicate 64 0] = List.replicate (j + 1) (List.replicate 64 0) from List.replicate_succ'.symm] at EF
        have BF := Lib.hid (B9.setCell (p := ⟨h, 1, none⟩) (Nat.le_refl _) (.slice A8 (j + 1) c8))
        have GF := Lib.hid (show ∀ x, (plus G (Value.slice A8 (j + 1) c8) x ∨ ∃ a, 0 < 64 ∧ (some (⟨wd.heap.size, 0, none⟩ : Addr)) = some a ∧ a.block = x) → h ≤ x from fun x hx => by
          rcases PB.out.2.2 x hx with e | e
          · exact GR.out x e
          · have := HSZ.out; omega)
        generalize w8.setCell ⟨h, 1, none⟩ (.slice A8 (j + 1) c8) = w9 at *
        go_wp2_with (fail)
        go_roundw
        case rel => exact ⟨j + 1, _, _, _, by omega, by go_num, TF.out, EF.out, GF.out, BF.out⟩
        case measure => simp [intOf]; omega
      · refine RD.h_run (.slice (some ⟨wd.heap.size, 0, none⟩) 64 64) w5 rfl (by rfl) (by go_simp) ⟨trivial, ?_⟩
        simp only [Act.put, List.setIfInBounds_toArray, List.set_cons_zero, List.set_cons_succ]
        refine RD.h_any [4, 6] (by kernel_rfl) (by simp) (RD.two_of ?_ ?_)
        · refine RD.h_run vS (w5) rfl (by rfl) (by have c3 := T5.cell 1; simp only [List.getElem?_toArray, List.getElem?_cons_zero, List.getElem?_cons_succ] at c3; go_simp) ⟨trivial, ?_⟩
          simp only [Act.put, List.setIfInBounds_toArray, List.set_cons_zero, List.set_cons_succ]
          refine RD.h_any [6] (by kernel_rfl) (by simp) (RD.one_of ?_)
          refine RD.h_run (.slice (some ⟨w5.heap.size, 0, none⟩) 1 1) (w5.alloc (.cells #[.slice (some ⟨wd.heap.size, 0, none⟩) 64 64] 23)) rfl (by rfl) (by go_simp) ⟨trivial, ?_⟩
          simp only [Act.put, List.setIfInBounds_toArray, List.set_cons_zero, List.set_cons_succ]
          have T6 := T5.alloc (.cells #[.slice (some ⟨wd.heap.size, 0, none⟩) 64 64] 23)
          refine RD.h_any [7] (by kernel_rfl) (by simp) (RD.one_of ?_)
          have BC : Below wr.heap.size wr (w5.alloc (.cells #[.slice (some ⟨wd.heap.size, 0, none⟩) 64 64] 23)) := B5.alloc B5.size _
          have OSS : wr.ownsRow N 23 1 vS j ss := by have := ER.out.oS; rwa [List.length_replicate] at this
          refine RD.h_op rfl (step_append_bs (by rfl) (.tmp 16) (.tmp 18) rfl N vS j ss rfl (own_below OSS BC) w5.heap.size (.slice (some ⟨wd.heap.size, 0, none⟩) 64 64) rfl rfl (by simp) (by omega) (Nat.le_trans ER.out.lo BC.size) (fun v8 w8 h1 h2 h3 => ⟨trivial, ?_⟩))
          obtain ⟨A8, c8, hv8⟩ := own_form h1
          obtain ⟨wl, hwl⟩ : ∃ wl, wl = w5.alloc (.cells #[.slice (some ⟨wd.heap.size, 0, none⟩) 64 64] 23) := ⟨_, rfl⟩
          have RL9 : Rd wl (some ⟨wd.heap.size, 0, none⟩) 64 64 (List.replicate 64 0) := by rw [hwl]; exact (Rd.own O5).alloc _
          have TL : Bk wl h 62 #[.slice none 0 0, vS, .slice none 0 0, .slice none 0 0, .slice none 0 0, .int .i64 0, .int .i64 0, .bool false] := by rw [hwl]; exact T6
          rw [← hwl] at BC h2 h3
          have PB := Lib.hid (Rest.pushS (w := wr) (wl := wl) (w' := w8) (v' := v8) (u := .slice (some ⟨wd.heap.size, 0, none⟩) 64 64) (xs := List.replicate 64 0) (A := some ⟨wd.heap.size, 0, none⟩) (n := 64) (c := 64) ER.out BC (by rw [List.length_append, List.length_singleton, List.length_replicate]; exact h1) h2 h3 (own_ltB h1) rfl RL9 (fun a _ e => by injection e with e; rw [← e]; exact D0.size))
          have T9 := TL.only h2 (fun e => (ER.out.dS h e.symm).1 rfl)
          have B9 : Below h w w8 := (BR.out.trans (BC.mono (Nat.le_of_lt HSZ.out))).grown h2 (Nat.le_trans (Nat.le_of_lt HSZ.out) BC.size) (fun q e => GR.out q (ER.out.inG q (.inr (.inl e))))
          subst hv8
          simp only [Act.put, List.setIfInBounds_toArray, List.set_cons_zero, List.set_cons_succ]
          refine RD.h_any [8] (by kernel_rfl) (by simp) (RD.one_of ?_)
          refine RD.h_run (.pointer (some ⟨h, 0, none⟩)) w8 rfl (by rfl) (by go_simp) ⟨trivial, ?_⟩
          simp only [Act.put, List.setIfInBounds_toArray, List.set_cons_zero, List.set_cons_succ]
          refine RD.h_any [9] (by kernel_rfl) (by simp) (RD.one_of ?_)
          refine RD.h_run (.pointer (some ⟨h, 1, none⟩)) w8 rfl (by rfl) (by go_simp) ⟨trivial, ?_⟩
          simp only [Act.put, List.setIfInBounds_toArray, List.set_cons_zero, List.set_cons_succ]
          refine RD.h_any [10] (by kernel_rfl) (by simp) (RD.one_of ?_)
          refine RD.h_skip (w8.setCell ⟨h, 1, none⟩ (.slice A8 (j + 1) c8)) rfl (by rfl) (by have c3 := T9.cell 1; have fz := T9.frozen 1; simp only [List.getElem?_toArray, List.getElem?_cons_zero, List.getElem?_cons_succ] at c3; go_simp) ⟨trivial, ?_⟩
          simp only [Act.put, List.setIfInBounds_toArray, List.set_cons_zero, List.set_cons_succ]
          refine RD.h_done (by kernel_rfl) ?_
          change K _ _
          apply hK
          have TF := Lib.hid (T9.put 1 (.slice A8 (j + 1) c8))
          have EF := Lib.hid (PB.out.1.poke 1 (.slice A8 (j + 1) c8))
          rw [show List.replicate j (List.replicate 64 (0 : UInt8)) ++ [List.replicate 64 0] = List.replicate (j + 1) (List.replicate 64 0) from List.replicate_succ'.symm] at EF
          have BF := Lib.hid (B9.setCell (p := ⟨h, 1, none⟩) (Nat.le_refl _) (.slice A8 (j + 1) c8))
          have GF := Lib.hid (show ∀ x, (plus G (Value.slice A8 (j + 1) c8) x ∨ ∃ a, 0 < 64 ∧ (some (⟨wd.heap.size, 0, none⟩ : Addr)) = some a ∧ a.block = x) → h ≤ x from fun x hx => by
            rcases PB.out.2.2 x hx with e | e
            · exact GR.out x e
            · have := HSZ.out; omega)
          generalize w8.setCell ⟨h, 1, none⟩ (.slice A8 (j + 1) c8) = w9 at *
          go_wp2_with (fail)
          go_roundw
          case rel => exact ⟨j + 1, _, _, _, by omega, by go_num, TF.out, EF.out, GF.out, BF.out⟩
          case measure => simp [intOf]; omega
        · refine RD.h_run (.slice (some ⟨w5.heap.size, 0, none⟩) 1 1) (w5.alloc (.cells #[.slice (some ⟨wd.heap.size, 0, none⟩) 64 64] 23)) rfl (by rfl) (by go_simp) ⟨trivial, ?_⟩
          simp only [Act.put, List.setIfInBounds_toArray, List.set_cons_zero, List.set_cons_succ]
          have T6 := T5.alloc (.cells #[.slice (some ⟨wd.heap.size, 0, none⟩) 64 64] 23)
          refine RD.h_any [4] (by kernel_rfl) (by simp) (RD.one_of ?_)
          refine RD.h_run vS (w5.alloc (.cells #[.slice (some ⟨wd.heap.size, 0, none⟩) 64 64] 23)) rfl (by rfl) (by have c3 := T6.cell 1; simp only [List.getElem?_toArray, List.getElem?_cons_zero, List.getElem?_cons_succ] at c3; go_simp) ⟨trivial, ?_⟩
          simp only [Act.put, List.setIfInBounds_toArray, List.set_cons_zero, List.set_cons_succ]
          refine RD.h_any [7] (by kernel_rfl) (by simp) (RD.one_of ?_)
          have BC : Below wr.heap.size wr (w5.alloc (.cells #[.slice (some ⟨wd.heap.size, 0, none⟩) 64 64] 23)) := B5.alloc B5.size _
          have OSS : wr.ownsRow N 23 1 vS j ss := by have := ER.out.oS; rwa [List.length_replicate] at this
          refine RD.h_op rfl (step_append_bs (by rfl) (.tmp 16) (.tmp 18) rfl N vS j ss rfl (own_below OSS BC) w5.heap.size (.slice (some ⟨wd.heap.size, 0, none⟩) 64 64) rfl rfl (by simp) (by omega) (Nat.le_trans ER.out.lo BC.size) (fun v8 w8 h1 h2 h3 => ⟨trivial, ?_⟩))
          obtain ⟨A8, c8, hv8⟩ := own_form h1
          obtain ⟨wl, hwl⟩ : ∃ wl, wl = w5.alloc (.cells #[.slice (some ⟨wd.heap.size, 0, none⟩) 64 64] 23) := ⟨_, rfl⟩
          have RL9 : Rd wl (some ⟨wd.heap.size, 0, none⟩) 64 64 (List.replicate 64 0) := by rw [hwl]; exact (Rd.own O5).alloc _
          have TL : Bk wl h 62 #[.slice none 0 0, vS, .slice none 0 0, .slice none 0 0, .slice none 0 0, .int .i64 0, .int .i64 0, .bool false] := by rw [hwl]; exact T6
          rw [← hwl] at BC h2 h3
          have PB := Lib.hid (Rest.pushS (w := wr) (wl := wl) (w' := w8) (v' := v8) (u := .slice (some ⟨wd.heap.size, 0, none⟩) 64 64) (xs := List.replicate 64 0) (A := some ⟨wd.heap.size, 0, none⟩) (n := 64) (c := 64) ER.out BC (by rw [List.length_append, List.length_singleton, List.length_replicate]; exact h1) h2 h3 (own_ltB h1) rfl RL9 (fun a _ e => by injection e with e; rw [← e]; exact D0.size))
          have T9 := TL.only h2 (fun e => (ER.out.dS h e.symm).1 rfl)
          have B9 : Below h w w8 := (BR.out.trans (BC.mono (Nat.le_of_lt HSZ.out))).grown h2 (Nat.le_trans (Nat.le_of_lt HSZ.out) BC.size) (fun q e => GR.out q (ER.out.inG q (.inr (.inl e))))
          subst hv8
          simp only [Act.put, List.setIfInBounds_toArray, List.set_cons_zero, List.set_cons_succ]
          refine RD.h_any [8] (by kernel_rfl) (by simp) (RD.one_of ?_)
          refine RD.h_run (.pointer (some ⟨h, 0, none⟩)) w8 rfl (by rfl) (by go_simp) ⟨trivial, ?_⟩
          simp only [Act.put, List.setIfInBounds_toArray, List.set_cons_zero, List.set_cons_succ]
          refine RD.h_any [9] (by kernel_rfl) (by simp) (RD.one_of ?_)
          refine RD.h_run (.pointer (some ⟨h, 1, none⟩)) w8 rfl (by rfl) (by go_simp) ⟨trivial, ?_⟩
          simp only [Act.put, List.setIfInBounds_toArray, List.set_cons_zero, List.set_cons_succ]
          refine RD.h_any [10] (by kernel_rfl) (by simp) (RD.one_of ?_)
          refine RD.h_skip (w8.setCell ⟨h, 1, none⟩ (.slice A8 (j + 1) c8)) rfl (by rfl) (by have c3 := T9.cell 1; have fz := T9.frozen 1; simp only [List.getElem?_toArray, List.getElem?_cons_zero, List.getElem?_cons_succ] at c3; go_simp) ⟨trivial, ?_⟩
          simp only [Act.put, List.setIfInBounds_toArray, List.set_cons_zero, List.set_cons_succ]
          refine RD.h_done (by kernel_rfl) ?_
          change K _ _
          apply hK
          have TF := Lib.hid (T9.put 1 (.slice A8 (j + 1) c8))
          have EF := Lib.hid (PB.out.1.poke 1 (.slice A8 (j + 1) c8))
          rw [show List.replicate j (List.replicate 64 (0 : UInt8)) ++ [List.replicate 64 0] = List.replicate (j + 1) (List.replicate 64 0) from List.replicate_succ'.symm] at EF
          have BF := Lib.hid (B9.setCell (p := ⟨h, 1, none⟩) (Nat.le_refl _) (.slice A8 (j + 1) c8))
          have GF := Lib.hid (show ∀ x, (plus G (Value.slice A8 (j + 1) c8) x ∨ ∃ a, 0 < 64 ∧ (some (⟨wd.heap.size, 0, none⟩ : Addr)) = some a ∧ a.block = x) → h ≤ x from fun x hx => by
            rcases PB.out.2.2 x hx with e | e
            · exact GR.out x e
            · have := HSZ.out; omega)
          generalize w8.setCell ⟨h, 1, none⟩ (.slice A8 (j + 1) c8) = w9 at *
          go_wp2_with (fail)
          go_roundw
          case rel => exact ⟨j + 1, _, _, _, by omega, by go_num, TF.out, EF.out, GF.out, BF.out⟩
          case measure => simp [intOf]; omega
    · obtain rfl : k = j := by omega
      have t0 : ¬ (k : Int) < (k : Int) := by omega
      go_wp2_with (fail)
      go_ret
      have F1 : Rk N wr h (.slice none 0 0) (Dk.new k) G := ⟨Dk.new_ok h1 h2, _, TR.out, ER.out⟩
      have F2 : ∀ b, G b → w.heap.size ≤ b := fun b hb => by have := GR.out b hb; have := HH.out; omega
      have F3 : Below w.heap.size w wr := by rw [HH.out]; exact BR.out
      first
        | exact ⟨h, G, rfl, F1, F2, F3⟩
        | exact ⟨h, rfl, G, F1, F2, F3⟩
        | exact ⟨h, rfl, G, F1, F2, BR.out⟩
        | (refine ⟨h, rfl, G, F1, ?_, ?_⟩ <;> first | exact F2 | exact F3 | exact BR.out | exact GR.out)
end Go.Proofs.YtnoflgkjdibblaaGreatDoor.S19

/-
  The document's own disk: what is torn, byte by byte; another plan; a row that has come. No statement is proved here.
-/
namespace Go.Proofs.YtnoflgkjdibblaaGreatDoor.S19
set_option linter.unusedSimpArgs false
set_option linter.unusedVariables false
set_option maxRecDepth 4096
open Go.RowKit

/-- Is the byte j of a torn row that which was to be written? -/
def tears (c j : Nat) : Prop := c % 4 = 1 ∨ (c % 4 = 2 ∧ j < c / 4) ∨ (c % 4 = 3 ∧ c / 4 ≤ j)
instance (c j : Nat) : Decidable (tears c j) := by unfold tears; exact inferInstance
/-- The first k bytes have been gone through. -/
def tornP (c : Nat) (old now : List UInt8) (k : Nat) : List UInt8 := (List.range 64).map fun j => if j < k ∧ tears c j then now.getD j 0 else old.getD j 0
theorem tornP_len (c : Nat) (old now : List UInt8) (k : Nat) : (tornP c old now k).length = 64 := by simp [tornP]
theorem tornP_zero (c : Nat) (old now : List UInt8) (h : old.length = 64) : tornP c old now 0 = old := by
  apply List.ext_getElem (by simp [tornP, h])
  intro i h1 h2
  simp [tornP, List.getD, h2]
theorem tornP_full (c : Nat) (old now : List UInt8) : tornP c old now 64 = Dk.torn c old now := by
  unfold tornP Dk.torn
  apply List.map_congr_left
  intro j hj
  rw [List.mem_range] at hj
  simp only [hj, true_and, tears]
theorem tornP_miss {c k : Nat} (old now : List UInt8) (h : ¬ tears c k) : tornP c old now (k + 1) = tornP c old now k := by
  unfold tornP
  apply List.map_congr_left
  intro j hj
  by_cases e : j = k
  · subst e
    rw [if_neg (fun q => h q.2), if_neg (fun q => h q.2)]
  · have : (j < k + 1) = (j < k) := propext (by omega)
    simp only [this]
theorem tornP_hit {c k : Nat} (old now : List UInt8) (hk : k < 64) (h : tears c k) : tornP c old now (k + 1) = (tornP c old now k).set k (now.getD k 0) := by
  apply List.ext_getElem (by simp [tornP])
  intro i h1 h2
  have h3 : i < 64 := by simpa [tornP] using h1
  by_cases e : k = i
  · subst e
    rw [List.getElem_set_self]
    simp [tornP, h]
  · rw [List.getElem_set_ne e]
    have : (i < k + 1) = (i < k) := propext (by omega)
    simp only [tornP, List.getElem_map, List.getElem_range, this]
theorem tear_snoc (ch : List UInt8) (q : Nat × List UInt8) : ∀ (ps : List (Nat × List UInt8)) (k : Nat) (s : List (List UInt8)), Dk.tear ch k (ps ++ [q]) s = (Dk.tear ch k ps s).set q.1 (Dk.torn (Dk.choice ch (k + ps.length)) ((Dk.tear ch k ps s).getD q.1 []) q.2)
  | [], k, s => rfl
  | p :: ps, k, s => by
    rw [List.cons_append, Dk.tear, tear_snoc ch q ps, Dk.tear, List.length_cons]
    rw [show k + 1 + ps.length = k + (ps.length + 1) by omega]
theorem tear_take (ch : List UInt8) (ps : List (Nat × List UInt8)) (s : List (List UInt8)) (k : Nat) (hk : k < ps.length) : Dk.tear ch 0 (ps.take (k + 1)) s = (Dk.tear ch 0 (ps.take k) s).set (ps.getD k (0, [])).1 (Dk.torn (Dk.choice ch k) ((Dk.tear ch 0 (ps.take k) s).getD (ps.getD k (0, [])).1 []) (ps.getD k (0, [])).2) := by
  have e : ps.take (k + 1) = ps.take k ++ [ps.getD k (0, [])] := by
    have e0 : ps.getD k (0, []) = ps[k] := by simp [List.getD, hk]
    rw [e0, List.take_add_one, List.getElem?_eq_getElem hk]
    rfl
  rw [e, tear_snoc, List.length_take, Nat.min_eq_left (Nat.le_of_lt hk), Nat.zero_add]
section
variable {N : Nat} {w w' : World} {h : Nat} {G : Nat → Prop} {V : RkV} {sure : List (List UInt8)} {zs : List Int} {rs : List (List UInt8)} {fails : List Int}
/-- Another plan. -/
theorem Rest.plan (r : Rest N w h sure zs rs fails G V) {A : Option Addr} {n c : Nat} {fs : List Int} (hf : RI w .i64 A n c fs) (hA : ∀ a, 0 < n → A = some a → (a.block < N ∨ G a.block) ∧ ¬ spine h V a.block) : Rest N w h sure zs rs fs G { V with AF := A, nF := n, cF := c } :=
  ⟨r.oS, r.rS, r.oW, r.oB, r.rB, hf, hA, r.inG, r.gN, r.dS, r.dW, r.dB⟩
theorem Rest.notSpine (r : Rest N w h sure zs rs fails G V) {b : Nat} (hb : b < N) : ¬ spine h V b := fun e => by
  have := (r.gN b (r.inG b e)).1
  omega
/-- A row in a new block may be the disk's. -/
theorem Rest.fresh (r : Rest N w h sure zs rs fails G V) (hb : Below w.heap.size w w') {A : Option Addr} {n c : Nat} {xs : List UInt8} (hr : Rd w' A n c xs) (hA : ∀ a, 0 < n → A = some a → w.heap.size ≤ a.block) :
    Rest N w' h sure zs rs fails (fun b => G b ∨ ∃ a, 0 < n ∧ A = some a ∧ a.block = b) V ∧ Rr w' (fun b => G b ∨ ∃ a, 0 < n ∧ A = some a ∧ a.block = b) h V (some (.slice A n c)) xs ∧ (∀ b, (G b ∨ ∃ a, 0 < n ∧ A = some a ∧ a.block = b) → G b ∨ w.heap.size ≤ b) := by
  have hN := r.lo
  have hlt : ∀ a, 0 < n → A = some a → a.block < w'.heap.size := fun a h1 h2 => by
    obtain ⟨b, off, e, hbb, _⟩ := hr.at_ h1
    rw [h2] at e
    injection e with e
    subst e
    exact hbb
  refine ⟨(r.keep hb.size fun b _ hl => hb.block b hl).more (fun b e => .inl e) ?_, ⟨A, n, c, rfl, hr, fun a h1 h2 => ⟨.inr ⟨a, h1, h2, rfl⟩, fun e => ?_⟩⟩, ?_⟩
  · rintro b (e | ⟨a, h1, h2, rfl⟩)
    · exact ⟨(r.gN b e).1, Nat.lt_of_lt_of_le (r.gN b e).2 hb.size⟩
    · exact ⟨Nat.le_trans hN (hA a h1 h2), hlt a h1 h2⟩
  · have q1 := (r.gN _ (r.inG _ e)).2
    have q2 := hA a h1 h2
    omega
  · rintro b (e | ⟨a, h1, h2, rfl⟩)
    · exact .inl e
    · exact .inr (hA a h1 h2)
end
end Go.Proofs.YtnoflgkjdibblaaGreatDoor.S19
