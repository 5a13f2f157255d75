/-
  The document's own disk: Flush. No statement is proved here. (Written by gendkc.py.)
-/
import Derived.Test.YtammgingmkdfhaaDkB
namespace Go.Proofs.Ytammgingmkdfhaa.S19
set_option linter.unusedSimpArgs false
set_option linter.unusedVariables false
set_option maxRecDepth 4096
open Go.RowKit

set_option maxHeartbeats 8000000 in
theorem rflushD_any {L : Value} (N : Nat) (w : World) (h : Nat) (D : Dk) (G : Nat → Prop) (r : Rk N w h L D G) (hc : D.cnt < 1099511627776) : Calls Try.prog 28 #[.pointer (some ⟨h, 0, none⟩)] w (PostR N G h L w D.flush (.int .i64 (D.stepC : Int))) := by
  have CC := Lib.hid (counted_any N w h D G r hc)
  have hok := r.ok
  have hOK := Dk.flush_ok hok
  obtain ⟨cd, hcd⟩ : ∃ cd, cd = D.stepC := ⟨_, rfl⟩
  rw [← hcd] at CC ⊢
  by_cases hz : cd = 0
  case neg =>
    have e : D.flush = if D.off = true then D else D.step := by
      unfold Dk.flush
      by_cases ho : D.off = true
      · rw [if_pos ho, if_pos ho]
      · rw [if_neg ho, if_neg ho, if_neg (by rw [← hcd]; exact hz)]
    rw [e]
    have y1 : ((cd : Int) == 0) = false := by simp; omega
    have y2 : ¬ (cd : Int) = 0 := by omega
    generalize (if D.off = true then D else D.step) = D1 at *
    clear hok hOK hcd e r hz hc
    go_enter Try.func28, Try.ntmps28
    go_wp2_with (go_at_call 41; ((with_reducible refine CC.out.mono ?_); rintro e w1 ⟨rfl, G1, r1, s1, m1⟩; have R1 := Lib.hid r1; have S1 := Lib.hid s1; have M1 := Lib.hid m1; clear r1 s1 m1))
    go_ret
    exact ⟨rfl, G1, R1.out, S1.out, M1.out⟩
  case pos =>
    subst hz
    have ho : ¬ D.off = true := by
      intro e
      rw [Dk.stepC, if_pos e] at hcd; cases hcd
    have e : D.flush = { D.step with sure := Dk.laid D.pend D.sure, pend := [] } := by rw [Dk.flush, if_neg ho, if_pos hcd.symm]
    rw [e] at hOK ⊢
    rw [if_neg ho] at CC
    have h1 := Dk.step_sure D
    have h2 := Dk.step_pend D
    obtain ⟨D1, hD1⟩ : ∃ D1, D1 = D.step := ⟨_, rfl⟩
    rw [← hD1] at hOK h1 h2 CC ⊢
    rw [← h1, ← h2] at hOK ⊢
    have HOK := Lib.hid hOK
    have HPB := Lib.hid (show ∀ p ∈ D1.pend, p.1 < D1.sure.length from by rw [h1, h2]; exact fun p hp => (hok.pend p hp).1)
    have HPL := Lib.hid (show D1.pend.length ≤ 1099511627776 by rw [h2]; have := hok.few; omega)
    clear hok hOK hcd e r hc ho hD1 h1 h2
    go_enter Try.func28, Try.ntmps28
    go_upto_region 4 with (go_at_call 41; ((with_reducible refine CC.out.mono ?_); rintro e w1 ⟨rfl, G1, r1, s1, m1⟩; have R1 := Lib.hid r1; have S1 := Lib.hid s1; have M1 := Lib.hid m1; clear r1 s1 m1))
    obtain ⟨V1, hb1, hr1⟩ := R1.out.ex
    have E1 := Lib.hid hr1
    have T1 := Lib.hid hb1
    have GN := Lib.hid (show N ≤ h ∧ G1 h ∧ N ≤ w1.heap.size from ⟨(hr1.gN h (hr1.inG h (.inl rfl))).1, hr1.inG h (.inl rfl), by have := hr1.gN h (hr1.inG h (.inl rfl)); omega⟩)
    obtain ⟨pl, hpl⟩ : ∃ pl, pl = D1.pend.length := ⟨_, rfl⟩
    obtain ⟨sl, hsl⟩ : ∃ sl, sl = D1.sure.length := ⟨_, rfl⟩
    obtain ⟨AW, cW, eW⟩ := own_form hr1.oW
    obtain ⟨AB, cB, eB⟩ := own_form hr1.oB
    obtain ⟨AS, cS, eS⟩ := own_form hr1.oS
    rw [pendZ_len, ← hpl] at eW
    rw [pendR_len, ← hpl] at eB
    rw [← hsl] at eS
    have HPP := Lib.hid hpl
    have HSL := Lib.hid hsl
    have HEW := Lib.hid eW
    have HEB := Lib.hid eB
    have HES := Lib.hid eS
    rw [eW, eB, eS] at T1
    have hplB : pl ≤ 1099511627776 := by rw [hpl]; exact HPL.out
    clear hb1 hr1 hpl hsl eW eB eS CC R1
    go_wp2_with (fail)
    go_loopw [4] (fun kv wi => ∃ (k : Nat) (ss : List Value), k ≤ pl ∧ kv = .int .i64 (k : Int) ∧ Bk wi h 42 #[L, .slice AS sl cS, .slice AW pl cW, .slice AB pl cB, .slice V1.AF V1.nF V1.cF, .int .i64 D1.stop, .int .i64 (D1.cnt : Int), .bool D1.off] ∧ Rest N wi h (Dk.laid (D1.pend.take k) D1.sure) (pendZ D1.pend) (pendR D1.pend) D1.fails G1 { V1 with ss := ss } ∧ Mv N G1 w1 wi)
      (fun kv _ => pl - (intOf kv).toNat)
    case atStart => exact ⟨0, V1.ss, Nat.zero_le _, rfl, T1.out, by rw [List.take_zero]; exact E1.out, Mv.refl _ _ _⟩
    case round =>
      obtain ⟨k, ss, hk, rfl, hT, hE, hM⟩ := hrel
      have TR := Lib.hid hT
      have ER := Lib.hid hE
      have MR := Lib.hid hM
      have k1 : wr.cell? ⟨h, 1, none⟩ = some (.slice AS sl cS) := hT.cell 1
      have k2 : wr.cell? ⟨h, 2, none⟩ = some (.slice AW pl cW) := hT.cell 2
      have k3 : wr.cell? ⟨h, 3, none⟩ = some (.slice AB pl cB) := hT.cell 3
      clear hT hE hM T1 E1
      by_cases hlt : k < pl
      · have t0 : (k : Int) < (pl : Int) := by omega
        have hlk : k < D1.pend.length := by have := HPP.out; omega
        have OW := ER.out.oW
        have OB := ER.out.oB
        have OS := ER.out.oS
        rw [pendZ_len, ← HPP.out] at OW
        rw [pendR_len, ← HPP.out] at OB
        rw [Dk.laid_len, ← HSL.out] at OS
        have eW : V1.vW = .slice AW pl cW := HEW.out
        have eB : V1.vB = .slice AB pl cB := HEB.out
        have eS : V1.vS = .slice AS sl cS := HES.out
        have OW : wr.ownsRow N 3 1 (.slice AW pl cW) pl (zv (pendZ D1.pend)) := by rw [← eW]; exact OW
        have OB : wr.ownsRow N 30 1 (.slice AB pl cB) pl V1.bs := by rw [← eB]; exact OB
        have OS : wr.ownsRow N 30 1 (.slice AS sl cS) sl ss := by rw [← eS]; exact OS
        obtain ⟨bW, hbW, hlW, hcW, _⟩ := own_cellB OW hlt
        obtain ⟨bB, hbB, hlB, hcB, _⟩ := own_cellB OB hlt
        obtain ⟨pw, hpw⟩ : ∃ pw, pw = (D1.pend.getD k (0, [])).1 := ⟨_, rfl⟩
        have hpwl : pw < sl := by
          rw [hpw, HSL.out]
          exact HPB.out _ (by rw [List.getD_eq_getElem?_getD, List.getElem?_eq_getElem hlk]; exact List.getElem_mem _)
        obtain ⟨bS, hbS, hlS, hcS, hfS⟩ := own_cellB OS hpwl
        rw [pendZ_at _ _ hlk, ← hpw] at hcW
        obtain ⟨A1, n1, c1, e1, r1, g1⟩ := ER.out.rB k (by rw [pendR_len]; exact hlk)
        have e1' : V1.bs[k]? = some (.slice A1 n1 c1) := e1
        rw [e1'] at hcB
        have hss : ∃ us, ss[pw]? = some us := ⟨_, List.getElem?_eq_getElem (by have := OS.1; omega)⟩
        obtain ⟨us, hus⟩ := hss
        rw [hus] at hcS
        have hneW : bW ≠ bS ∧ bW ≠ h := by
          have := ER.out.dW bW (by show V1.vW.ownBlock = _; rw [eW, hbW]; rfl)
          exact ⟨fun e => this.2.1 (by show V1.vS.ownBlock = _; rw [eS, hbS, e]; rfl), this.1⟩
        have hneB : bB ≠ bS := by
          have := ER.out.dB bB (by show V1.vB.ownBlock = _; rw [eB, hbB]; rfl)
          exact fun e => this.2.1 (by show V1.vS.ownBlock = _; rw [eS, hbS, e]; rfl)
        have hneH : h ≠ bS := Ne.symm (ER.out.dS bS (by show V1.vS.ownBlock = _; rw [eS, hbS]; rfl)).1
        have GD := Lib.hid (Below.refl wr.heap.size wr).drew
        have ED := Lib.hid (ER.out.keep GD.out.size fun b _ hl => GD.out.block b hl)
        have SET := Lib.hid (Rest.setS (bS := bS) (cS := cS) (i := pw) (u := .slice A1 n1 c1) (xs := (pendR D1.pend).getD k []) ED.out (by show V1.vS = _; rw [eS, hbS, Dk.laid_len, HSL.out]) (by rw [Dk.laid_len, ← HSL.out]; exact hpwl) (by
          have := ED.out.rB k (by rw [pendR_len]; exact hlk)
          have e2 : ({ V1 with ss := ss } : RkV).bs[k]? = some (.slice A1 n1 c1) := e1
          rw [e2] at this
          exact this))
        have STEP := Lib.hid (show (Dk.laid (D1.pend.take k) D1.sure).set pw ((pendR D1.pend).getD k []) = Dk.laid (D1.pend.take (k + 1)) D1.sure by rw [laid_take _ _ _ hlk, pendR_at, hpw])
        rw [hbW] at k2
        rw [hbB] at k3
        rw [hbS] at k1
        have KS := Lib.hid (show ∀ X : World, (∀ b, b < wr.heap.size → b ≠ bS → X.heap[b]? = wr.heap[b]?) → X.cell? ⟨h, 1, none⟩ = some (.slice (some ⟨bS, 0, none⟩) sl cS) ∧ X.cell? ⟨h, 2, none⟩ = some (.slice (some ⟨bW, 0, none⟩) pl cW) ∧ X.cell? ⟨h, 3, none⟩ = some (.slice (some ⟨bB, 0, none⟩) pl cB) ∧ X.cell? ⟨bW, k, none⟩ = some (.int .i64 (pw : Int)) ∧ X.cell? ⟨bB, k, none⟩ = some (.slice A1 n1 c1) from fun X hX =>
          ⟨(World.cell?_of_block (a := ⟨h, 1, none⟩) (hX h TR.out.lt hneH)).trans k1, (World.cell?_of_block (a := ⟨h, 2, none⟩) (hX h TR.out.lt hneH)).trans k2, (World.cell?_of_block (a := ⟨h, 3, none⟩) (hX h TR.out.lt hneH)).trans k3, (World.cell?_of_block (a := ⟨bW, k, none⟩) (hX bW hlW hneW.1)).trans hcW, (World.cell?_of_block (a := ⟨bB, k, none⟩) (hX bB hlB hneB)).trans hcB⟩)
        have c9 : wr.drew.cell? ⟨bS, pw, none⟩ = some us := (GD.out.cell (p := ⟨bS, pw, none⟩) hlS).trans hcS
        have f9 : wr.drew.frozen? ⟨bS, pw, none⟩ = false := hfS
        have p0 : (pw : Int) < (sl : Int) := by omega
        have HNH := Lib.hid hneH
        clear hcW hcB hcS hfS hus hneW hneB e1 e1' r1 g1 OW OB OS eW eB eS hbW hbB hlW hlB hpw hlk hpwl
        subst hbS
        go_upto_region 7 with (fail)
        clear k1 k2 k3
        (go_region_held3 (fun X => X.cell? ⟨h, 1, none⟩ = some (.slice (some ⟨bS, 0, none⟩) sl cS) ∧ X.cell? ⟨h, 2, none⟩ = some (.slice (some ⟨bW, 0, none⟩) pl cW) ∧ X.cell? ⟨h, 3, none⟩ = some (.slice (some ⟨bB, 0, none⟩) pl cB) ∧ X.cell? ⟨bW, k, none⟩ = some (.int .i64 (pw : Int)) ∧ X.cell? ⟨bB, k, none⟩ = some (.slice A1 n1 c1)) (first
          | exact KS.out _ (fun b hb hne => (Below.heap_setCell _ ⟨bS, pw, none⟩ _ b hne).trans (GD.out.block b hb))
          | exact KS.out _ (fun b hb _ => GD.out.block b hb)) (fail))
        have T3 := Lib.hid ((TR.out.below GD.out TR.out.lt).far (p := ⟨bS, pw, none⟩) HNH.out (.slice A1 n1 c1))
        have M3 := Lib.hid ((Mv.of (N := N) (F := G1) (Nat.le_trans GN.out.2.2 MR.out.size) GD.out).trans SET.out.2 (fun b hb => .inl hb))
        have E3 := Lib.hid SET.out.1
        rw [STEP.out] at E3
        clear c9 f9 SET ED
        obtain ⟨w5, hw5⟩ : ∃ w5, w5 = (wr.setCell ⟨bS, pw, none⟩ (.slice A1 n1 c1)).drew := ⟨_, rfl⟩
        have conv : wr.drew.setCell ⟨bS, pw, none⟩ (.slice A1 n1 c1) = w5 := by rw [hw5]; rfl
        rw [conv] at T3 E3 M3
        first
          | rw [← hw5]
          | rw [conv]
          | skip
        clear conv hw5
        go_wp2_with (fail)
        go_roundw
        case rel => exact ⟨k + 1, _, by omega, by go_num, T3.out, E3.out, MR.out.trans M3.out (fun b hb => .inl hb)⟩
        case measure => simp [intOf]; omega
      · have t0 : ¬ (k : Int) < (pl : Int) := by omega
        obtain rfl : k = pl := by omega
        have f2 := TR.out.frozen 2
        have f3 := TR.out.frozen 3
        have TF := Lib.hid ((TR.out.put 2 (.slice none 0 0)).put 3 (.slice none 0 0))
        have EF := Lib.hid (((ER.out.nil).poke 2 (.slice none 0 0)).poke 3 (.slice none 0 0))
        have MF := Lib.hid ((MR.out.trans (Mv.poke (G := G1) GN.out.1 GN.out.2.1 wr 2 (.slice none 0 0)) (fun b hb => .inl hb)).trans (Mv.poke (G := G1) GN.out.1 GN.out.2.1 _ 3 (.slice none 0 0)) (fun b hb => .inl hb))
        rw [show D1.pend.take k = D1.pend by rw [HPP.out, List.take_length]] at EF
        go_wp2_with (fail)
        go_ret
        refine ⟨rfl, G1, ⟨HOK.out, _, ?_, EF.out⟩, S1.out, M1.out.trans MF.out S1.out⟩
        have := TF.out
        rw [← HES.out] at this
        exact this
end Go.Proofs.Ytammgingmkdfhaa.S19
