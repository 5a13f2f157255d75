/-
  Texts put together: DkG, OpenA, Open, DkO, DkH. No statement is proved here.
-/
import Derived.Test.YtnoflgkjdibblaaGreatDoorWa11
import Derived.Deep.CutRange
import Derived.Test.YtnoflgkjdibblaaGreatDoorRows
import Derived.ProofKit
import Derived.OpenShut
import Derived.ShutString
import Derived.ChangeOld
import Derived.Below
import Derived.Test.YtnoflgkjdibblaaGreatDoorWa01
import Derived.Test.YtnoflgkjdibblaaGreatDoorWa06
import Derived.Deep.Slices
import Derived.ChangeSame
import Derived.Lib.SmallJoins

/-
  The document's own disk: the power comes again. No statement is proved here. (Written by gendkg.py.)
-/
namespace Go.Proofs.YtnoflgkjdibblaaGreatDoor.S19
set_option linter.unusedSimpArgs false
set_option linter.unusedVariables false
set_option maxRecDepth 4096
open Go.RowKit

set_option maxHeartbeats 16000000 in
theorem rupD_any {L : Value} (N : Nat) (w : World) (h : Nat) (D : Dk) (G : Nat → Prop) (r : Rk N w h L D G) (A' : Option Addr) (n' c' : Nat) (ch : List UInt8) (hch : Rd w A' n' c' ch) (hA' : ∀ a, 0 < n' → A' = some a → a.block < N) (A : Option Addr) (n c : Nat) (fs : List Int) (st : Int) (hfs : RI w .i64 A n c fs) (hA : ∀ a, 0 < n → A = some a → a.block < N) : Calls Tryz.prog 20 #[.pointer (some ⟨h, 0, none⟩), .slice A' n' c', .agg #[.slice A n c, .int .i64 st]] w (PostR N G h L w (D.up ch fs st) (.tuple #[])) := by
  obtain ⟨V, hb, hrs⟩ := r.ex
  have hok := r.ok
  have HOK := Lib.hid (Dk.up_ok hok ch fs st)
  have HPB := Lib.hid hok.pend
  have HRW := Lib.hid hok.rows
  obtain ⟨pl, hpl⟩ : ∃ pl, pl = D.pend.length := ⟨_, rfl⟩
  obtain ⟨sl, hsl⟩ : ∃ sl, sl = D.sure.length := ⟨_, rfl⟩
  obtain ⟨AW, cW, eW⟩ := own_form hrs.oW
  obtain ⟨AB, cB, eB⟩ := own_form hrs.oB
  obtain ⟨AS, cS, eS⟩ := own_form hrs.oS
  have HMX := Lib.hid (show pl ≤ 9223372036854775807 from by
    have OW := hrs.oW
    rw [eW] at OW
    have h1 := (RI.own OW).cap
    have h2 := (RI.own OW).max
    rw [pendZ_len, ← hpl] at h1
    unfold maxLen at h2
    omega)
  rw [pendZ_len, ← hpl] at eW
  rw [pendR_len, ← hpl] at eB
  rw [← hsl] at eS
  have HPP := Lib.hid hpl
  have HSL := Lib.hid hsl
  have HEW := Lib.hid eW
  have HEB := Lib.hid eB
  have HES := Lib.hid eS
  rw [eW, eB, eS] at hb
  have GN := Lib.hid (show N ≤ h ∧ G h ∧ N ≤ w.heap.size from ⟨(hrs.gN h (hrs.inG h (.inl rfl))).1, hrs.inG h (.inl rfl), hrs.lo⟩)
  have HFS := Lib.hid (show ∀ X, Below N w X → RI X .i64 A n c fs from fun X hX => hfs.keep hX.size (fun a h1 h2 _ => hX.block _ (hA a h1 h2)))
  have HAN := Lib.hid hA
  obtain ⟨P, hP⟩ : ∃ P, P = w.heap.size := ⟨_, rfl⟩
  have HP := Lib.hid hP
  have GP := Lib.hid (show ¬ G P from fun e => by have := (hrs.gN _ e).2; omega)
  obtain ⟨w0, hw0⟩ : ∃ w0, w.alloc (.cells #[.slice A n c, .int .i64 st] 51) = w0 := ⟨_, rfl⟩
  have B0 := Lib.hid (show Below w.heap.size w w0 by rw [← hw0]; exact (Below.refl _ _).alloc (Nat.le_refl _) _)
  have P0 := Lib.hid (show Bk w0 P 51 #[.slice A n c, .int .i64 st] by rw [← hw0]; exact Bk.newAt _ _ _ _ hP.symm)
  have T0 := Lib.hid (hb.below B0.out hb.lt)
  have E0 := Lib.hid (hrs.keep B0.out.size (fun b _ hl => B0.out.block b hl))
  have HCH := Lib.hid (show ∀ X, Below N w0 X → Rd X A' n' c' ch from fun X hX => by
    have h0 := hch.below B0.out
    refine ⟨h0.len, h0.cap, h0.max, h0.nil, fun hn => ?_⟩
    obtain ⟨b, off, e, hbb, hc⟩ := h0.at_ hn
    exact ⟨b, off, e, Nat.lt_of_lt_of_le hbb hX.size, fun j hj => (World.cell?_of_block (a := ⟨b, off + j, none⟩) (hX.block b (hA' ⟨b, off, none⟩ hn e))).trans (hc j hj)⟩)
  clear r hb hrs hok hch hfs hA hA' eW eB eS hpl hsl
  go_enter Tryz.func20, Tryz.ntmps20
  go_upto_region 1 with (fail)
  first
    | rw [hw0]
    | skip
  rw [← hP]
  clear hw0 hP
  go_wp2_with (fail)
  go_loopg [6, 7, 8, 9] (pl + 1) (fun f kv s7 s8 s9 wi => ∃ (k : Nat) (ss : List Value) (Gi : Nat → Prop), k + f = pl + 1 ∧ k ≤ pl ∧ kv = .int .i64 (k : Int) ∧ Bk wi h 62 #[L, .slice AS sl cS, .slice AW pl cW, .slice AB pl cB, .slice V.AF V.nF V.cF, .int .i64 D.stop, .int .i64 (D.cnt : Int), .bool D.off] ∧ Rest N wi h (Dk.tear ch 0 (D.pend.take k) D.sure) (pendZ D.pend) (pendR D.pend) D.fails Gi { V with ss := ss } ∧ Mv N G w0 wi ∧ (∀ b, Gi b → G b ∨ w0.heap.size ≤ b))
  case atStart => exact ⟨0, V.ss, G, by omega, Nat.zero_le _, rfl, T0.out, by rw [List.take_zero]; exact E0.out, Mv.refl _ _ _, fun b hb => .inl hb⟩
  case round =>
    obtain ⟨k, ss, Gi, hkf, hk, rfl, hT, hE, hM, hS⟩ := hrel
    have TR := Lib.hid hT
    have ER := Lib.hid hE
    have MR := Lib.hid hM
    have SR := Lib.hid hS
    have k1 : wr.cell? ⟨h, 1, none⟩ = some (.slice AS sl cS) := hT.cell 1
    have k2 : wr.cell? ⟨h, 2, none⟩ = some (.slice AW pl cW) := hT.cell 2
    have k3 : wr.cell? ⟨h, 3, none⟩ = some (.slice AB pl cB) := hT.cell 3
    clear hT hE hM hS T0 E0
    by_cases hlt : k < pl
    · have t0 : (k : Int) < (pl : Int) := by omega
      have hlk : k < D.pend.length := by have := HPP.out; omega
      have OW := ER.out.oW
      have OB := ER.out.oB
      have OS := ER.out.oS
      rw [pendZ_len, ← HPP.out] at OW
      rw [pendR_len, ← HPP.out] at OB
      rw [Dk.tear_len, ← HSL.out] at OS
      have eW : V.vW = .slice AW pl cW := HEW.out
      have eB : V.vB = .slice AB pl cB := HEB.out
      have eS : V.vS = .slice AS sl cS := HES.out
      have OW : wr.ownsRow N 3 1 (.slice AW pl cW) pl (zv (pendZ D.pend)) := by rw [← eW]; exact OW
      have OB : wr.ownsRow N 23 1 (.slice AB pl cB) pl V.bs := by rw [← eB]; exact OB
      have OS : wr.ownsRow N 23 1 (.slice AS sl cS) sl ss := by rw [← eS]; exact OS
      obtain ⟨bW, hbW, hlW, hcW, _⟩ := own_cellB OW hlt
      obtain ⟨bB, hbB, hlB, hcB, _⟩ := own_cellB OB hlt
      obtain ⟨pw, hpw⟩ : ∃ pw, pw = (D.pend.getD k (0, [])).1 := ⟨_, rfl⟩
      obtain ⟨now, hnow⟩ : ∃ now, now = (D.pend.getD k (0, [])).2 := ⟨_, rfl⟩
      have hmem : D.pend.getD k (0, []) ∈ D.pend := by rw [List.getD_eq_getElem?_getD, List.getElem?_eq_getElem hlk]; exact List.getElem_mem _
      have hpwl : pw < sl := by rw [hpw, HSL.out]; exact (HPB.out _ hmem).1
      have hn64 : now.length = 64 := by rw [hnow]; exact (HPB.out _ hmem).2
      obtain ⟨bS, hbS, hlS, hcS, hfS⟩ := own_cellB OS hpwl
      rw [pendZ_at _ _ hlk, ← hpw] at hcW
      obtain ⟨A1, n1, c1, e1, r1, g1⟩ := ER.out.rB k (by rw [pendR_len]; exact hlk)
      have e1' : V.bs[k]? = some (.slice A1 n1 c1) := e1
      rw [e1'] at hcB
      rw [pendR_at, ← hnow] at r1
      obtain rfl : n1 = 64 := r1.len.symm.trans hn64
      obtain ⟨old, hold⟩ : ∃ old, old = (Dk.tear ch 0 (D.pend.take k) D.sure).getD pw [] := ⟨_, rfl⟩
      have hplt : pw < (Dk.tear ch 0 (D.pend.take k) D.sure).length := by rw [Dk.tear_len, ← HSL.out]; exact hpwl
      have ho64 : old.length = 64 := by
        rw [hold, List.getD_eq_getElem?_getD, List.getElem?_eq_getElem hplt]
        exact Dk.tear_rows ch _ _ _ HRW.out _ (List.getElem_mem _)
      obtain ⟨A2, n2, c2, e2, r2, g2⟩ := ER.out.rS pw hplt
      have e2' : ss[pw]? = some (.slice A2 n2 c2) := e2
      rw [e2'] at hcS
      rw [← hold] at r2
      obtain rfl : n2 = 64 := r2.len.symm.trans ho64
      obtain ⟨C, hC⟩ : ∃ C, C = Dk.choice ch k := ⟨_, rfl⟩
      have C256 : C < 256 := by
        rw [hC, Dk.choice]
        split
        · omega
        · exact UInt8.toNat_lt _
      have HC := Lib.hid hC
      have HO64 := Lib.hid ho64
      have HN64 := Lib.hid hn64
      have STEP := Lib.hid (show (Dk.tear ch 0 (D.pend.take k) D.sure).set pw (Dk.torn C old now) = Dk.tear ch 0 (D.pend.take (k + 1)) D.sure by rw [tear_take _ _ _ _ hlk, ← hpw, ← hnow, ← hold, ← hC])
      have HPW := Lib.hid (show pw < sl ∧ pw < (Dk.tear ch 0 (D.pend.take k) D.sure).length from ⟨hpwl, hplt⟩)
      have HVS := Lib.hid (show V.vS = .slice (some ⟨bS, 0, none⟩) (Dk.tear ch 0 (D.pend.take k) D.sure).length cS by rw [eS, hbS, Dk.tear_len, HSL.out])
      have hneH : h ≠ bS := Ne.symm (ER.out.dS bS (by show V.vS.ownBlock = _; rw [eS, hbS]; rfl)).1
      have hneW : bW ≠ bS := by
        have := ER.out.dW bW (by show V.vW.ownBlock = _; rw [eW, hbW]; rfl)
        exact fun e => this.2.1 (by show V.vS.ownBlock = _; rw [eS, hbS, e]; rfl)
      rw [hbW] at k2
      rw [hbB] at k3
      rw [hbS] at k1
      have KS := Lib.hid (show ∀ X : World, (∀ b, b < wr.heap.size → b ≠ bS → X.heap[b]? = wr.heap[b]?) → X.cell? ⟨h, 1, none⟩ = some (.slice (some ⟨bS, 0, none⟩) sl cS) ∧ X.cell? ⟨h, 2, none⟩ = some (.slice (some ⟨bW, 0, none⟩) pl cW) ∧ X.cell? ⟨bW, k, none⟩ = some (.int .i64 (pw : Int)) from fun X hX =>
        ⟨(World.cell?_of_block (a := ⟨h, 1, none⟩) (hX h TR.out.lt hneH)).trans k1, (World.cell?_of_block (a := ⟨h, 2, none⟩) (hX h TR.out.lt hneH)).trans k2, (World.cell?_of_block (a := ⟨bW, k, none⟩) (hX bW hlW hneW)).trans hcW⟩)
      have KB := Lib.hid (show ∀ X : World, (∀ b, b < wr.heap.size → X.heap[b]? = wr.heap[b]?) → X.cell? ⟨h, 1, none⟩ = some (.slice (some ⟨bS, 0, none⟩) sl cS) ∧ X.cell? ⟨h, 2, none⟩ = some (.slice (some ⟨bW, 0, none⟩) pl cW) ∧ X.cell? ⟨bW, k, none⟩ = some (.int .i64 (pw : Int)) ∧ X.cell? ⟨bS, pw, none⟩ = some (.slice A2 64 c2) from fun X hX =>
        ⟨(World.cell?_of_block (a := ⟨h, 1, none⟩) (hX h TR.out.lt)).trans k1, (World.cell?_of_block (a := ⟨h, 2, none⟩) (hX h TR.out.lt)).trans k2, (World.cell?_of_block (a := ⟨bW, k, none⟩) (hX bW hlW)).trans hcW, (World.cell?_of_block (a := ⟨bS, pw, none⟩) (hX bS hlS)).trans hcS⟩)
      have KN := Lib.hid (show ∀ X : World, (∀ b, b < wr.heap.size → X.heap[b]? = wr.heap[b]?) → X.cell? ⟨h, 3, none⟩ = some (.slice (some ⟨bB, 0, none⟩) pl cB) ∧ X.cell? ⟨bB, k, none⟩ = some (.slice A1 64 c1) from fun X hX =>
        ⟨(World.cell?_of_block (a := ⟨h, 3, none⟩) (hX h TR.out.lt)).trans k3, (World.cell?_of_block (a := ⟨bB, k, none⟩) (hX bB hlB)).trans hcB⟩)
      have KF := Lib.hid (show ∀ X : World, (∀ b, b < wr.heap.size → X.heap[b]? = wr.heap[b]?) → X.frozen? ⟨bS, pw, none⟩ = false ∧ ∃ u, X.cell? ⟨bS, pw, none⟩ = some u from fun X hX => ⟨(World.frozen?_of_block (a := ⟨bS, pw, none⟩) (hX bS hlS)).trans hfS, _, (World.cell?_of_block (a := ⟨bS, pw, none⟩) (hX bS hlS)).trans hcS⟩)
      have R1 := Lib.hid r1
      have R2 := Lib.hid r2
      have HIF := Lib.hid hkf
      have p0 : (pw : Int) < (sl : Int) := by omega
      have RC := Lib.hid (HCH.out _ MR.out.bel)
      have HNH := Lib.hid hneH
      have HLS := Lib.hid hlS
      clear hcW hcB hcS hfS hneW e1 e1' e2 e2' r1 r2 g1 g2 OW OB OS eW eB eS hbW hbB hbS hlW hlB hpw hnow hold hlk hpwl hplt ho64 hn64 hmem hC hneH hlS k1 k2 k3 hkf
      have K2 := (KB.out wr (fun b _ => rfl)).2.1
      go_upto_if 21 with (fail)
      clear K2
      go_cut [7] from 10 to 99 (fun s7 wx => s7 = .int .i64 (C : Int) ∧ wx = wr)
      case first =>
        by_cases hn0 : n' = 0
        · subst hn0
          have ech : ch = [] := List.eq_nil_of_length_eq_zero RC.out.len
          have eC : C = 0 := by rw [HC.out, Dk.choice, if_pos ech]
          go_wp2_with (fail)
          go_meet
          exact ⟨by rw [eC]; rfl, rfl⟩
        · have hn1 : 0 < n' := by omega
          obtain ⟨ba, oa, hea, hba, hat⟩ := RC.out.at_ hn1
          have hm : k % n' < n' := Nat.mod_lt _ hn1
          have hcell := hat (k % n') hm
          have eC : (ch.getD (k % n') 0).toNat = C := by
            rw [HC.out, Dk.choice, if_neg (by intro e; have := RC.out.len; rw [e] at this; simp at this; omega), RC.out.len]
          rw [eC] at hcell
          subst hea
          obtain ⟨m, em⟩ : ∃ m, m = k % n' := ⟨_, rfl⟩
          rw [← em] at hm hcell
          have y1 : (k : Int).tmod (n' : Int) = (m : Int) := by rw [Int.tmod_eq_emod_of_nonneg (Int.natCast_nonneg _), em]; rfl
          have y2 : (k : Int) % (n' : Int) = (m : Int) := by rw [em]; rfl
          have y3 : (0 : Int) < (n' : Int) := by omega
          have y4 : ¬ (n' : Int) = 0 := by omega
          have y5 : (m : Int) < (n' : Int) := by omega
          clear hat eC em
          go_wp2_with (fail)
          go_meet
          exact ⟨rfl, rfl⟩
      case rest =>
        obtain ⟨rfl, hwc⟩ := hcut
        replace hwc := hwc.symm
        subst hwc
        obtain ⟨wq, rfl⟩ : ∃ wq : World, wq = wr := ⟨_, rfl⟩
        have H256 := Lib.hid C256
        clear C256
        have GD := Lib.hid (Below.refl wq.heap.size wq).drew
        have KD := Lib.hid (show ∀ X : World, Below wq.heap.size wq X → X.cell? ⟨h, 1, none⟩ = some (.slice (some ⟨bS, 0, none⟩) sl cS) ∧ X.cell? ⟨h, 2, none⟩ = some (.slice (some ⟨bW, 0, none⟩) pl cW) ∧ X.cell? ⟨bW, k, none⟩ = some (.int .i64 (pw : Int)) ∧ X.cell? ⟨bS, pw, none⟩ = some (.slice A2 64 c2) from fun X hX => KB.out X (fun b hb => hX.block b hb))
        go_upto_region 7 with (fail)
        (go_region_held3 (fun X => X.cell? ⟨h, 1, none⟩ = some (.slice (some ⟨bS, 0, none⟩) sl cS) ∧ X.cell? ⟨h, 2, none⟩ = some (.slice (some ⟨bW, 0, none⟩) pl cW) ∧ X.cell? ⟨bW, k, none⟩ = some (.int .i64 (pw : Int)) ∧ X.cell? ⟨bS, pw, none⟩ = some (.slice A2 64 c2)) (first
          | exact KD.out _ GD.out
          | exact KD.out _ (GD.out.alloc GD.out.size _)
          | exact KD.out _ B8.out) (first
          | (refine step_append_rd (by rfl) (.tmp 30) (.tmp 43) (by rfl) wq.heap.size _ 0 [] (by rfl) (World.ownsRow_lit (base := wq.heap.size) (e := 5) (size := 1) wq.drew #[] 0 GD.out.size (by simp [maxLen]) rfl) A2 64 c2 _ (by rfl) ((R2.out.below GD.out).alloc _) (by omega) (GD.out.alloc GD.out.size _).size ?_; intro v8 x8 o8 g8 at8; obtain ⟨A8, c8, rfl⟩ := own_form o8; have O8 := Lib.hid (own_n o8); have B8 := Lib.hid ((GD.out.alloc GD.out.size _).grown g8 (GD.out.alloc GD.out.size _).size (fun k hk => Nat.le_of_eq (Option.some.inj hk))); clear o8 g8 at8)
          | fail))
        obtain ⟨b8, rfl, hl8, _, _⟩ := own_cellB O8.out (j := 0) (by omega)
        have G8 := Lib.hid (show wq.heap.size ≤ b8 from (O8.out.lt b8 rfl).1)
        have KD2 := KD.out _ B8.out
        clear hl8
        go_wp2_with (fail)
        go_loopg [9] 65 (fun f jv wi => ∃ (j : Nat), j + f = 65 ∧ j ≤ 64 ∧ jv = .int .i64 (j : Int) ∧ wi.ownsRow wq.heap.size 5 1 (.slice (some ⟨b8, 0, none⟩) 64 c8) 64 (bv (tornP C old now j)) ∧ Below wq.heap.size wq wi)
        case atStart => exact ⟨0, by omega, by omega, rfl, by rw [tornP_zero _ _ _ HO64.out]; exact O8.out, B8.out⟩
        case round =>
          clear KD2 O8 B8
          obtain ⟨j, hjf, hj64, rfl, hO, hB⟩ := hrel
          by_cases hj : j < 64
          · have t5 : (j : Int) < 64 := by omega
            have KN2 := KN.out wr (fun b hb => hB.block b hb)
            obtain ⟨kn3, knB⟩ := KN2
            have j2 : ¬ (j : Int) < 0 := by omega
            have hm4 : C % 4 = 0 ∨ C % 4 = 1 ∨ C % 4 = 2 ∨ C % 4 = 3 := by omega
            rcases hm4 with cm | cm | cm | cm
            · have y1 : (C : Int).tmod 4 = 0 := by rw [Int.tmod_eq_emod_of_nonneg (Int.natCast_nonneg _)]; omega
              have y2 : (C : Int) % 4 = 0 := by omega
              have TJ := Lib.hid (tornP_miss (c := C) (k := j) old now (show ¬ tears C j by unfold tears; omega))
              have OX := Lib.hid hO
              rw [← TJ.out] at OX
              have BX := Lib.hid hB
              clear hO hB
              have HJ := Lib.hid (show j + gk = 65 ∧ j < 64 from ⟨hjf, hj⟩)
              clear cm hjf hj64 hj
              go_wp2_with (fail)
              go_roundg (gk - 1)
              case rel => have := HJ.out; exact ⟨j + 1, by omega, by omega, by go_num, OX.out, BX.out⟩
              case measure => have := HJ.out; omega
            · have y1 : (C : Int).tmod 4 = 1 := by rw [Int.tmod_eq_emod_of_nonneg (Int.natCast_nonneg _)]; omega
              have y2 : (C : Int) % 4 = 1 := by omega
              have TJ := Lib.hid (tornP_hit old now hj (show tears C j by unfold tears; omega))
              have hs := hO.stored j
              have hf := hO.frozenAt j
              obtain ⟨uo, hc⟩ : ∃ uo, wr.cell? ⟨b8, j, none⟩ = some uo := ⟨_, by have hc := hO.cellAt j (by omega); rw [bv_at _ _ (by rw [tornP_len]; omega)] at hc; exact hc⟩
              have BX := Lib.hid (hB.setCell (p := ⟨b8, j, none⟩) G8.out (.int .u8 ((now.getD j 0).toNat : Int)))
              have OX := Lib.hid (show (wr.setCell ⟨b8, j, none⟩ (.int .u8 ((now.getD j 0).toNat : Int))).ownsRow wq.heap.size 5 1 (.slice (some ⟨b8, 0, none⟩) 64 c8) 64 (bv (tornP C old now (j + 1))) by rw [TJ.out, ← bv_set]; exact (hs _).1)
              obtain ⟨A9, e9, n9⟩ : ∃ bx ox, A1 = some ⟨bx, ox, none⟩ ∧ wr.cell? ⟨bx, ox + j, none⟩ = some (.int .u8 ((now.getD j 0).toNat : Int)) := by
                obtain ⟨bx, ox, q1, q2, q3⟩ := (R1.out.below hB).at_ (by omega)
                exact ⟨bx, ox, q1, q3 j hj⟩
              obtain ⟨rfl, n9⟩ := n9
              obtain ⟨nj, hnj⟩ : ∃ nj, nj = (now.getD j 0).toNat := ⟨_, rfl⟩
              rw [← hnj] at n9 BX OX
              clear hs hO hB hnj
              have HJ := Lib.hid (show j + gk = 65 ∧ j < 64 from ⟨hjf, hj⟩)
              clear cm hjf hj64 hj
              go_wp2_with (fail)
              go_roundg (gk - 1)
              case rel => have := HJ.out; exact ⟨j + 1, by omega, by omega, by go_num, OX.out, BX.out⟩
              case measure => have := HJ.out; omega
            · have y1 : (C : Int).tmod 4 = 2 := by rw [Int.tmod_eq_emod_of_nonneg (Int.natCast_nonneg _)]; omega
              have y2 : (C : Int) % 4 = 2 := by omega
              obtain ⟨q, hq⟩ : ∃ q, q = C / 4 := ⟨_, rfl⟩
              have y3 : (C : Int).tdiv 4 = (q : Int) := by rw [Int.tdiv_eq_ediv_of_nonneg (Int.natCast_nonneg _), hq]; rfl
              have y4 : (C : Int) / 4 = (q : Int) := by rw [hq]; rfl
              have q64 : q < 64 := by have := H256.out; omega
              by_cases hjq : j < q
              · have y5 : (j : Int) < (q : Int) := by omega
                have y6 : ¬ (q : Int) ≤ (j : Int) := by omega
                have TJ := Lib.hid (tornP_hit old now hj (show tears C j by unfold tears; omega))
                have hs := hO.stored j
                have hf := hO.frozenAt j
                obtain ⟨uo, hc⟩ : ∃ uo, wr.cell? ⟨b8, j, none⟩ = some uo := ⟨_, by have hc := hO.cellAt j (by omega); rw [bv_at _ _ (by rw [tornP_len]; omega)] at hc; exact hc⟩
                have BX := Lib.hid (hB.setCell (p := ⟨b8, j, none⟩) G8.out (.int .u8 ((now.getD j 0).toNat : Int)))
                have OX := Lib.hid (show (wr.setCell ⟨b8, j, none⟩ (.int .u8 ((now.getD j 0).toNat : Int))).ownsRow wq.heap.size 5 1 (.slice (some ⟨b8, 0, none⟩) 64 c8) 64 (bv (tornP C old now (j + 1))) by rw [TJ.out, ← bv_set]; exact (hs _).1)
                obtain ⟨A9, e9, n9⟩ : ∃ bx ox, A1 = some ⟨bx, ox, none⟩ ∧ wr.cell? ⟨bx, ox + j, none⟩ = some (.int .u8 ((now.getD j 0).toNat : Int)) := by
                  obtain ⟨bx, ox, q1, q2, q3⟩ := (R1.out.below hB).at_ (by omega)
                  exact ⟨bx, ox, q1, q3 j hj⟩
                obtain ⟨rfl, n9⟩ := n9
                obtain ⟨nj, hnj⟩ : ∃ nj, nj = (now.getD j 0).toNat := ⟨_, rfl⟩
                rw [← hnj] at n9 BX OX
                clear hs hO hB hnj
                have HJ := Lib.hid (show j + gk = 65 ∧ j < 64 from ⟨hjf, hj⟩)
                clear cm hjf hj64 hj hjq hq
                go_wp2_with (fail)
                go_roundg (gk - 1)
                case rel => have := HJ.out; exact ⟨j + 1, by omega, by omega, by go_num, OX.out, BX.out⟩
                case measure => have := HJ.out; omega
              · have y5 : ¬ (j : Int) < (q : Int) := by omega
                have y6 : (q : Int) ≤ (j : Int) := by omega
                have TJ := Lib.hid (tornP_miss (c := C) (k := j) old now (show ¬ tears C j by unfold tears; omega))
                have OX := Lib.hid hO
                rw [← TJ.out] at OX
                have BX := Lib.hid hB
                clear hO hB
                have HJ := Lib.hid (show j + gk = 65 ∧ j < 64 from ⟨hjf, hj⟩)
                clear cm hjf hj64 hj hjq hq
                go_wp2_with (fail)
                go_roundg (gk - 1)
                case rel => have := HJ.out; exact ⟨j + 1, by omega, by omega, by go_num, OX.out, BX.out⟩
                case measure => have := HJ.out; omega
            · have y1 : (C : Int).tmod 4 = 3 := by rw [Int.tmod_eq_emod_of_nonneg (Int.natCast_nonneg _)]; omega
              have y2 : (C : Int) % 4 = 3 := by omega
              obtain ⟨q, hq⟩ : ∃ q, q = C / 4 := ⟨_, rfl⟩
              have y3 : (C : Int).tdiv 4 = (q : Int) := by rw [Int.tdiv_eq_ediv_of_nonneg (Int.natCast_nonneg _), hq]; rfl
              have y4 : (C : Int) / 4 = (q : Int) := by rw [hq]; rfl
              have q64 : q < 64 := by have := H256.out; omega
              by_cases hjq : j < q
              · have y5 : (j : Int) < (q : Int) := by omega
                have y6 : ¬ (q : Int) ≤ (j : Int) := by omega
                have TJ := Lib.hid (tornP_miss (c := C) (k := j) old now (show ¬ tears C j by unfold tears; omega))
                have OX := Lib.hid hO
                rw [← TJ.out] at OX
                have BX := Lib.hid hB
                clear hO hB
                have HJ := Lib.hid (show j + gk = 65 ∧ j < 64 from ⟨hjf, hj⟩)
                clear cm hjf hj64 hj hjq hq
                go_wp2_with (fail)
                go_roundg (gk - 1)
                case rel => have := HJ.out; exact ⟨j + 1, by omega, by omega, by go_num, OX.out, BX.out⟩
                case measure => have := HJ.out; omega
              · have y5 : ¬ (j : Int) < (q : Int) := by omega
                have y6 : (q : Int) ≤ (j : Int) := by omega
                have TJ := Lib.hid (tornP_hit old now hj (show tears C j by unfold tears; omega))
                have hs := hO.stored j
                have hf := hO.frozenAt j
                obtain ⟨uo, hc⟩ : ∃ uo, wr.cell? ⟨b8, j, none⟩ = some uo := ⟨_, by have hc := hO.cellAt j (by omega); rw [bv_at _ _ (by rw [tornP_len]; omega)] at hc; exact hc⟩
                have BX := Lib.hid (hB.setCell (p := ⟨b8, j, none⟩) G8.out (.int .u8 ((now.getD j 0).toNat : Int)))
                have OX := Lib.hid (show (wr.setCell ⟨b8, j, none⟩ (.int .u8 ((now.getD j 0).toNat : Int))).ownsRow wq.heap.size 5 1 (.slice (some ⟨b8, 0, none⟩) 64 c8) 64 (bv (tornP C old now (j + 1))) by rw [TJ.out, ← bv_set]; exact (hs _).1)
                obtain ⟨A9, e9, n9⟩ : ∃ bx ox, A1 = some ⟨bx, ox, none⟩ ∧ wr.cell? ⟨bx, ox + j, none⟩ = some (.int .u8 ((now.getD j 0).toNat : Int)) := by
                  obtain ⟨bx, ox, q1, q2, q3⟩ := (R1.out.below hB).at_ (by omega)
                  exact ⟨bx, ox, q1, q3 j hj⟩
                obtain ⟨rfl, n9⟩ := n9
                obtain ⟨nj, hnj⟩ : ∃ nj, nj = (now.getD j 0).toNat := ⟨_, rfl⟩
                rw [← hnj] at n9 BX OX
                clear hs hO hB hnj
                have HJ := Lib.hid (show j + gk = 65 ∧ j < 64 from ⟨hjf, hj⟩)
                clear cm hjf hj64 hj hjq hq
                go_wp2_with (fail)
                go_roundg (gk - 1)
                case rel => have := HJ.out; exact ⟨j + 1, by omega, by omega, by go_num, OX.out, BX.out⟩
                case measure => have := HJ.out; omega
          · have t5 : ¬ (j : Int) < 64 := by omega
            obtain rfl : j = 64 := by omega
            rw [tornP_full] at hO
            have GW := Lib.hid (Below.drew hB)
            have RX := Lib.hid ((Rd.own hO).drew)
            have FR := Lib.hid (Rest.fresh ER.out GW.out RX.out (fun a _ e => by injection e with e; rw [← e]; exact G8.out))
            have SET := Lib.hid (Rest.setS (bS := bS) (cS := cS) (i := pw) (u := .slice (some ⟨b8, 0, none⟩) 64 c8) (xs := Dk.torn C old now) FR.out.1 HVS.out HPW.out.2 FR.out.2.1)
            have KS1 := KS.out wr (fun b hb _ => hB.block b hb)
            obtain ⟨ks1, ks2, ksW⟩ := KS1
            obtain ⟨f9, u9, c9⟩ := KF.out wr.drew (fun b hb => GW.out.block b hb)
            have T3 := Lib.hid ((TR.out.below GW.out TR.out.lt).far (p := ⟨bS, pw, none⟩) HNH.out (.slice (some ⟨b8, 0, none⟩) 64 c8))
            have M3 := Lib.hid (MR.out.trans ((Mv.of (N := N) (F := Gi) (Nat.le_trans (Nat.le_trans GN.out.2.2 B0.out.size) MR.out.size) GW.out).trans SET.out.2 FR.out.2.2) SR.out)
            have S3 := Lib.hid (show ∀ b, (Gi b ∨ ∃ a, 0 < 64 ∧ some (⟨b8, 0, none⟩ : Addr) = some a ∧ a.block = b) → G b ∨ w0.heap.size ≤ b from fun b hb => by
              rcases FR.out.2.2 b hb with q | q
              · exact SR.out b q
              · exact .inr (Nat.le_trans MR.out.size q))
            have E3 := Lib.hid SET.out.1
            rw [STEP.out] at E3
            have HB := Lib.hid hB
            clear hO hB hjf hj64 hj SET FR
            go_upto_region 13 with (fail)
            clear ks1 ks2 ksW
            (go_region_held3 (fun X => X.cell? ⟨h, 1, none⟩ = some (.slice (some ⟨bS, 0, none⟩) sl cS) ∧ X.cell? ⟨h, 2, none⟩ = some (.slice (some ⟨bW, 0, none⟩) pl cW) ∧ X.cell? ⟨bW, k, none⟩ = some (.int .i64 (pw : Int))) (first
              | exact KS.out _ (fun b hb hne => (Below.heap_setCell _ ⟨bS, pw, none⟩ _ b hne).trans (GW.out.block b hb))
              | exact KS.out _ (fun b hb _ => GW.out.block b hb)) (fail))
            obtain ⟨w5, hw5⟩ : ∃ w5, w5 = (wr.setCell ⟨bS, pw, none⟩ (.slice (some ⟨b8, 0, none⟩) 64 c8)).drew := ⟨_, rfl⟩
            have conv : wr.drew.setCell ⟨bS, pw, none⟩ (.slice (some ⟨b8, 0, none⟩) 64 c8) = w5 := by rw [hw5]; rfl
            rw [conv] at T3 E3 M3
            first
              | rw [← hw5]
              | rw [conv]
              | skip
            clear conv hw5 c9 f9
            have hkm : k + 1 ≤ 9223372036854775807 := by have := HMX.out; omega
            go_wp2_with (fail)
            go_roundg (pl - k)
            case rel => have := HIF.out; exact ⟨k + 1, _, _, by omega, by omega, by go_num, T3.out, E3.out, M3.out, S3.out⟩
            case measure => have := HIF.out; omega
    · have t0 : ¬ (k : Int) < (pl : Int) := by omega
      obtain rfl : k = pl := by omega
      clear hlt
      have f2 := TR.out.frozen 2
      have f3 := TR.out.frozen 3
      have f4 := TR.out.frozen 4
      have f5 := TR.out.frozen 5
      have f6 := TR.out.frozen 6
      have f7 := TR.out.frozen 7
      have k4 : wr.cell? ⟨h, 4, none⟩ = some (.slice V.AF V.nF V.cF) := TR.out.cell 4
      have k5 : wr.cell? ⟨h, 5, none⟩ = some (.int .i64 D.stop) := TR.out.cell 5
      have k6 : wr.cell? ⟨h, 6, none⟩ = some (.int .i64 (D.cnt : Int)) := TR.out.cell 6
      have k7 : wr.cell? ⟨h, 7, none⟩ = some (.bool D.off) := TR.out.cell 7
      have PR := Lib.hid (MR.out.bk P0.out GP.out)
      have hPh : P ≠ h := fun e => GP.out (e ▸ GN.out.2.1)
      have p0 : wr.cell? ⟨P, 0, none⟩ = some (.slice A n c) := PR.out.cell 0
      have p1 : wr.cell? ⟨P, 1, none⟩ = some (.int .i64 st) := PR.out.cell 1
      have TF := Lib.hid ((((((TR.out.put 2 (.slice none 0 0)).put 3 (.slice none 0 0)).put 4 (.slice A n c)).put 5 (.int .i64 st)).put 6 (.int .i64 0)).put 7 (.bool false))
      have EF := Lib.hid ((((((ER.out.nil.poke 2 (.slice none 0 0)).poke 3 (.slice none 0 0)).poke 4 (.slice A n c)).poke 5 (.int .i64 st)).poke 6 (.int .i64 0)).poke 7 (.bool false))
      rw [show D.pend.take k = D.pend by rw [HPP.out, List.take_length]] at EF
      have GI := Lib.hid (show Gi h from ER.out.inG h (.inl rfl))
      have MF := Lib.hid (show Mv N Gi wr _ from ((((((Mv.poke (G := Gi) GN.out.1 GI.out wr 2 (.slice none 0 0)).trans (Mv.poke (G := Gi) GN.out.1 GI.out _ 3 (.slice none 0 0)) (fun b hb => .inl hb)).trans (Mv.poke (G := Gi) GN.out.1 GI.out _ 4 (.slice A n c)) (fun b hb => .inl hb)).trans (Mv.poke (G := Gi) GN.out.1 GI.out _ 5 (.int .i64 st)) (fun b hb => .inl hb)).trans (Mv.poke (G := Gi) GN.out.1 GI.out _ 6 (.int .i64 0)) (fun b hb => .inl hb)).trans (Mv.poke (G := Gi) GN.out.1 GI.out _ 7 (.bool false)) (fun b hb => .inl hb)))
      go_wp2_with (fail)
      refine bodyPost_end (results_none rfl _ _ _) rfl ?_
      have MA := (Mv.of (N := N) (F := G) GN.out.2.2 B0.out).trans (MR.out.trans MF.out SR.out) (fun b hb => .inl hb)
      refine ⟨rfl, Gi, ⟨HOK.out, { V with ss := ss, vW := .slice none 0 0, vB := .slice none 0 0, bs := [], AF := A, nF := n, cF := c }, ?_, ?_⟩, fun b hb => ?_, MA⟩
      · have q := TF.out
        rw [← HES.out] at q
        exact q
      · exact Rest.plan EF.out (HFS.out _ MA.bel) (fun a h1 h2 => ⟨.inl (HAN.out a h1 h2), EF.out.notSpine (HAN.out a h1 h2)⟩)
      · rcases SR.out b hb with q | q
        · exact .inl q
        · exact .inr (Nat.le_trans B0.out.size q)
end Go.Proofs.YtnoflgkjdibblaaGreatDoor.S19

/-
  How an argument that came in reads: an array of numbers.
-/
namespace Go.Proofs.YtnoflgkjdibblaaGreatDoor
set_option linter.unusedSimpArgs false
set_option linter.unusedVariables false
open Go.ChangeShapes Go.WideShapes Go.ChangeAt Go.RowKit

theorem okWide_array {P : Program} {w : World} {r : Reach} {base : Nat} {t e : TypeId} {n : Nat} {v : Value} (ht : P.underlying t = some (.array n e)) (h : Value.okWide P w r base t v) : ∃ cs, v = .agg cs ∧ cs.size = P.cellsOf t := by
  simp only [Value.okWide, ht] at h
  obtain ⟨cs, h1, h2, _⟩ := h
  exact ⟨cs, h1, h2⟩
def numOf (v : Value) : Int := match v with
  | .int _ z => z
  | _ => 0
theorem open_array {H : Type} {enc : TypeId × Value → H} {P : Program} {W : World} {v : Value} {d : DataW H} {p : List MemPlace} {base b : Nat} {sp : Nat → Bool} {held : Bool} {t e : TypeId} {n : Nat} {k : IntKind} {r : Reach}
    (ht : P.underlying t = some (.array n e)) (he : P.underlying e = some (.int k)) (hce : P.cellsOf e = 1) (hct : P.cellsOf t = n)
    (hv : Value.okWide P W r base t v) (h : DataW.Trod enc P W b sp held t v d p) :
    ∃ zs : List Int, zs.length = n ∧ v = .agg (zs.map fun z => Value.int k z).toArray ∧ ∀ z ∈ zs, (Lit.int k z).wf = true := by
  obtain ⟨cs, rfl, hs⟩ := okWide_array ht hv
  obtain ⟨fuel, hf⟩ := h
  obtain ⟨xs, m, _, _, hl, hxl, hall⟩ := DataW.trod_array ht hf
  have hcs : ((Value.agg cs).cells).toList = cs.toList := rfl
  rw [hcs] at hl hall
  have one : ∀ i, i < n → ∃ z, cs.toList[i]? = some (.int k z) ∧ (Lit.int k z).wf = true := fun i hi => by
    have h1 := hall i hi
    rw [hce, Nat.mul_one, List.getElem?_eq_getElem (by omega)] at h1
    obtain ⟨z, hz, _, wz⟩ := DataW.trod_int he h1
    refine ⟨z, ?_, wz⟩
    have := congrArg (·[0]?) hz
    simpa [List.getElem?_take, List.getElem?_drop] using this
  have hlen : cs.toList.length = n := by rw [hl, hct]
  refine ⟨cs.toList.map numOf, by simpa using hlen, ?_, fun z hz => ?_⟩
  · congr 1
    have : cs.toList = (cs.toList.map numOf).map fun z => Value.int k z := by
      apply List.ext_getElem?
      intro i
      by_cases hi : i < n
      · obtain ⟨z, h1, _⟩ := one i hi
        simp only [List.getElem?_map, h1, Option.map_some, numOf]
      · rw [List.getElem?_eq_none (by omega), List.getElem?_eq_none (by simp only [List.length_map]; omega)]
    rw [← this]
  · obtain ⟨v, hv, rfl⟩ := List.mem_map.1 hz
    obtain ⟨i, hi, hiv⟩ := List.getElem_of_mem hv
    obtain ⟨z, h1, h2⟩ := one i (by omega)
    rw [List.getElem?_eq_getElem hi, hiv] at h1
    injection h1 with h1
    subst h1
    exact h2
theorem own_ : ownKnob Tryz.prog.godebug = none := by kernel_rfl
theorem laid_ : laidOutB Tryz.prog = true := by kernel_rfl
theorem places_lt {H : Type} {enc : TypeId × Value → H} {W : World} {t : TypeId} {v : Value} {d : DataW H} {p : List MemPlace}
    (h : DataW.Trod enc Tryz.prog W 0 (fun _ => true) true t v d p) : ∀ x ∈ p, x.block < W.heap.size := by
  obtain ⟨m, hm⟩ := h
  exact DataW.trod_lt m _ _ _ hm
end Go.Proofs.YtnoflgkjdibblaaGreatDoor

/-
  How an argument that came in reads: a row of bytes.
-/
namespace Go.Proofs.YtnoflgkjdibblaaGreatDoor
set_option linter.unusedSimpArgs false
set_option linter.unusedVariables false
set_option maxRecDepth 4096
open Go.ChangeShapes Go.WideShapes Go.ChangeAt Go.RowKit

theorem rd_of_cells {w : World} {x : Addr} {len cap : Nat} {zs : List Int} (hl : len ≤ cap) (hm : cap ≤ maxLen) (hz : zs.length = cap)
    (hc : ∀ i, i < zs.length → w.cell? (x.add i) = some (.int .u8 (zs.getD i 0))) (hwf : ∀ n ∈ zs, (Lit.int .u8 n).wf = true) : ∃ xs, Rd w (some x) len cap xs := by
  refine ⟨(zs.take len).map fun z => UInt8.ofNat z.toNat, by simp; omega, hl, hm, (fun h => by cases h), fun hn => ?_⟩
  obtain ⟨b, off, rfl, hcell⟩ := ints_at hc (by omega)
  refine ⟨b, off, rfl, ?_, fun j hj => ?_⟩
  · have := hcell 0 (by omega)
    exact World.block_lt_of_cell? w _ this
  · rw [hcell j (by omega)]
    have hj' : j < zs.length := by omega
    have hw := hwf zs[j] (List.getElem_mem hj')
    have hb := bounds_u8 hw
    simp only [List.getD_eq_getElem?_getD, List.getElem?_eq_getElem hj', List.getElem?_map, List.getElem?_take, if_pos hj, Option.map_some, Option.getD_some, UInt8.toNat_ofNat']
    congr 2
    omega

/-- A slice of bytes that came in: its value, and how it reads. -/
theorem open_bytes {H : Type} {enc : TypeId × Value → H} {W : World} {v : Value} {d : DataW H} {p : List MemPlace} {base : Nat}
    (hv : Value.okWide Tryz.prog W .any base 23 v) (h : DataW.Trod enc Tryz.prog W 0 (fun _ => true) true 23 v d p) :
    ∃ (A : Option Addr) (len cap : Nat) (xs : List UInt8), v = .slice A len cap ∧ Rd W A len cap xs := by
  obtain ⟨A, len, cap, rfl⟩ := okWide_slice Tryz.underlying23 hv
  obtain ⟨fuel, hf⟩ := h
  rcases open_ints Tryz.underlying23 Tryz.underlying5 (by kernel_rfl) hf with ⟨hcs, _⟩ | ⟨x, l, c, zs, hcs, _, hl, hm, hz, _, hcell, hwz⟩
  · simp [Value.cells] at hcs
    obtain ⟨rfl, rfl, rfl⟩ := hcs
    exact ⟨none, 0, 0, [], rfl, Rd.nil_ W⟩
  · simp [Value.cells] at hcs
    obtain ⟨rfl, rfl, rfl⟩ := hcs
    obtain ⟨xs, hx⟩ := rd_of_cells hl hm (by simpa using hz) hcell hwz
    exact ⟨_, _, _, xs, rfl, hx⟩
end Go.Proofs.YtnoflgkjdibblaaGreatDoor

/-
  How arguments that came in read: whole numbers, steps on a disk. No statement is proved here.
-/
namespace Go.Proofs.YtnoflgkjdibblaaGreatDoor.S19
set_option linter.unusedSimpArgs false
set_option linter.unusedVariables false
set_option maxRecDepth 4096
open Go.ChangeShapes Go.WideShapes Go.ChangeAt Go.RowKit Go.Joins

theorem ri_of_cells {w : World} {k : IntKind} {x : Addr} {len cap : Nat} {zs : List Int} (hl : len ≤ cap) (hm : cap ≤ maxLen) (hz : zs.length = cap)
    (hc : ∀ i, i < zs.length → w.cell? (x.add i) = some (.int k (zs.getD i 0))) : RI w k (some x) len cap (zs.take len) := by
  refine ⟨by simp; omega, hl, hm, (fun h => by cases h), fun hn => ?_⟩
  obtain ⟨b, off, rfl, hcell⟩ := ints_at hc (by omega)
  refine ⟨b, off, rfl, ?_, fun j hj => ?_⟩
  · have := hcell 0 (by omega)
    exact World.block_lt_of_cell? w _ this
  · rw [hcell j (by omega)]
    have hj' : j < zs.length := by omega
    simp [List.getD, hj', hj]
abbrev Rz := Option Addr × Nat × Nat × List Int
theorem open_zi {H : Type} {enc : TypeId × Value → H} {W : World} {c : Value} {x : DataW H × List MemPlace} {fuel : Nat}
    (h : DataW.trod enc Tryz.prog W 0 (fun _ => true) true fuel 49 [c] = some x) : ∃ y : Rz, c = .slice y.1 y.2.1 y.2.2.1 ∧ RI W .i64 y.1 y.2.1 y.2.2.1 y.2.2.2 := by
  rcases open_ints Tryz.underlying49 Tryz.underlying3 (by kernel_rfl) h with ⟨hcs, _⟩ | ⟨x, l, c, zs, hcs, _, hl, hm, hz, hD, hc2, hwz⟩
  · simp at hcs
    subst hcs
    exact ⟨(none, 0, 0, []), rfl, RI.nil_ W _⟩
  · simp at hcs
    subst hcs
    exact ⟨(some x, l, c, zs.take l), rfl, ri_of_cells hl hm (by simpa using hz) hc2⟩
/-- A step on a disk, as a statement hands it over. -/
structure AcV where
  kind : Int
  i : Int
  c : UInt8
  s : Bool
  ca : Option Addr
  cn : Nat
  cc : Nat
  ch : List UInt8
  fa : Option Addr
  fn : Nat
  fc : Nat
  fs : List Int
  st : Int
instance : Inhabited AcV := ⟨⟨0, 0, 0, false, none, 0, 0, [], none, 0, 0, [], 0⟩⟩
def AcV.cells (a : AcV) : List Value := [.int .i64 a.kind, .int .i64 a.i, .int .u8 (a.c.toNat : Int), .bool a.s, .slice a.ca a.cn a.cc, .slice a.fa a.fn a.fc, .int .i64 a.st]
structure AcV.Ok (W : World) (a : AcV) : Prop where
  ch : Rd W a.ca a.cn a.cc a.ch
  fs : RI W .i64 a.fa a.fn a.fc a.fs
  hi : -9223372036854775808 ≤ a.i ∧ a.i < 9223372036854775808
/-- A row of steps. -/
structure RA (W : World) (A : Option Addr) (n c : Nat) (xs : List AcV) : Prop where
  len : xs.length = n
  cap : n ≤ c
  max : c ≤ maxLen
  nil : A = none → c = 0
  at_ : 0 < n → ∃ b off, A = some ⟨b, off, none⟩ ∧ b < W.heap.size ∧ ∀ j, j < n → (xs.getD j default).Ok W ∧ ∀ q, q < 7 → W.cell? ⟨b, off + j * 7 + q, none⟩ = (xs.getD j default).cells[q]?
theorem trod_struct6 {H : Type} {enc : TypeId × Value → H} {P : Program} {w : World} {base : Nat} {spare : Nat → Bool} {held : Bool} {t : TypeId} {f0 f1 f2 f3 f4 f5 : Field} {fuel : Nat} {cs : List Value} {x : DataW H × List MemPlace} (ht : P.underlying t = some (.struct #[f0, f1, f2, f3, f4, f5])) (h : DataW.trod enc P w base spare held fuel t cs = some x) :
    ∃ y0 y1 y2 y3 y4 y5 n, cs.length = P.cellsOf t ∧ DataW.trod enc P w base spare held n f0.type ((cs.drop f0.offset).take (P.cellsOf f0.type)) = some y0 ∧
      DataW.trod enc P w base spare held n f1.type ((cs.drop f1.offset).take (P.cellsOf f1.type)) = some y1 ∧ DataW.trod enc P w base spare held n f2.type ((cs.drop f2.offset).take (P.cellsOf f2.type)) = some y2 ∧
      DataW.trod enc P w base spare held n f3.type ((cs.drop f3.offset).take (P.cellsOf f3.type)) = some y3 ∧ DataW.trod enc P w base spare held n f4.type ((cs.drop f4.offset).take (P.cellsOf f4.type)) = some y4 ∧ DataW.trod enc P w base spare held n f5.type ((cs.drop f5.offset).take (P.cellsOf f5.type)) = some y5 := by
  obtain ⟨xs, n, _, rfl, hl, hlen, hf⟩ := DataW.trod_struct ht h
  match xs, hlen with
  | [y0, y1, y2, y3, y4, y5], _ => exact ⟨y0, y1, y2, y3, y4, y5, n, hl, by simpa using hf 0 f0 rfl, by simpa using hf 1 f1 rfl, by simpa using hf 2 f2 rfl, by simpa using hf 3 f3 rfl, by simpa using hf 4 f4 rfl, by simpa using hf 5 f5 rfl⟩
theorem i64_of_trod {H : Type} {enc : TypeId × Value → H} {W : World} {n : Nat} {v : Value} {y : DataW H × List MemPlace} (h : DataW.trod enc Tryz.prog W 0 (fun _ => true) true n 3 [v] = some y) : ∃ z : Int, v = .int .i64 z ∧ -9223372036854775808 ≤ z ∧ z < 9223372036854775808 := by
  obtain ⟨z, e, _, hw⟩ := DataW.trod_int Tryz.underlying3 h
  simp at e
  have e2 : -9223372036854775808 ≤ z ∧ z ≤ 9223372036854775807 := by simpa [Lit.wf, IntKind.min, IntKind.max, IntKind.signed, IntKind.bits] using hw
  exact ⟨z, e, by omega, by omega⟩
theorem u8_of_trod {H : Type} {enc : TypeId × Value → H} {W : World} {n : Nat} {v : Value} {y : DataW H × List MemPlace} (h : DataW.trod enc Tryz.prog W 0 (fun _ => true) true n 5 [v] = some y) : ∃ z : UInt8, v = .int .u8 (z.toNat : Int) := by
  obtain ⟨z, e, _, hw⟩ := DataW.trod_int Tryz.underlying5 h
  simp at e
  have hb := bounds_u8 hw
  refine ⟨UInt8.ofNat z.toNat, ?_⟩
  rw [e]
  congr 1
  simp
  omega
theorem row_of_trod {H : Type} {enc : TypeId × Value → H} {W : World} {c : Value} {x : DataW H × List MemPlace} {fuel : Nat}
    (h : DataW.trod enc Tryz.prog W 0 (fun _ => true) true fuel 23 [c] = some x) : ∃ y : Option Addr × Nat × Nat × List UInt8, c = .slice y.1 y.2.1 y.2.2.1 ∧ Rd W y.1 y.2.1 y.2.2.1 y.2.2.2 := by
  rcases open_ints Tryz.underlying23 Tryz.underlying5 (by kernel_rfl) h with ⟨hcs, _⟩ | ⟨x, l, c, zs, hcs, _, hl, hm, hz, hD, hc2, hwz⟩
  · simp at hcs
    subst hcs
    exact ⟨(none, 0, 0, []), rfl, Rd.nil_ W⟩
  · simp at hcs
    subst hcs
    obtain ⟨xs, hx⟩ := rd_of_cells hl hm (by simpa using hz) hc2 hwz
    exact ⟨(some x, l, c, xs), rfl, hx⟩
end Go.Proofs.YtnoflgkjdibblaaGreatDoor.S19

/-
  Both disks, apart from one another; rows of rows compared. No statement is proved here.
-/
namespace Go.Proofs.YtnoflgkjdibblaaGreatDoor.S19
set_option linter.unusedSimpArgs false
set_option linter.unusedVariables false
set_option maxRecDepth 4096
open Go.RowKit

/-- Both disks, apart. -/
structure Two (M : DC) (N : Nat) (w : World) (g h : Nat) (L : Value) (D D2 : Dk) (F G : Nat → Prop) : Prop where
  is : M.Is N w g D F
  rk : Rk N w h L D2 G
  dj : ∀ b, F b → ¬ G b
section
variable {M : DC} {N : Nat} {w w' : World} {g h : Nat} {L L' : Value} {D D' D2 : Dk} {F F' G G' : Nat → Prop}
theorem Two.left (t : Two M N w g h L D D2 F G) (hI : M.Is N w' g D' F') (hs : ∀ b, F' b → F b ∨ w.heap.size ≤ b) (m : Mv N F w w') : Two M N w' g h L D' D2 F' G := by
  refine ⟨hI, t.rk.keep m.size fun b hb hl => m.same b hl fun hF => ?_, fun b hF hG => ?_⟩
  · rcases hb with q | q
    · have := (M.lt t.is b hF).1; omega
    · exact t.dj b hF q
  · rcases hs b hF with q | q
    · exact t.dj b q hG
    · have := (t.rk.lt b hG).2; omega
theorem Two.right (t : Two M N w g h L D D2 F G) (hR : Rk N w' h L' D' G') (hs : ∀ b, G' b → G b ∨ w.heap.size ≤ b) (m : Mv N G w w') : Two M N w' g h L' D D' F G' := by
  refine ⟨M.keep t.is m.size fun b hb hl => m.same b hl fun hG => ?_, hR, fun b hF hG => ?_⟩
  · rcases hb with q | q
    · have := (t.rk.lt b hG).1; omega
    · exact t.dj b q hG
  · rcases hs b hG with q | q
    · exact t.dj b hF q
    · have := (M.lt t.is b hF).2; omega
theorem Two.grow (t : Two M N w g h L D D2 F G) (hb : Below w.heap.size w w') : Two M N w' g h L D D2 F G := ⟨M.grow t.is hb, t.rk.grow hb, t.dj⟩
theorem Two.postL (t : Two M N w g h L D D2 F G) {v : Value} {e : Ending} (hp : Post M.Is N F g w D' v e w') : e = .returned v ∧ ∃ F', Two M N w' g h L D' D2 F' G ∧ Mv N F w w' := by
  obtain ⟨h1, F', h2, h3, h4⟩ := hp
  exact ⟨h1, F', t.left h2 h3 h4, h4⟩
theorem Two.postR (t : Two M N w g h L D D2 F G) {v : Value} {e : Ending} (hp : PostR N G h L w D' v e w') : e = .returned v ∧ ∃ G', Two M N w' g h L D D' F G' ∧ Mv N G w w' := by
  obtain ⟨h1, G', h2, h3, h4⟩ := hp
  exact ⟨h1, G', t.right h2 h3 h4, h4⟩
theorem Rk.lo (r : Rk N w h L D G) : N ≤ h ∧ G h := by
  obtain ⟨V, _, hr⟩ := r.ex
  exact ⟨(hr.gN h (hr.inG h (.inl rfl))).1, hr.inG h (.inl rfl)⟩
theorem Rk.off (r : Rk N w h L D G) : Rk N (w.setCell ⟨h, 7, none⟩ (.bool true)) h L D.halt G ∧ Mv N G w (w.setCell ⟨h, 7, none⟩ (.bool true)) := by
  obtain ⟨V, hb, hr⟩ := r.ex
  exact ⟨⟨Dk.halt_ok r.ok, V, hb.put 7 (.bool true), hr.poke 7 _⟩, Mv.poke r.lo.1 r.lo.2 _ _ _⟩
theorem Rk.plan (r : Rk N w h L D G) {A : Option Addr} {n c : Nat} {fs : List Int} {st : Int} (hf : ∀ X, Below N w X → RI X .i64 A n c fs) (hA : ∀ a, 0 < n → A = some a → a.block < N) :
    Rk N ((w.setCell ⟨h, 4, none⟩ (.slice A n c)).setCell ⟨h, 5, none⟩ (.int .i64 st)) h L (D.plan fs st) G ∧ Mv N G w ((w.setCell ⟨h, 4, none⟩ (.slice A n c)).setCell ⟨h, 5, none⟩ (.int .i64 st)) := by
  obtain ⟨V, hb, hr⟩ := r.ex
  have m := (Mv.poke r.lo.1 r.lo.2 w 4 (.slice A n c)).trans (Mv.poke r.lo.1 r.lo.2 _ 5 (.int .i64 st)) (fun b hb => .inl hb)
  have e := (hr.poke 4 (.slice A n c)).poke 5 (.int .i64 st)
  exact ⟨⟨Dk.plan_ok r.ok fs st, { V with AF := A, nF := n, cF := c }, (hb.put 4 (.slice A n c)).put 5 (.int .i64 st), e.plan (hf _ m.bel) fun a h1 h2 => ⟨.inl (hA a h1 h2), e.notSpine (hA a h1 h2)⟩⟩, m⟩
theorem Rk.cells (r : Rk N w h L D G) : ∃ V : RkV, Bk w h 62 #[L, V.vS, V.vW, V.vB, .slice V.AF V.nF V.cF, .int .i64 D.stop, .int .i64 (D.cnt : Int), .bool D.off] := by
  obtain ⟨V, hb, _⟩ := r.ex
  exact ⟨V, hb⟩
end
/-- A slice of rows reads so. -/
structure Rw (w : World) (A : Option Addr) (n : Nat) (xss : List (List UInt8)) : Prop where
  len : xss.length = n
  at_ : 0 < n → ∃ b off, A = some ⟨b, off, none⟩ ∧ b < w.heap.size ∧ ∀ j, j < n → ∃ A' m c', w.cell? ⟨b, off + j, none⟩ = some (.slice A' m c') ∧ Rd w A' m c' (xss.getD j [])
theorem Rw.below {w w' : World} {A : Option Addr} {n : Nat} {xss : List (List UInt8)} (r : Rw w A n xss) (hb : Below w.heap.size w w') : Rw w' A n xss :=
  ⟨r.len, fun hn => by
    obtain ⟨b, off, rfl, hl, hc⟩ := r.at_ hn
    refine ⟨b, off, rfl, Nat.lt_of_lt_of_le hl hb.size, fun j hj => ?_⟩
    obtain ⟨A', m, c', h1, h2⟩ := hc j hj
    exact ⟨A', m, c', (hb.cell (p := ⟨b, off + j, none⟩) hl).trans h1, h2.below hb⟩⟩
theorem Rs.rw {w : World} {S : Nat → Prop} {A : Option Addr} {n c : Nat} {xss : List (List UInt8)} (r : Rs w S A n c xss) : Rw w A n xss :=
  ⟨r.len, fun hn => by
    obtain ⟨b, off, rfl, hl, _, hc⟩ := r.at_ hn
    exact ⟨b, off, rfl, hl, fun j hj => by
      obtain ⟨A', m, c', h1, h2, _⟩ := hc j hj
      exact ⟨A', m, c', h1, h2⟩⟩⟩
theorem Rest.rw {N : Nat} {w : World} {h : Nat} {G : Nat → Prop} {V : RkV} {sure : List (List UInt8)} {zs : List Int} {rs : List (List UInt8)} {fails : List Int} (r : Rest N w h sure zs rs fails G V) {AS : Option Addr} {cS : Nat} (e : V.vS = .slice AS sure.length cS) : Rw w AS sure.length sure :=
  ⟨rfl, fun hn => by
    have oS := r.oS
    rw [e] at oS
    obtain ⟨b, rfl, hl, _, _⟩ := own_cellB oS hn
    refine ⟨b, 0, rfl, hl, fun j hj => ?_⟩
    obtain ⟨b', e', _, hc, _⟩ := own_cellB oS hj
    injection e' with e'
    injection e' with e'
    subst e'
    obtain ⟨A', m, c', h1, h2, _⟩ := r.rS j hj
    exact ⟨A', m, c', by rw [Nat.zero_add, hc]; exact h1, h2⟩⟩
set_option maxHeartbeats 4000000 in
theorem rall_any (A A' : Option Addr) (n c c' : Nat) (xss : List (List UInt8)) (w : World) (h1 : Rw w A n xss) (h2 : Rw w A' n xss) (hn : n ≤ 1099511627776) :
    Calls Tryz.prog 23 #[.slice A n c, .slice A' n c'] w fun e w' => e = .returned (.bool true) ∧ Below w.heap.size w w' := by
  have H1 := Lib.hid h1
  have H2 := Lib.hid h2
  obtain ⟨N, hN⟩ : ∃ N, w.heap.size = N := ⟨_, rfl⟩
  have HN := Lib.hid hN
  have HNL := Lib.hid hn
  clear h1 h2 hn
  go_enter Tryz.func23, Tryz.ntmps23
  go_wp2_with (fail)
  go_loopw [5] (fun iv wi => ∃ k : Nat, k ≤ n ∧ iv = .int .i64 (k : Int) ∧ Below N w wi) (fun iv _ => n - (intOf iv).toNat)
  case atStart => exact ⟨0, Nat.zero_le _, rfl, Below.refl _ _⟩
  case round =>
    obtain ⟨k, hk, rfl, hB⟩ := hrel
    have BR := Lib.hid hB
    have hm := HNL.out
    clear hB
    by_cases hlt : k < n
    · have t0 : (k : Int) < (n : Int) := by omega
      have q1 := H1.out.below (w' := wr) (by first | exact BR.out | (rw [HN.out]; exact BR.out))
      have q2 := H2.out.below (w' := wr) (by first | exact BR.out | (rw [HN.out]; exact BR.out))
      obtain ⟨b, off, rfl, hl, hc⟩ := q1.at_ (by omega)
      obtain ⟨b', off', rfl, hl', hc'⟩ := q2.at_ (by omega)
      obtain ⟨A1, m1, c1, e1, r1⟩ := hc k hlt
      obtain ⟨A2, m2, c2, e2, r2⟩ := hc' k hlt
      have R1 := Lib.hid r1
      have R2 := Lib.hid r2
      have GD := Lib.hid (Below.refl wr.heap.size wr).drew
      have KS := Lib.hid (show ∀ X : World, Below wr.heap.size wr X → X.cell? ⟨b, off + k, none⟩ = some (.slice A1 m1 c1) ∧ X.cell? ⟨b', off' + k, none⟩ = some (.slice A2 m2 c2) from fun X hX => ⟨(hX.cell (p := ⟨b, off + k, none⟩) hl).trans e1, (hX.cell (p := ⟨b', off' + k, none⟩) hl').trans e2⟩)
      clear q1 q2 hc hc' r1 r2 e1 e2 hl hl'
      go_upto_region 6 with (fail)
      (go_region_held3 (fun X => X.cell? ⟨b, off + k, none⟩ = some (.slice A1 m1 c1) ∧ X.cell? ⟨b', off' + k, none⟩ = some (.slice A2 m2 c2)) (first
        | exact KS.out _ GD.out
        | exact KS.out _ (GD.out.trans B3.out)) (first
        | (go_at_call 26; ((refine (rsame_true A1 A2 m1 c1 m2 c2 _ _ _ (R1.out.below GD.out) (R2.out.below GD.out) rfl).mono ?_); rintro e w3 ⟨rfl, b3⟩; have B3 := Lib.hid (b3.mono (Nat.le_refl _)); clear b3))
        | fail))
      have B4 := Lib.hid (show Below N w w3 from BR.out.trans ((GD.out.trans B3.out).mono (by have := BR.out.size; have := HN.out; omega)))
      go_wp2_with (fail)
      go_roundw
      case rel => exact ⟨k + 1, by omega, by go_num, B4.out⟩
      case measure => simp [intOf]; omega
    · have t0 : ¬ (k : Int) < (n : Int) := by omega
      go_wp2_with (fail)
      go_ret
      exact ⟨rfl, by first | exact BR.out | (rw [HN.out]; exact BR.out)⟩
end Go.Proofs.YtnoflgkjdibblaaGreatDoor.S19
