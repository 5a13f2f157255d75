/-
  Texts put together: DkA, DkB. No statement is proved here.
-/
import Derived.Test.YtnoflgkjdibblaaGreatDoorWa07
import Derived.Test.YtnoflgkjdibblaaGreatDoorWa09

/-
  The document's own disk: what is written. No statement is proved here. (Written by gendka.py.)
-/
namespace Go.Proofs.YtnoflgkjdibblaaGreatDoor.S19
set_option linter.unusedSimpArgs false
set_option linter.unusedVariables false
set_option maxRecDepth 4096
open Go.RowKit

/-- append to a row of whole numbers. -/
theorem append_zi {w : World} {ops : Array Oper} {rest : List Oper} {o : Oper} {a : Act} {Q : Exit → Act → World → Prop} (hgd : o.guard = none) (s x : Operand)
    (ho : o.op = .call { callee := .builtin .append, args := #[s, x], argTypes := #[49, 49] })
    (base : Nat) (v : Value) (n : Nat) (xs : List Int) (hs : a.eval s = v) (hown : w.ownsRow base 3 1 v n (zv xs))
    (ad : Addr) (m c : Nat) (ys : List Int) (hx : a.eval x = .slice (some ad) m c) (hr : RI w .i64 (some ad) m c ys) (hb : n + m ≤ 2000000000000) (hbase : base ≤ w.heap.size)
    (h : ∀ v' w', w'.ownsRow base 3 1 v' (n + m) (zv (xs ++ ys)) → w.grownBy w' v.ownBlock → (v'.ownBlock = v.ownBlock ∨ v'.ownBlock = some w.heap.size) → wpList Tryz.prog ops Q rest (a.put o.dst v') w') : wpList Tryz.prog ops Q (o :: rest) a w :=
  wpList_plain hgd fun K hK => by
    have := step_append_zi (ops := ops) (o := o) (a := a) (K := K) (Q := Q) (E := True) (by simp [Region.wanted, hgd]) s x ho base v n xs hs hown ad m c ys hx hr hb hbase (fun v' w' h1 h2 h3 => hK _ _ (h v' w' h1 h2 h3))
    rwa [if_pos (by simp [Region.wanted, hgd])] at this
theorem Tryz.infoBs : (Tryz.prog.info? 23).map (fun i => (i.zero, i.size, i.bytes)) = some (some (.slice none 0 0), 1, 24) := by kernel_rfl
/-- append of one row to rows, at a step. -/
theorem step_append_bs {w : World} {ops : Array Oper} {o : Oper} {a : Act} {K : Act → World → Prop} {Q : Exit → Act → World → Prop} {E : Prop} (hw : Region.wanted o (yielded ops a.tmps) = true) (s x : Operand)
    (ho : o.op = .call { callee := .builtin .append, args := #[s, x], argTypes := #[60, 60] })
    (base : Nat) (v : Value) (n : Nat) (vs : List Value) (hs : a.eval s = v) (hown : w.ownsRow base 23 1 v n vs)
    (b : Nat) (u : Value) (hx : a.eval x = .slice (some ⟨b, 0, none⟩) 1 1) (hu : u.oneCell' = true) (hc : w.cell? ⟨b, 0, none⟩ = some u) (hb : n + 1 ≤ 2000000000000) (hbase : base ≤ w.heap.size)
    (h : ∀ v' w', w'.ownsRow base 23 1 v' (n + 1) (vs ++ [u]) → w.grownBy w' v.ownBlock → (v'.ownBlock = v.ownBlock ∨ v'.ownBlock = some w.heap.size) → K (a.put o.dst v') w') :
    if Region.wanted o (yielded ops a.tmps) = true then Oper.wp Tryz.prog o a w K Q else E := by
  obtain ⟨i0, hi, hz0, hz1, hz2⟩ := info_parts Tryz.infoBs
  rw [if_pos hw]
  obtain ⟨v', w', hrun, h2, h3, _, h5⟩ := run_append_own_at (P := Tryz.prog) w base 60 o.type 23 i0 (.slice none 0 0) 1 24 Tryz.underlying60 hi hz0 hz1 hz2 rfl (by omega) v n vs hown ⟨b, 0, none⟩ 1 1 [u]
      (by simp) (fun j x hj => by
        match j, hj with
        | 0, hj => simp at hj; subst hj; simpa [Addr.add] using hc
        | j + 1, hj => simp at hj) (fun x hx => by simp at hx; rw [hx]; exact hu) (by simp only [maxLen]; omega) (by omega) hbase
  unfold Oper.wp
  simp [execOp, ho, resolve, invoke, builtin, hs, hx, hrun, Result.andThen]
  exact h v' w' h2 h3 h5
theorem pendZ_snoc (p : List (Nat × List UInt8)) (i : Nat) (b : List UInt8) : pendZ (p ++ [(i, b)]) = pendZ p ++ [(i : Int)] := by simp [pendZ]
theorem pendR_snoc (p : List (Nat × List UInt8)) (i : Nat) (b : List UInt8) : pendR (p ++ [(i, b)]) = pendR p ++ [b] := by simp [pendR]
theorem own_ltB {w : World} {B e size n : Nat} {v : Value} {xs : List Value} (h : w.ownsRow B e size v n xs) : ∀ b, v.ownBlock = some b → b < w.heap.size := fun b e => (h.lt b e).2
set_option maxHeartbeats 8000000 in
theorem rwriteD_any {L : Value} (N : Nat) (w : World) (h : Nat) (D : Dk) (G : Nat → Prop) (r : Rk N w h L D G) (i : Int) (A : Option Addr) (n c : Nat) (b : List UInt8) (hr : Rd w A n c b) (hc : D.cnt < 1099511627776) (hA : ∀ a, 0 < n → A = some a → ¬ G a.block) : Calls Tryz.prog 71 #[.pointer (some ⟨h, 0, none⟩), .int .i64 i, .slice A n c] w (PostR N G h L w (D.write i b) (.int .i64 (D.writeC i b : Int))) := by
  obtain ⟨V, hb, hrs⟩ := r.ex
  have c7 : w.cell? ⟨h, 7, none⟩ = some (.bool D.off) := hb.cell 7
  have c1 : w.cell? ⟨h, 1, none⟩ = some V.vS := hb.cell 1
  obtain ⟨AS, cS, eS⟩ := own_form hrs.oS
  rw [eS] at c1
  have RR := Lib.hid r
  cases ho : D.off
  case true =>
    rw [ho] at c7
    rw [show D.write i b = D by rw [Dk.write, if_pos ho], show D.writeC i b = 6 by rw [Dk.writeC, if_pos ho]]
    clear hb hrs r hr c1 eS hc
    go_enter Tryz.func71, Tryz.ntmps71
    go_wp2_with (fail)
    go_ret
    exact ⟨rfl, G, RR.out, fun b hb => .inl hb, Mv.refl _ _ _⟩
  case false =>
    rw [ho] at c7
    obtain ⟨sl, hsl⟩ : ∃ sl, sl = D.sure.length := ⟨_, rfl⟩
    rw [← hsl] at c1
    by_cases hh : D.has i ∧ b.length = 64
    case neg =>
      rw [show D.write i b = D by rw [Dk.write, ho, if_neg (by simp), if_neg hh], show D.writeC i b = 1 by rw [Dk.writeC, ho, if_neg (by simp), if_neg hh]]
      have hl := hr.len
      have h3 : i < 0 ∨ (sl : Int) ≤ i ∨ n ≠ 64 := by
        unfold Dk.has at hh
        rw [← hsl, hl] at hh
        omega
      clear hb hrs r hr hh hc eS hl hsl
      by_cases q1 : i < 0
      · clear h3
        go_enter Tryz.func71, Tryz.ntmps71
        go_wp2_with (fail)
        go_ret
        exact ⟨rfl, G, RR.out, fun b hb => .inl hb, Mv.refl _ _ _⟩
      · by_cases q2 : (sl : Int) ≤ i
        · clear h3
          go_enter Tryz.func71, Tryz.ntmps71
          go_wp2_with (fail)
          go_ret
          exact ⟨rfl, G, RR.out, fun b hb => .inl hb, Mv.refl _ _ _⟩
        · have q3 : ¬ (n : Int) = 64 := by omega
          clear h3
          go_enter Tryz.func71, Tryz.ntmps71
          go_wp2_with (fail)
          go_ret
          exact ⟨rfl, G, RR.out, fun b hb => .inl hb, Mv.refl _ _ _⟩
    case pos =>
      have hb64 := hh.2
      obtain ⟨ii, rfl⟩ := Int.eq_ofNat_of_zero_le hh.1.1
      have hlt : ii < sl := by have := hh.1.2; rw [← hsl] at this; omega
      obtain rfl : n = 64 := by rw [← hr.len]; exact hb64
      have HAG := Lib.hid hA
      clear hA
      have hok := r.ok
      have hwc : D.writeC ii b = D.stepC := by rw [Dk.writeC, ho, if_neg (by simp), if_pos hh]
      have hw : D.write ii b = if D.stepC = 0 then { D.step with pend := D.pend ++ [(ii, b)] } else D.step := by
        rw [Dk.write, ho, if_neg (by simp), if_pos hh]
        rfl
      have hOK := Dk.write_ok hok ii b
      have hfew := hok.few
      rw [hwc, hw] at *
      have CC := Lib.hid (show Calls Tryz.prog 92 #[.pointer (some ⟨h, 0, none⟩)] w (PostR N G h L w D.step (.int .i64 (D.stepC : Int))) from by
        have := counted_any N w h D G r hc
        rwa [ho, if_neg (by simp)] at this)
      have HRD := Lib.hid hr
      have HGN := Lib.hid (show N ≤ w.heap.size by have := hrs.gN h (hrs.inG h (.inl rfl)); omega)
      have t1 : ¬ (ii : Int) < 0 := by omega
      have t2 : ¬ (sl : Int) ≤ (ii : Int) := by omega
      have HPL := Lib.hid (show D.pend.length ≤ 1099511627776 by omega)
      have HRG := Lib.hid (show ∀ a, 0 < 64 → A = some a → a.block < w.heap.size from fun a h1 h2 => by
        obtain ⟨bb, off, e, hbb, _⟩ := hr.at_ h1
        rw [h2] at e
        injection e with e
        subst e
        exact hbb)
      have HOK := Lib.hid hOK
      obtain ⟨cd, hcd⟩ : ∃ cd, cd = D.stepC := ⟨_, rfl⟩
      rw [← hcd] at CC HOK ⊢
      clear hb hrs r hr hh hwc hw eS hok hfew hc hOK hlt hsl hcd
      by_cases hz : cd = 0
      case neg =>
        rw [if_neg hz]
        have y1 : ((cd : Int) == 0) = false := by simp; omega
        have y2 : ¬ (cd : Int) = 0 := by omega
        clear HOK
        generalize D.step = D1 at *
        clear hz
        go_enter Tryz.func71, Tryz.ntmps71
        go_wp2_with (go_at_call 92; ((with_reducible refine CC.out.mono ?_); rintro e w1 ⟨rfl, G1, r1, s1, m1⟩; have R1 := Lib.hid r1; have S1 := Lib.hid s1; have M1 := Lib.hid m1; clear r1 s1 m1))
        go_ret
        exact ⟨rfl, G1, R1.out, S1.out, M1.out⟩
      case pos =>
        subst hz
        rw [if_pos rfl] at HOK ⊢
        have HSP := Lib.hid (Dk.step_pend D)
        obtain ⟨D1, hD1⟩ : ∃ D1, D1 = D.step := ⟨_, rfl⟩
        rw [← hD1] at CC HOK HSP ⊢
        rw [← HSP.out] at HOK HPL ⊢
        clear hD1
        go_enter Tryz.func71, Tryz.ntmps71
        go_upto_region 7 with (go_at_call 92; ((with_reducible refine CC.out.mono ?_); rintro e w1 ⟨rfl, G1, r1, s1, m1⟩; have R1 := Lib.hid r1; have S1 := Lib.hid s1; have M1 := Lib.hid m1; clear r1 s1 m1))
        clear c7 c1
        obtain ⟨V1, hb1, hr1⟩ := R1.out.ex
        have c2 : w1.cell? ⟨h, 2, none⟩ = some V1.vW := hb1.cell 2
        have T1 := Lib.hid hb1
        have E1 := Lib.hid hr1
        have Z1 := Lib.hid (show N ≤ w1.heap.size ∧ w.heap.size ≤ w1.heap.size ∧ G1 h ∧ N ≤ h from ⟨Nat.le_trans HGN.out M1.out.size, M1.out.size, hr1.inG h (.inl rfl), (hr1.gN h (hr1.inG h (.inl rfl))).1⟩)
        obtain ⟨vW1, hvW⟩ : ∃ vW1, vW1 = V1.vW := ⟨_, rfl⟩
        rw [← hvW] at c2
        have OW1 := Lib.hid (show w1.ownsRow N 3 1 vW1 (pendZ D1.pend).length (zv (pendZ D1.pend)) by rw [hvW]; exact hr1.oW)
        have HVW := Lib.hid hvW
        have LZ := Lib.hid (pendZ_len D1.pend)
        obtain ⟨zl, hzl⟩ : ∃ zl, zl = (pendZ D1.pend).length := ⟨_, rfl⟩
        rw [← hzl] at OW1 LZ
        have HZL := Lib.hid hzl
        clear hb1 hr1 hvW hzl
        go_upto_region 8 with (at_builtin; refine append_zi rfl (.tmp 36) (.tmp 38) rfl N vW1 zl (pendZ D1.pend) rfl (own_below OW1.out ((Below.refl _ _).alloc (Nat.le_refl _) _)) ⟨w1.heap.size, 0, none⟩ 1 1 [(ii : Int)] rfl (ri_lit w1 (ii : Int) _ rfl) (by rw [LZ.out]; have := HPL.out; omega) (by have := Z1.out.1; simp; omega) ?_; intro v2 w2 o2 g2 p2; obtain ⟨A2, c2', rfl⟩ := own_form o2; have O2 := Lib.hid o2; have Q2 := Lib.hid g2; have P2 := Lib.hid p2; have T2 := Lib.hid (show Bk w2 h 62 _ from (T1.out.alloc _).only g2 (fun e => by rw [HVW.out] at e; exact (E1.out.dW h e.symm).1 rfl)); have k2 := T2.out.cell 2; have f2 := T2.out.frozen 2; simp only [List.getElem?_toArray, List.getElem?_cons_zero, List.getElem?_cons_succ] at k2; clear o2 g2 p2)
        obtain ⟨vW2, hvW2⟩ : ∃ vW2, vW2 = Value.slice A2 (zl + 1) c2' := ⟨_, rfl⟩
        rw [← hvW2] at O2 P2 ⊢
        have PW := Lib.hid (Rest.pushW (w := w1) (wl := w1.alloc (.cells #[.int .i64 (ii : Int)] 3)) (w' := w2) (v' := vW2) (z := (ii : Int)) E1.out ((Below.refl _ _).alloc (Nat.le_refl _) _) (by rw [List.length_append, List.length_singleton, ← HZL.out]; exact O2.out) (by rw [← HVW.out]; exact Q2.out) (by rw [← HVW.out]; exact P2.out) (own_ltB O2.out))
        obtain ⟨w3, hw3⟩ : ∃ w3, w2.setCell ⟨h, 2, none⟩ vW2 = w3 := ⟨_, rfl⟩
        obtain ⟨G2, hG2⟩ : ∃ G2, G2 = plus G1 vW2 := ⟨_, rfl⟩
        obtain ⟨V2, hV2⟩ : ∃ V2, V2 = { V1 with vW := vW2 } := ⟨_, rfl⟩
        have E3 := Lib.hid (show Rest N w3 h D1.sure (pendZ D1.pend ++ [(ii : Int)]) (pendR D1.pend) D1.fails G2 V2 by rw [← hw3, hG2, hV2]; exact PW.out.1.poke 2 _)
        have G2H := Lib.hid (show G2 h by rw [hG2]; exact .inl Z1.out.2.2.1)
        have M3 := Lib.hid (show Mv N G w w3 ∧ (∀ x, G2 x → G x ∨ w.heap.size ≤ x) by
          have q1 : Mv N G1 w1 w3 := by rw [← hw3]; exact PW.out.2.1.trans (Mv.poke (G := G1) Z1.out.2.2.2 Z1.out.2.2.1 w2 2 vW2) (fun b hb => .inl hb)
          refine ⟨M1.out.trans q1 S1.out, fun x hx => ?_⟩
          rw [hG2] at hx
          rcases PW.out.2.2 x hx with hx | hx
          · exact S1.out x hx
          · exact .inr (Nat.le_trans Z1.out.2.1 hx))
        have T3 := Lib.hid (show Bk w3 h 62 #[L, V2.vS, V2.vW, V2.vB, .slice V2.AF V2.nF V2.cF, .int .i64 D1.stop, .int .i64 (D1.cnt : Int), .bool D1.off] by rw [← hw3, hV2]; exact T2.out.put 2 _)
        rw [hw3]
        clear hw3 hG2 hV2 hvW2 T1 T2 E1 PW Q2 O2 P2 R1 S1 OW1 HVW k2 f2 c2
        have Z3 := Lib.hid (show w.heap.size ≤ w3.heap.size from M3.out.1.size)
        obtain ⟨vB2, hvB⟩ : ∃ vB2, vB2 = V2.vB := ⟨_, rfl⟩
        have OB3 := Lib.hid (show w3.ownsRow N 23 1 vB2 (pendR D1.pend).length V2.bs by rw [hvB]; exact E3.out.oB)
        have HVB := Lib.hid hvB
        have LR := Lib.hid (pendR_len D1.pend)
        obtain ⟨rl, hrl⟩ : ∃ rl, rl = (pendR D1.pend).length := ⟨_, rfl⟩
        rw [← hrl] at OB3 LR
        have HRL := Lib.hid hrl
        have RB3 := Lib.hid (show Rd w3 A 64 c b from M3.out.1.rd HRD.out HAG.out)
        clear hvB hrl
        have HFIN := Lib.hid (show ∀ (v8 : Value) (w8 : World) (u vx : Value) (G3 : Nat → Prop), v8 = vx → (Rest N w8 h D1.sure (pendZ D1.pend ++ [(ii : Int)]) (pendR D1.pend ++ [b]) D1.fails G3 { V2 with vB := vx, bs := V2.bs ++ [u] } ∧ Mv N G2 w3 w8 ∧ (∀ x, G3 x → G2 x ∨ w3.heap.size ≤ x)) → Bk w8 h 62 #[L, V2.vS, V2.vW, vB2, .slice V2.AF V2.nF V2.cF, .int .i64 D1.stop, .int .i64 (D1.cnt : Int), .bool D1.off] → PostR N G h L w { D1 with pend := D1.pend ++ [(ii, b)] } (.int .i64 0) (.returned (.int .i64 0)) (w8.setCell ⟨h, 3, none⟩ vx) from fun v8 w8 u vx G3 hvx hP hT => by
          have hG3 := hP.1.inG h (.inl rfl)
          refine ⟨rfl, G3, ⟨HOK.out, { V2 with vB := vx, bs := V2.bs ++ [u] }, ?_, ?_⟩, fun x hx => ?_, ?_⟩
          · exact hT.put 3 vx
          · have := hP.1.poke 3 vx
            rw [← pendZ_snoc, ← pendR_snoc] at this
            exact this
          · rcases hP.2.2 x hx with hx | hx
            · exact M3.out.2 x hx
            · exact .inr (Nat.le_trans Z3.out hx)
          · exact (M3.out.1.trans hP.2.1 M3.out.2).trans (Mv.poke (G := G3) (hP.1.gN h hG3).1 hG3 w8 3 vx) (fun x hx => by
              rcases hP.2.2 x hx with hx | hx
              · exact M3.out.2 x hx
              · exact .inr (Nat.le_trans Z3.out hx)))
        refine wp_region_any (by kernel_rfl) ?_
        rename_i K hK
        obtain ⟨wd, hwd⟩ : ∃ wd, w3.drew = wd := ⟨_, rfl⟩
        have D0 : Below w3.heap.size w3 wd := by rw [← hwd]; exact (Below.refl _ _).drew
        change wpAny _ _ _ _ _ _ _ w3.drew
        rw [hwd]
        clear hwd
        have T4 := T3.out.below D0 T3.out.lt
        rw [← HVB.out] at T4
        have OB4 := own_below OB3.out D0
        have RB4 := RB3.out.below D0
        refine wpAny_of_held (S := fun _ => True) _ _ _ _ ?_
        refine RD.h_take 0 (.pointer (some ⟨h, 0, none⟩)) rfl (by kernel_rfl) (by kernel_rfl) (by kernel_rfl) (fun _ _ _ h => h) (by rfl) trivial (fun X hX => ?_) ?_
        · go_simp
        simp only [Act.put, List.setIfInBounds_toArray, List.set_cons_zero, List.set_cons_succ]
        refine RD.h_take 1 (.pointer (some ⟨h, 0, none⟩)) rfl (by kernel_rfl) (by kernel_rfl) (by kernel_rfl) (fun _ _ _ h => h) (by rfl) trivial (fun X hX => ?_) ?_
        · go_simp
        simp only [Act.put, List.setIfInBounds_toArray, List.set_cons_zero, List.set_cons_succ]
        refine RD.h_take 2 (.pointer (some ⟨h, 0, none⟩)) rfl (by kernel_rfl) (by kernel_rfl) (by kernel_rfl) (fun _ _ _ h => h) (by rfl) trivial (fun X hX => ?_) ?_
        · go_simp
        simp only [Act.put, List.setIfInBounds_toArray, List.set_cons_zero, List.set_cons_succ]
        refine RD.h_take 3 (.pointer (some ⟨h, 3, none⟩)) rfl (by kernel_rfl) (by kernel_rfl) (by kernel_rfl) (fun _ _ _ h => h) (by rfl) trivial (fun X hX => ?_) ?_
        · go_simp
        simp only [Act.put, List.setIfInBounds_toArray, List.set_cons_zero, List.set_cons_succ]
        refine RD.h_take 6 (.slice A 64 c) rfl (by kernel_rfl) (by kernel_rfl) (by kernel_rfl) (fun _ _ _ h => h) (by rfl) trivial (fun X hX => ?_) ?_
        · go_simp
        simp only [Act.put, List.setIfInBounds_toArray, List.set_cons_zero, List.set_cons_succ]
        refine RD.h_any [4, 5] (by kernel_rfl) (by simp) (RD.two_of ?_ ?_)
        · refine RD.h_run vB2 (wd) rfl (by rfl) (by have c3 := T4.cell 3; simp only [List.getElem?_toArray, List.getElem?_cons_zero, List.getElem?_cons_succ] at c3; go_simp) ⟨trivial, ?_⟩
          simp only [Act.put, List.setIfInBounds_toArray, List.set_cons_zero, List.set_cons_succ]
          refine RD.h_any [5] (by kernel_rfl) (by simp) (RD.one_of ?_)
          refine RD.h_run (.slice (some ⟨wd.heap.size, 0, none⟩) 0 0) (wd.alloc (.cells #[] 5)) rfl (by rfl) (by go_simp) ⟨trivial, ?_⟩
          simp only [Act.put, List.setIfInBounds_toArray, List.set_cons_zero, List.set_cons_succ]
          have TA := T4.alloc (.cells #[] 5)
          refine RD.h_any [7] (by kernel_rfl) (by simp) (RD.one_of ?_)
          refine RD.h_op rfl (step_append_rd (by rfl) (.tmp 47) (.tmp 48) rfl wd.heap.size (.slice (some ⟨wd.heap.size, 0, none⟩) 0 0) 0 [] rfl (World.ownsRow_lit (base := wd.heap.size) (e := 5) (size := 1) wd #[] 0 (Nat.le_refl _) (by simp [maxLen]) rfl) A 64 c b rfl (RB4.alloc _) (by omega) (by simp) (fun v7 w7 h1 h2 h3 => ⟨trivial, ?_⟩))
          obtain ⟨A9, c9, hv9⟩ := own_form h1
          have hv9 : v7 = .slice A9 64 c9 := hv9
          subst hv9
          have O7 := own_n h1
          simp only [Act.put, List.setIfInBounds_toArray, List.set_cons_zero, List.set_cons_succ]
          have B7 : Below wd.heap.size wd w7 := ((Below.refl _ _).alloc (Nat.le_refl _) _).grown h2 (by simp) (fun q hq => Nat.le_of_eq (Option.some.inj hq))
          have T7 := T4.below B7 T4.lt
          have N7 := h2.size
          clear h1 h2 h3
          refine RD.h_any [8] (by kernel_rfl) (by simp) (RD.one_of ?_)
          refine RD.h_run (.slice (some ⟨w7.heap.size, 0, none⟩) 1 1) (w7.alloc (.cells #[.slice A9 64 c9] 23)) rfl (by rfl) (by go_simp) ⟨trivial, ?_⟩
          simp only [Act.put, List.setIfInBounds_toArray, List.set_cons_zero, List.set_cons_succ]
          have T8 := T7.alloc (.cells #[.slice A9 64 c9] 23)
          refine RD.h_any [9] (by kernel_rfl) (by simp) (RD.one_of ?_)
          have BC : Below w3.heap.size w3 (w7.alloc (.cells #[.slice A9 64 c9] 23)) := D0.trans ((B7.trans ((Below.refl _ _).alloc (Nat.le_refl _) _ |>.mono B7.size)).mono D0.size)
          refine RD.h_op rfl (step_append_bs (by rfl) (.tmp 46) (.tmp 50) rfl N vB2 rl V2.bs rfl (own_below OB3.out BC) w7.heap.size (.slice A9 64 c9) rfl rfl (by simp) (by rw [LR.out]; have := HPL.out; omega) (Nat.le_trans HGN.out (Nat.le_trans M3.out.1.size BC.size)) (fun v8 w8 h1 h2 h3 => ⟨trivial, ?_⟩))
          obtain ⟨A8, c8, hv8⟩ := own_form h1
          obtain ⟨wl, hwl⟩ : ∃ wl, wl = w7.alloc (.cells #[.slice A9 64 c9] 23) := ⟨_, rfl⟩
          have RL9 : Rd wl A9 64 c9 b := by rw [hwl]; exact (Rd.own O7).alloc _
          have TL : Bk wl h 62 #[L, V2.vS, V2.vW, vB2, .slice V2.AF V2.nF V2.cF, .int .i64 D1.stop, .int .i64 (D1.cnt : Int), .bool D1.off] := by rw [hwl]; exact T8
          rw [← hwl] at BC h2 h3
          have PB := Lib.hid (Rest.pushB (w := w3) (wl := wl) (w' := w8) (v' := v8) (u := .slice A9 64 c9) (xs := b) (A := A9) (n := 64) (c := c9) E3.out BC (by rw [List.length_append, List.length_singleton, ← HRL.out]; exact h1) (by rw [← HVB.out]; exact h2) (by rw [← HVB.out]; exact h3) (own_ltB h1) rfl RL9 (fun a _ e => Nat.le_trans D0.size (O7.lt a.block (by rw [e]; rfl)).1))
          have T9 := TL.only h2 (fun e => (E3.out.dB h (by rw [← HVB.out]; exact e.symm)).1 rfl)
          subst hv8
          simp only [Act.put, List.setIfInBounds_toArray, List.set_cons_zero, List.set_cons_succ]
          refine RD.h_any [10] (by kernel_rfl) (by simp) (RD.one_of ?_)
          refine RD.h_run (.pointer (some ⟨h, 0, none⟩)) w8 rfl (by rfl) (by go_simp) ⟨trivial, ?_⟩
          simp only [Act.put, List.setIfInBounds_toArray, List.set_cons_zero, List.set_cons_succ]
          refine RD.h_any [11] (by kernel_rfl) (by simp) (RD.one_of ?_)
          refine RD.h_run (.pointer (some ⟨h, 3, none⟩)) w8 rfl (by rfl) (by go_simp) ⟨trivial, ?_⟩
          simp only [Act.put, List.setIfInBounds_toArray, List.set_cons_zero, List.set_cons_succ]
          refine RD.h_any [12] (by kernel_rfl) (by simp) (RD.one_of ?_)
          refine RD.h_skip (w8.setCell ⟨h, 3, none⟩ (.slice A8 (rl + 1) c8)) rfl (by rfl) (by have c3 := T9.cell 3; have fz := T9.frozen 3; simp only [List.getElem?_toArray, List.getElem?_cons_zero, List.getElem?_cons_succ] at c3; go_simp) ⟨trivial, ?_⟩
          simp only [Act.put, List.setIfInBounds_toArray, List.set_cons_zero, List.set_cons_succ]
          refine RD.h_done (by kernel_rfl) ?_
          change K _ _
          apply hK
          have F9 := HFIN.out _ w8 (.slice A9 64 c9) (.slice A8 (rl + 1) c8) _ rfl PB.out T9
          generalize w8.setCell ⟨h, 3, none⟩ (.slice A8 (rl + 1) c8) = w9 at *
          go_wp2_with (fail)
          go_ret
          exact F9
        · refine RD.h_run (.slice (some ⟨wd.heap.size, 0, none⟩) 0 0) (wd.alloc (.cells #[] 5)) rfl (by rfl) (by go_simp) ⟨trivial, ?_⟩
          simp only [Act.put, List.setIfInBounds_toArray, List.set_cons_zero, List.set_cons_succ]
          have TA := T4.alloc (.cells #[] 5)
          refine RD.h_any [4, 7] (by kernel_rfl) (by simp) (RD.two_of ?_ ?_)
          · refine RD.h_run vB2 (wd.alloc (.cells #[] 5)) rfl (by rfl) (by have c3 := TA.cell 3; simp only [List.getElem?_toArray, List.getElem?_cons_zero, List.getElem?_cons_succ] at c3; go_simp) ⟨trivial, ?_⟩
            simp only [Act.put, List.setIfInBounds_toArray, List.set_cons_zero, List.set_cons_succ]
            refine RD.h_any [7] (by kernel_rfl) (by simp) (RD.one_of ?_)
            refine RD.h_op rfl (step_append_rd (by rfl) (.tmp 47) (.tmp 48) rfl wd.heap.size (.slice (some ⟨wd.heap.size, 0, none⟩) 0 0) 0 [] rfl (World.ownsRow_lit (base := wd.heap.size) (e := 5) (size := 1) wd #[] 0 (Nat.le_refl _) (by simp [maxLen]) rfl) A 64 c b rfl (RB4.alloc _) (by omega) (by simp) (fun v7 w7 h1 h2 h3 => ⟨trivial, ?_⟩))
            obtain ⟨A9, c9, hv9⟩ := own_form h1
            have hv9 : v7 = .slice A9 64 c9 := hv9
            subst hv9
            have O7 := own_n h1
            simp only [Act.put, List.setIfInBounds_toArray, List.set_cons_zero, List.set_cons_succ]
            have B7 : Below wd.heap.size wd w7 := ((Below.refl _ _).alloc (Nat.le_refl _) _).grown h2 (by simp) (fun q hq => Nat.le_of_eq (Option.some.inj hq))
            have T7 := T4.below B7 T4.lt
            have N7 := h2.size
            clear h1 h2 h3
            refine RD.h_any [8] (by kernel_rfl) (by simp) (RD.one_of ?_)
            refine RD.h_run (.slice (some ⟨w7.heap.size, 0, none⟩) 1 1) (w7.alloc (.cells #[.slice A9 64 c9] 23)) rfl (by rfl) (by go_simp) ⟨trivial, ?_⟩
            simp only [Act.put, List.setIfInBounds_toArray, List.set_cons_zero, List.set_cons_succ]
            have T8 := T7.alloc (.cells #[.slice A9 64 c9] 23)
            refine RD.h_any [9] (by kernel_rfl) (by simp) (RD.one_of ?_)
            have BC : Below w3.heap.size w3 (w7.alloc (.cells #[.slice A9 64 c9] 23)) := D0.trans ((B7.trans ((Below.refl _ _).alloc (Nat.le_refl _) _ |>.mono B7.size)).mono D0.size)
            refine RD.h_op rfl (step_append_bs (by rfl) (.tmp 46) (.tmp 50) rfl N vB2 rl V2.bs rfl (own_below OB3.out BC) w7.heap.size (.slice A9 64 c9) rfl rfl (by simp) (by rw [LR.out]; have := HPL.out; omega) (Nat.le_trans HGN.out (Nat.le_trans M3.out.1.size BC.size)) (fun v8 w8 h1 h2 h3 => ⟨trivial, ?_⟩))
            obtain ⟨A8, c8, hv8⟩ := own_form h1
            obtain ⟨wl, hwl⟩ : ∃ wl, wl = w7.alloc (.cells #[.slice A9 64 c9] 23) := ⟨_, rfl⟩
            have RL9 : Rd wl A9 64 c9 b := by rw [hwl]; exact (Rd.own O7).alloc _
            have TL : Bk wl h 62 #[L, V2.vS, V2.vW, vB2, .slice V2.AF V2.nF V2.cF, .int .i64 D1.stop, .int .i64 (D1.cnt : Int), .bool D1.off] := by rw [hwl]; exact T8
            rw [← hwl] at BC h2 h3
            have PB := Lib.hid (Rest.pushB (w := w3) (wl := wl) (w' := w8) (v' := v8) (u := .slice A9 64 c9) (xs := b) (A := A9) (n := 64) (c := c9) E3.out BC (by rw [List.length_append, List.length_singleton, ← HRL.out]; exact h1) (by rw [← HVB.out]; exact h2) (by rw [← HVB.out]; exact h3) (own_ltB h1) rfl RL9 (fun a _ e => Nat.le_trans D0.size (O7.lt a.block (by rw [e]; rfl)).1))
            have T9 := TL.only h2 (fun e => (E3.out.dB h (by rw [← HVB.out]; exact e.symm)).1 rfl)
            subst hv8
            simp only [Act.put, List.setIfInBounds_toArray, List.set_cons_zero, List.set_cons_succ]
            refine RD.h_any [10] (by kernel_rfl) (by simp) (RD.one_of ?_)
            refine RD.h_run (.pointer (some ⟨h, 0, none⟩)) w8 rfl (by rfl) (by go_simp) ⟨trivial, ?_⟩
            simp only [Act.put, List.setIfInBounds_toArray, List.set_cons_zero, List.set_cons_succ]
            refine RD.h_any [11] (by kernel_rfl) (by simp) (RD.one_of ?_)
            refine RD.h_run (.pointer (some ⟨h, 3, none⟩)) w8 rfl (by rfl) (by go_simp) ⟨trivial, ?_⟩
            simp only [Act.put, List.setIfInBounds_toArray, List.set_cons_zero, List.set_cons_succ]
            refine RD.h_any [12] (by kernel_rfl) (by simp) (RD.one_of ?_)
            refine RD.h_skip (w8.setCell ⟨h, 3, none⟩ (.slice A8 (rl + 1) c8)) rfl (by rfl) (by have c3 := T9.cell 3; have fz := T9.frozen 3; simp only [List.getElem?_toArray, List.getElem?_cons_zero, List.getElem?_cons_succ] at c3; go_simp) ⟨trivial, ?_⟩
            simp only [Act.put, List.setIfInBounds_toArray, List.set_cons_zero, List.set_cons_succ]
            refine RD.h_done (by kernel_rfl) ?_
            change K _ _
            apply hK
            have F9 := HFIN.out _ w8 (.slice A9 64 c9) (.slice A8 (rl + 1) c8) _ rfl PB.out T9
            generalize w8.setCell ⟨h, 3, none⟩ (.slice A8 (rl + 1) c8) = w9 at *
            go_wp2_with (fail)
            go_ret
            exact F9
          · refine RD.h_op rfl (step_append_rd (by rfl) (.tmp 47) (.tmp 48) rfl wd.heap.size (.slice (some ⟨wd.heap.size, 0, none⟩) 0 0) 0 [] rfl (World.ownsRow_lit (base := wd.heap.size) (e := 5) (size := 1) wd #[] 0 (Nat.le_refl _) (by simp [maxLen]) rfl) A 64 c b rfl (RB4.alloc _) (by omega) (by simp) (fun v7 w7 h1 h2 h3 => ⟨trivial, ?_⟩))
            obtain ⟨A9, c9, hv9⟩ := own_form h1
            have hv9 : v7 = .slice A9 64 c9 := hv9
            subst hv9
            have O7 := own_n h1
            simp only [Act.put, List.setIfInBounds_toArray, List.set_cons_zero, List.set_cons_succ]
            have B7 : Below wd.heap.size wd w7 := ((Below.refl _ _).alloc (Nat.le_refl _) _).grown h2 (by simp) (fun q hq => Nat.le_of_eq (Option.some.inj hq))
            have T7 := T4.below B7 T4.lt
            have N7 := h2.size
            clear h1 h2 h3
            refine RD.h_any [4, 8] (by kernel_rfl) (by simp) (RD.two_of ?_ ?_)
            · refine RD.h_run vB2 (w7) rfl (by rfl) (by have c3 := T7.cell 3; simp only [List.getElem?_toArray, List.getElem?_cons_zero, List.getElem?_cons_succ] at c3; go_simp) ⟨trivial, ?_⟩
              simp only [Act.put, List.setIfInBounds_toArray, List.set_cons_zero, List.set_cons_succ]
              refine RD.h_any [8] (by kernel_rfl) (by simp) (RD.one_of ?_)
              refine RD.h_run (.slice (some ⟨w7.heap.size, 0, none⟩) 1 1) (w7.alloc (.cells #[.slice A9 64 c9] 23)) rfl (by rfl) (by go_simp) ⟨trivial, ?_⟩
              simp only [Act.put, List.setIfInBounds_toArray, List.set_cons_zero, List.set_cons_succ]
              have T8 := T7.alloc (.cells #[.slice A9 64 c9] 23)
              refine RD.h_any [9] (by kernel_rfl) (by simp) (RD.one_of ?_)
              have BC : Below w3.heap.size w3 (w7.alloc (.cells #[.slice A9 64 c9] 23)) := D0.trans ((B7.trans ((Below.refl _ _).alloc (Nat.le_refl _) _ |>.mono B7.size)).mono D0.size)
              refine RD.h_op rfl (step_append_bs (by rfl) (.tmp 46) (.tmp 50) rfl N vB2 rl V2.bs rfl (own_below OB3.out BC) w7.heap.size (.slice A9 64 c9) rfl rfl (by simp) (by rw [LR.out]; have := HPL.out; omega) (Nat.le_trans HGN.out (Nat.le_trans M3.out.1.size BC.size)) (fun v8 w8 h1 h2 h3 => ⟨trivial, ?_⟩))
              obtain ⟨A8, c8, hv8⟩ := own_form h1
              obtain ⟨wl, hwl⟩ : ∃ wl, wl = w7.alloc (.cells #[.slice A9 64 c9] 23) := ⟨_, rfl⟩
              have RL9 : Rd wl A9 64 c9 b := by rw [hwl]; exact (Rd.own O7).alloc _
              have TL : Bk wl h 62 #[L, V2.vS, V2.vW, vB2, .slice V2.AF V2.nF V2.cF, .int .i64 D1.stop, .int .i64 (D1.cnt : Int), .bool D1.off] := by rw [hwl]; exact T8
              rw [← hwl] at BC h2 h3
              have PB := Lib.hid (Rest.pushB (w := w3) (wl := wl) (w' := w8) (v' := v8) (u := .slice A9 64 c9) (xs := b) (A := A9) (n := 64) (c := c9) E3.out BC (by rw [List.length_append, List.length_singleton, ← HRL.out]; exact h1) (by rw [← HVB.out]; exact h2) (by rw [← HVB.out]; exact h3) (own_ltB h1) rfl RL9 (fun a _ e => Nat.le_trans D0.size (O7.lt a.block (by rw [e]; rfl)).1))
              have T9 := TL.only h2 (fun e => (E3.out.dB h (by rw [← HVB.out]; exact e.symm)).1 rfl)
              subst hv8
              simp only [Act.put, List.setIfInBounds_toArray, List.set_cons_zero, List.set_cons_succ]
              refine RD.h_any [10] (by kernel_rfl) (by simp) (RD.one_of ?_)
              refine RD.h_run (.pointer (some ⟨h, 0, none⟩)) w8 rfl (by rfl) (by go_simp) ⟨trivial, ?_⟩
              simp only [Act.put, List.setIfInBounds_toArray, List.set_cons_zero, List.set_cons_succ]
              refine RD.h_any [11] (by kernel_rfl) (by simp) (RD.one_of ?_)
              refine RD.h_run (.pointer (some ⟨h, 3, none⟩)) w8 rfl (by rfl) (by go_simp) ⟨trivial, ?_⟩
              simp only [Act.put, List.setIfInBounds_toArray, List.set_cons_zero, List.set_cons_succ]
              refine RD.h_any [12] (by kernel_rfl) (by simp) (RD.one_of ?_)
              refine RD.h_skip (w8.setCell ⟨h, 3, none⟩ (.slice A8 (rl + 1) c8)) rfl (by rfl) (by have c3 := T9.cell 3; have fz := T9.frozen 3; simp only [List.getElem?_toArray, List.getElem?_cons_zero, List.getElem?_cons_succ] at c3; go_simp) ⟨trivial, ?_⟩
              simp only [Act.put, List.setIfInBounds_toArray, List.set_cons_zero, List.set_cons_succ]
              refine RD.h_done (by kernel_rfl) ?_
              change K _ _
              apply hK
              have F9 := HFIN.out _ w8 (.slice A9 64 c9) (.slice A8 (rl + 1) c8) _ rfl PB.out T9
              generalize w8.setCell ⟨h, 3, none⟩ (.slice A8 (rl + 1) c8) = w9 at *
              go_wp2_with (fail)
              go_ret
              exact F9
            · refine RD.h_run (.slice (some ⟨w7.heap.size, 0, none⟩) 1 1) (w7.alloc (.cells #[.slice A9 64 c9] 23)) rfl (by rfl) (by go_simp) ⟨trivial, ?_⟩
              simp only [Act.put, List.setIfInBounds_toArray, List.set_cons_zero, List.set_cons_succ]
              have T8 := T7.alloc (.cells #[.slice A9 64 c9] 23)
              refine RD.h_any [4] (by kernel_rfl) (by simp) (RD.one_of ?_)
              refine RD.h_run vB2 (w7.alloc (.cells #[.slice A9 64 c9] 23)) rfl (by rfl) (by have c3 := T8.cell 3; simp only [List.getElem?_toArray, List.getElem?_cons_zero, List.getElem?_cons_succ] at c3; go_simp) ⟨trivial, ?_⟩
              simp only [Act.put, List.setIfInBounds_toArray, List.set_cons_zero, List.set_cons_succ]
              refine RD.h_any [9] (by kernel_rfl) (by simp) (RD.one_of ?_)
              have BC : Below w3.heap.size w3 (w7.alloc (.cells #[.slice A9 64 c9] 23)) := D0.trans ((B7.trans ((Below.refl _ _).alloc (Nat.le_refl _) _ |>.mono B7.size)).mono D0.size)
              refine RD.h_op rfl (step_append_bs (by rfl) (.tmp 46) (.tmp 50) rfl N vB2 rl V2.bs rfl (own_below OB3.out BC) w7.heap.size (.slice A9 64 c9) rfl rfl (by simp) (by rw [LR.out]; have := HPL.out; omega) (Nat.le_trans HGN.out (Nat.le_trans M3.out.1.size BC.size)) (fun v8 w8 h1 h2 h3 => ⟨trivial, ?_⟩))
              obtain ⟨A8, c8, hv8⟩ := own_form h1
              obtain ⟨wl, hwl⟩ : ∃ wl, wl = w7.alloc (.cells #[.slice A9 64 c9] 23) := ⟨_, rfl⟩
              have RL9 : Rd wl A9 64 c9 b := by rw [hwl]; exact (Rd.own O7).alloc _
              have TL : Bk wl h 62 #[L, V2.vS, V2.vW, vB2, .slice V2.AF V2.nF V2.cF, .int .i64 D1.stop, .int .i64 (D1.cnt : Int), .bool D1.off] := by rw [hwl]; exact T8
              rw [← hwl] at BC h2 h3
              have PB := Lib.hid (Rest.pushB (w := w3) (wl := wl) (w' := w8) (v' := v8) (u := .slice A9 64 c9) (xs := b) (A := A9) (n := 64) (c := c9) E3.out BC (by rw [List.length_append, List.length_singleton, ← HRL.out]; exact h1) (by rw [← HVB.out]; exact h2) (by rw [← HVB.out]; exact h3) (own_ltB h1) rfl RL9 (fun a _ e => Nat.le_trans D0.size (O7.lt a.block (by rw [e]; rfl)).1))
              have T9 := TL.only h2 (fun e => (E3.out.dB h (by rw [← HVB.out]; exact e.symm)).1 rfl)
              subst hv8
              simp only [Act.put, List.setIfInBounds_toArray, List.set_cons_zero, List.set_cons_succ]
              refine RD.h_any [10] (by kernel_rfl) (by simp) (RD.one_of ?_)
              refine RD.h_run (.pointer (some ⟨h, 0, none⟩)) w8 rfl (by rfl) (by go_simp) ⟨trivial, ?_⟩
              simp only [Act.put, List.setIfInBounds_toArray, List.set_cons_zero, List.set_cons_succ]
              refine RD.h_any [11] (by kernel_rfl) (by simp) (RD.one_of ?_)
              refine RD.h_run (.pointer (some ⟨h, 3, none⟩)) w8 rfl (by rfl) (by go_simp) ⟨trivial, ?_⟩
              simp only [Act.put, List.setIfInBounds_toArray, List.set_cons_zero, List.set_cons_succ]
              refine RD.h_any [12] (by kernel_rfl) (by simp) (RD.one_of ?_)
              refine RD.h_skip (w8.setCell ⟨h, 3, none⟩ (.slice A8 (rl + 1) c8)) rfl (by rfl) (by have c3 := T9.cell 3; have fz := T9.frozen 3; simp only [List.getElem?_toArray, List.getElem?_cons_zero, List.getElem?_cons_succ] at c3; go_simp) ⟨trivial, ?_⟩
              simp only [Act.put, List.setIfInBounds_toArray, List.set_cons_zero, List.set_cons_succ]
              refine RD.h_done (by kernel_rfl) ?_
              change K _ _
              apply hK
              have F9 := HFIN.out _ w8 (.slice A9 64 c9) (.slice A8 (rl + 1) c8) _ rfl PB.out T9
              generalize w8.setCell ⟨h, 3, none⟩ (.slice A8 (rl + 1) c8) = w9 at *
              go_wp2_with (fail)
              go_ret
              exact F9
end Go.Proofs.YtnoflgkjdibblaaGreatDoor.S19

/-
  The document's own disk: what is flushed. No statement is proved here.
-/
namespace Go.Proofs.YtnoflgkjdibblaaGreatDoor.S19
set_option linter.unusedSimpArgs false
set_option linter.unusedVariables false
set_option maxRecDepth 4096
open Go.RowKit

section
variable {N : Nat} {w : World} {h bS n cS : Nat} {G : Nat → Prop} {V : RkV} {sure : List (List UInt8)} {zs : List Int} {rs : List (List UInt8)} {fails : List Int}
/-- One sure row is another one. -/
theorem Rest.setS (r : Rest N w h sure zs rs fails G V) (hS : V.vS = .slice (some ⟨bS, 0, none⟩) sure.length cS) {i : Nat} (hi : i < sure.length) {u : Value} {xs : List UInt8} (hu : Rr w G h V (some u) xs) :
    Rest N (w.setCell ⟨bS, i, none⟩ u) h (sure.set i xs) zs rs fails G { V with ss := V.ss.set i u } ∧ Mv N G w (w.setCell ⟨bS, i, none⟩ u) := by
  have hob : V.vS.ownBlock = some bS := by rw [hS]; rfl
  have hk : ∀ b, b ≠ bS → (w.setCell ⟨bS, i, none⟩ u).heap[b]? = w.heap[b]? := fun b hb => Below.heap_setCell w ⟨bS, i, none⟩ u b hb
  have hs : w.heap.size ≤ (w.setCell ⟨bS, i, none⟩ u).heap.size := by simp
  have hG : G bS := r.inG bS (.inr (.inl hob))
  have hrow : ∀ u' xs', Rr w G h V u' xs' → Rr (w.setCell ⟨bS, i, none⟩ u) G h { V with ss := V.ss.set i u } u' xs' := fun u' xs' hr => by
    have := hr.keep (w' := w.setCell ⟨bS, i, none⟩ u) hs fun b _ h2 _ => hk b fun e => h2 (.inr (.inl (by rw [e]; exact hob)))
    exact this
  have oS := r.oS
  have hsl : V.ss.length = sure.length := by have := oS.1; omega
  refine ⟨⟨?_, fun j hj => ?_, own_keepH r.oW fun b e _ => hk b fun e' => (r.dW b e).2.1 (by rw [e']; exact hob), own_keepH r.oB fun b e _ => hk b fun e' => (r.dB b e).2.1 (by rw [e']; exact hob), fun j hj => hrow _ _ (r.rB j hj),
    r.rF.keep hs fun a h1 h2 _ => hk _ fun e => (r.inF a h1 h2).2 (.inr (.inl (by rw [e]; exact hob))), r.inF, r.inG, fun b hb => ⟨(r.gN b hb).1, Nat.lt_of_lt_of_le (r.gN b hb).2 hs⟩, r.dS, r.dW, r.dB⟩,
    ⟨(Below.refl _ _).setCell (p := ⟨bS, i, none⟩) (r.gN bS hG).1 u, fun b _ hb => hk b (by rintro rfl; exact hb hG)⟩⟩
  · rw [List.length_set]
    rw [hS] at oS ⊢
    exact (oS.stored i u).1
  · rw [List.length_set] at hj
    show Rr _ G h _ (V.ss.set i u)[j]? ((sure.set i xs).getD j [])
    by_cases e : i = j
    · subst e
      rw [List.getElem?_set_self (by omega), List.getD_eq_getElem?_getD, List.getElem?_set_self hi]
      exact hrow _ _ hu
    · rw [List.getElem?_set_ne e, List.getD_eq_getElem?_getD, List.getElem?_set_ne e, ← List.getD_eq_getElem?_getD]
      exact hrow _ _ (r.rS j hj)
/-- Nothing is pending. -/
theorem Rest.nil (r : Rest N w h sure zs rs fails G V) : Rest N w h sure [] [] fails G { V with vW := .slice none 0 0, vB := .slice none 0 0, bs := [] } := by
  have hsp : ∀ b, spine h { V with vW := .slice none 0 0, vB := .slice none 0 0, bs := [] } b → spine h V b := by
    rintro b (e | e | e | e)
    · exact .inl e
    · exact .inr (.inl e)
    · simp [Value.ownBlock] at e
    · simp [Value.ownBlock] at e
  refine ⟨r.oS, fun i hi => ?_, World.ownsRow_nil _ _ _ _, World.ownsRow_nil _ _ _ _, fun i hi => absurd hi (by simp), r.rF, fun a h1 h2 => ⟨(r.inF a h1 h2).1, fun e => (r.inF a h1 h2).2 (hsp _ e)⟩, fun b e => r.inG b (hsp b e), r.gN, ?_, ?_, ?_⟩
  · obtain ⟨A, n, c, h1, h2, h3⟩ := r.rS i hi
    exact ⟨A, n, c, h1, h2, fun a q1 q2 => ⟨(h3 a q1 q2).1, fun e => (h3 a q1 q2).2 (hsp _ e)⟩⟩
  · intro b e
    exact ⟨(r.dS b e).1, by simp [Value.ownBlock], by simp [Value.ownBlock]⟩
  · intro b e
    simp [Value.ownBlock] at e
  · intro b e
    simp [Value.ownBlock] at e
end
theorem laid_snoc (i : Nat) (b : List UInt8) : ∀ (ps : List (Nat × List UInt8)) (s : List (List UInt8)), Dk.laid (ps ++ [(i, b)]) s = (Dk.laid ps s).set i b
  | [], s => rfl
  | p :: ps, s => by rw [List.cons_append, Dk.laid, laid_snoc i b ps, Dk.laid]
theorem laid_take (ps : List (Nat × List UInt8)) (s : List (List UInt8)) (k : Nat) (hk : k < ps.length) : Dk.laid (ps.take (k + 1)) s = (Dk.laid (ps.take k) s).set (ps.getD k (0, [])).1 (ps.getD k (0, [])).2 := by
  have e : ps.take (k + 1) = ps.take k ++ [((ps.getD k (0, [])).1, (ps.getD k (0, [])).2)] := by
    have e0 : ((ps.getD k (0, [])).1, (ps.getD k (0, [])).2) = ps[k] := by simp [List.getD, hk]
    rw [e0, List.take_add_one, List.getElem?_eq_getElem hk]
    rfl
  rw [e, laid_snoc]
end Go.Proofs.YtnoflgkjdibblaaGreatDoor.S19
