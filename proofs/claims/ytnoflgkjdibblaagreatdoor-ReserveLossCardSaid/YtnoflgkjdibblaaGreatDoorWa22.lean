/-
  Texts put together: ReG, ReI, ReJ, ReK. No statement is proved here.
-/
import Derived.Test.YtnoflgkjdibblaaGreatDoorWa21
import Derived.Test.YtnoflgkjdibblaaGreatDoorWa19

/-
  The landed counter's Take. No statement is proved here.
-/
namespace Go.Proofs.YtnoflgkjdibblaaGreatDoor.S21
set_option linter.unusedSimpArgs false
set_option linter.unusedVariables false
set_option maxRecDepth 8192
open Go.RowKit S19 S20

/-- What a call of Take, Retire or New's like comes to, on the landed side. -/
def PostK (M : DC) (C : SlC M) (N : Nat) (w : World) (cc g s : Nat) (h : List UInt8) (F S R : Nat → Prop) (x' : Cn) (D' : Dk) (Z' : Sl) (w' : World) : Prop :=
  ∃ F' S', Lz M C N w' g s D' Z' F' S' ∧ Ki N w' cc s x' h R ∧ (∀ b, R b → ¬ Or2 F' S' b) ∧ (∀ b, Or2 F' S' b → Or2 F S b ∨ w.heap.size ≤ b) ∧ Mv N (Or3 F S R) w w'
section
variable {M : DC} {C : SlC M} {N : Nat} {w w' X : World} {cc g s : Nat} {x y : Cn} {h : List UInt8} {D D' : Dk} {Z Z' : Sl} {F S R F' S' : Nat → Prop}
theorem PostK.grow (t : Lz M C N w g s D Z F S) (r : Ki N w cc s x h R) (ap : ∀ b, R b → ¬ Or2 F S b) (hb : Below w.heap.size w X) : PostK M C N w cc g s h F S R x D Z X :=
  ⟨F, S, t.grow hb, r.grow hb, ap, fun b hb => .inl hb, Mv.of (Nat.le_trans (r.lt cc r.at_).1 (Nat.le_of_lt (r.lt cc r.at_).2)) hb⟩
/-- One cell of the counter has turned behind. -/
theorem PostK.next (p : PostK M C N w cc g s h F S R x D Z X) (hl : cc < w.heap.size) (hR : R cc) (hN : N ≤ cc) : PostK M C N w cc g s h F S R x.next D Z (X.setCell ⟨cc, 3, none⟩ (.int .u64 ((x.nxt + 1 : Nat) : Int))) := by
  obtain ⟨F', S', h1, h2, h3, h4, h5⟩ := p
  have m := poke_cc (N := N) hN X 3 (.int .u64 ((x.nxt + 1 : Nat) : Int))
  refine ⟨F', S', Lz.poked h1 h2 h3 m, h2.set (by simp) (fun b hb _ => Below.heap_setCell _ ⟨cc, 3, none⟩ _ b hb) (fun A c hB => hB.put 3 _), h3, h4, h5.trans m fun b hb => .inl (.inr (.inr (by have e : b = cc := hb; rw [e]; exact hR)))⟩
theorem PostK.from (hb : Below w.heap.size w X) (p : PostK M C N X cc g s h F S R x D Z w') (hN : N ≤ w.heap.size) : PostK M C N w cc g s h F S R x D Z w' := by
  obtain ⟨F', S', h1, h2, h3, h4, h5⟩ := p
  exact ⟨F', S', h1, h2, h3, fun b hb' => (h4 b hb').imp id fun e => Nat.le_trans hb.size e, (Mv.of hN hb).trans h5 fun b hb => .inl hb⟩
end
theorem run_min2_ {P : Program} (k : IntKind) (a b : Int) (w : World) : (Builtin.min2 (.int k a) (.int k b)).run P w = .ok (.int k (min a b)) w := by
  have e : (if b < a then b else a) = min a b := by split <;> omega
  simp only [Builtin.min2, e]
  rfl
theorem run_min2c {P : Program} (ts : Array TypeId) (t : TypeId) (k : IntKind) (a b r : Int) (h : min a b = r) (w : World) :
    (Builtin.min_ ts t #[.int k a, .int k b]).run P w = .ok (.int k r) w := by
  subst h
  simp [Builtin.min_, List.foldlM, run_min2_]
theorem take_gone {x : Cn} (hd : List UInt8) (Z : Sl) (D : Dk) (hg : x.gone = true) : x.takeC hd Z D = 13 ∧ x.takeN hd Z D = 0 ∧ x.take hd Z D = x ∧ x.takeZ hd Z D = Z ∧ x.takeD hd Z D = D := by
  have e1 : x.takeC hd Z D = 13 := by unfold Cn.takeC; rw [if_pos hg]
  have e2 : x.must = false := by unfold Cn.must; rw [hg]; rfl
  refine ⟨e1, by unfold Cn.takeN; rw [if_neg (by rw [e1]; omega)], by unfold Cn.take; rw [if_neg (by rw [e1]; omega)], by unfold Cn.takeZ; rw [e2]; rfl, by unfold Cn.takeD; rw [e2]; rfl⟩
theorem take_out {x : Cn} (hd : List UInt8) (Z : Sl) (D : Dk) (hg : x.gone = false) (ht : x.tot ≤ x.nxt) : x.takeC hd Z D = 9 ∧ x.takeN hd Z D = 0 ∧ x.take hd Z D = x ∧ x.takeZ hd Z D = Z ∧ x.takeD hd Z D = D := by
  have e1 : x.takeC hd Z D = 9 := by unfold Cn.takeC; rw [if_neg (by rw [hg]; simp), if_pos ht]
  have e2 : x.must = false := by unfold Cn.must; rw [decide_eq_false (show ¬ x.nxt < x.tot by omega)]; simp
  refine ⟨e1, by unfold Cn.takeN; rw [if_neg (by rw [e1]; omega)], by unfold Cn.take; rw [if_neg (by rw [e1]; omega)], by unfold Cn.takeZ; rw [e2]; rfl, by unfold Cn.takeD; rw [e2]; rfl⟩
theorem take_one {x : Cn} (hd : List UInt8) (Z : Sl) (D : Dk) (hg : x.gone = false) (ht : x.nxt < x.tot) (hr : x.nxt < x.res) : x.takeC hd Z D = 0 ∧ x.takeN hd Z D = x.nxt ∧ x.take hd Z D = x.next ∧ x.takeZ hd Z D = Z ∧ x.takeD hd Z D = D := by
  have e1 : x.takeC hd Z D = 0 := by unfold Cn.takeC; rw [if_neg (by rw [hg]; simp), if_neg (by omega), if_neg (by omega)]
  have e2 : x.must = false := by unfold Cn.must; rw [decide_eq_false (show ¬ x.res ≤ x.nxt by omega)]; simp
  refine ⟨e1, by unfold Cn.takeN; rw [if_pos e1], by unfold Cn.take; rw [if_pos e1, e2]; rfl, by unfold Cn.takeZ; rw [e2]; rfl, by unfold Cn.takeD; rw [e2]; rfl⟩
theorem take_more {x : Cn} (hd : List UInt8) (Z : Sl) (D : Dk) (hg : x.gone = false) (ht : x.nxt < x.tot) (hr : x.res ≤ x.nxt) : x.takeC hd Z D = Z.saveC D (x.more.row hd) ∧ (Z.saveC D (x.more.row hd) = 0 → x.takeN hd Z D = x.nxt ∧ x.take hd Z D = x.more.next) ∧ (Z.saveC D (x.more.row hd) ≠ 0 → x.takeN hd Z D = 0 ∧ x.take hd Z D = x) ∧ x.takeZ hd Z D = Z.save D (x.more.row hd) ∧ x.takeD hd Z D = Z.saveD D (x.more.row hd) := by
  have e1 : x.takeC hd Z D = Z.saveC D (x.more.row hd) := by unfold Cn.takeC; rw [if_neg (by rw [hg]; simp), if_neg (by omega), if_pos hr]
  have e2 : x.must = true := by unfold Cn.must; rw [hg, decide_eq_true ht, decide_eq_true hr]; rfl
  refine ⟨e1, fun z => ⟨by unfold Cn.takeN; rw [if_pos (by rw [e1, z])], by unfold Cn.take; rw [if_pos (by rw [e1, z]), e2]; rfl⟩, fun z => ⟨by unfold Cn.takeN; rw [if_neg (by rw [e1]; exact z)], by unfold Cn.take; rw [if_neg (by rw [e1]; exact z)]⟩, by unfold Cn.takeZ; rw [e2]; rfl, by unfold Cn.takeD; rw [e2]; rfl⟩
theorem more_ne {x : Cn} {n : Nat} (ho : x.Ok n) (ht : x.nxt < x.tot) (hr : x.res ≤ x.nxt) : x.more ≠ x := by
  intro e
  have h1 := congrArg Cn.res e
  have hm := ho.may
  unfold Cn.May at hm
  have h2 : (if x.tot < x.res + x.bat then x.tot else x.res + x.bat) = x.res := h1
  split at h2 <;> omega
set_option maxHeartbeats 16000000 in
theorem ltake_any (M : DC) (C : SlC M) (N : Nat) (w : World) (cc g s : Nat) (x : Cn) (h : List UInt8) (D : Dk) (Z : Sl) (F S R : Nat → Prop) (hk : ∀ X, Below w.heap.size w X → C.ok X) (t : Lz M C N w g s D Z F S) (r : Ki N w cc s x h R) (ap : ∀ b, R b → ¬ Or2 F S b) (ho : x.Ok h.length) (hc : D.cnt < 1099511627000) :
    Calls Tryz.prog 13 #[.pointer (some ⟨cc, 0, none⟩)] w fun e w' => e = .returned (.tuple #[.int .u64 (x.takeN h Z D : Int), .int .i64 (x.takeC h Z D : Int)]) ∧ PostK M C N w cc g s h F S R (x.take h Z D) (x.takeD h Z D) (x.takeZ h Z D) w' := by
  have hcc := (r.lt cc r.at_)
  have hN : N ≤ w.heap.size := Nat.le_trans hcc.1 (Nat.le_of_lt hcc.2)
  obtain ⟨A, c, hb, hr⟩ := r.bk
  have hfit := ho.fit
  have hmf := Cn.more_fit ho
  have hmay := ho.may
  unfold Cn.May at hmay
  have hle := ho.le
  have SAME := Lib.hid (show ∀ X, Below w.heap.size w X → PostK M C N w cc g s h F S R x D Z X from fun X hX => PostK.grow t r ap hX)
  have BS := Lib.hid (show ∀ X, Below w.heap.size w X → Calls Tryz.prog 41 #[.pointer (some ⟨cc, 0, none⟩), .agg x.cells] X fun e w' => e = .returned (.int .i64 0) ∧ Below X.heap.size X w' from fun X hX => lbecome_same N X cc s x h R (r.grow hX))
  have BM := Lib.hid (show x.more ≠ x → ∀ X, Below w.heap.size w X → Calls Tryz.prog 41 #[.pointer (some ⟨cc, 0, none⟩), .agg x.more.cells] X fun e w' => e = .returned (.int .i64 (Z.saveC D (x.more.row h) : Int)) ∧ PostK M C N w cc g s h F S R (if Z.saveC D (x.more.row h) = 0 then x.more else x) (Z.saveD D (x.more.row h)) (Z.save D (x.more.row h)) w' ∧ (∀ b, w.heap.size ≤ b → b < X.heap.size → w'.heap[b]? = X.heap[b]?) from fun hne X hX => (lbecome_save M C N X cc g s x x.more h D Z F S R (fun Y hY => hk Y (hX.trans (hY.mono hX.size))) (t.grow hX) (r.grow hX) ap hmf hne hc).mono fun e w' ⟨F', S', h1, h2, h3, h4, h5, h6⟩ => ⟨h1, PostK.from hX ⟨F', S', h2, h3, h4, h5, h6⟩ hN, fun b q1 q2 => h6.same b q2 fun e => by
    rcases e with e | e | e
    · have := (t.lt b (.inl e)).2; omega
    · have := (t.lt b (.inr e)).2; omega
    · have := (r.lt b e).2; omega⟩)
  have TG := fun hg => take_gone h Z D (x := x) hg
  have TO := fun hg ht => take_out h Z D (x := x) hg ht
  have T1 := fun hg ht hr => take_one h Z D (x := x) hg ht hr
  have TM := fun hg ht hr => take_more h Z D (x := x) hg ht hr
  have MN := fun ht hr => more_ne ho ht hr
  obtain ⟨vn, hvn⟩ : ∃ v, v = x.takeN h Z D := ⟨_, rfl⟩
  obtain ⟨vc, hvc⟩ : ∃ v, v = x.takeC h Z D := ⟨_, rfl⟩
  obtain ⟨vx, hvx⟩ : ∃ v, v = x.take h Z D := ⟨_, rfl⟩
  obtain ⟨vz, hvz⟩ : ∃ v, v = x.takeZ h Z D := ⟨_, rfl⟩
  obtain ⟨vd, hvd⟩ : ∃ v, v = x.takeD h Z D := ⟨_, rfl⟩
  rw [← hvn, ← hvc, ← hvx, ← hvz, ← hvd] at TG TO T1 TM ⊢
  obtain ⟨n, hn⟩ : ∃ n, n = h.length := ⟨_, rfl⟩
  rw [← hn] at hb hr
  have HCC := Lib.hid (show cc < w.heap.size ∧ R cc ∧ N ≤ cc from ⟨hcc.2, r.at_, hcc.1⟩)
  obtain ⟨sc, hsc⟩ : ∃ v, v = Z.saveC D (x.more.row h) := ⟨_, rfl⟩
  rw [← hsc] at BM TM
  obtain ⟨ym, hym⟩ : ∃ v, v = x.more := ⟨_, rfl⟩
  have hyc : ym.tot = x.tot ∧ ym.bat = x.bat ∧ ym.nxt = x.nxt ∧ ym.gone = x.gone ∧ ym.res = (if x.tot < x.res + x.bat then x.tot else x.res + x.bat) := by rw [hym]; exact ⟨rfl, rfl, rfl, rfl, rfl⟩
  rw [← hym] at BM MN TM
  obtain ⟨x0, x1, x2, x3, x4⟩ := x
  obtain ⟨y0, y1, y2, y3, y4⟩ := ym
  simp only at hyc hb hmay hle TG TO T1 TM MN
  obtain ⟨rfl, rfl, rfl, rfl, hy2⟩ := hyc
  replace BS := Lib.hid (show ∀ X, Below w.heap.size w X → Calls Tryz.prog 41 #[.pointer (some ⟨cc, 0, none⟩), .agg #[.int .u64 (y0 : Int), .int .u64 (y1 : Int), .int .u64 (x2 : Int), .int .u64 (y3 : Int), .bool y4]] X fun e w' => e = .returned (.int .i64 0) ∧ Below X.heap.size X w' from BS.out)
  replace BM := Lib.hid (show (⟨y0, y1, y2, y3, y4⟩ : Cn) ≠ ⟨y0, y1, x2, y3, y4⟩ → ∀ X, Below w.heap.size w X → Calls Tryz.prog 41 #[.pointer (some ⟨cc, 0, none⟩), .agg #[.int .u64 (y0 : Int), .int .u64 (y1 : Int), .int .u64 (y2 : Int), .int .u64 (y3 : Int), .bool y4]] X fun e w' => e = .returned (.int .i64 (sc : Int)) ∧ PostK M C N w cc g s h F S R (if sc = 0 then ⟨y0, y1, y2, y3, y4⟩ else ⟨y0, y1, x2, y3, y4⟩) (Z.saveD D (Cn.row ⟨y0, y1, y2, y3, y4⟩ h)) (Z.save D (Cn.row ⟨y0, y1, y2, y3, y4⟩ h)) w' ∧ (∀ b, w.heap.size ≤ b → b < X.heap.size → w'.heap[b]? = X.heap[b]?) from BM.out)
  have CB : Bk w cc _ _ := hb
  have c0 := hb.cell 0
  have c1 := hb.cell 1
  have c2 := hb.cell 2
  have c3 := hb.cell 3
  have c4 := hb.cell 4
  simp only [List.getElem?_toArray, List.getElem?_cons_zero, List.getElem?_cons_succ] at c0 c1 c2 c3 c4
  obtain ⟨pa, hpa⟩ : ∃ g, w.heap.size = g := ⟨_, rfl⟩
  have HPA := Lib.hid hpa
  have HB := Lib.hid hb
  have HNM := Lib.hid hmay
  clear t r ap hk hc ho hb hr hvn hvc hvx hvz hvd hn hsc hym hcc hpa CB
  go_enter Tryz.func13, Tryz.ntmps13
  go_upto_region 2 with (fail)
  obtain ⟨wa, hwa⟩ : ∃ wa, (w.alloc (.cells #[.int .u64 (y0 : Int), .int .u64 (y1 : Int), .int .u64 (x2 : Int), .int .u64 (y3 : Int), .bool y4] 46)) = wa := ⟨_, rfl⟩
  have TA := Lib.hid (show Bk wa pa 46 #[.int .u64 (y0 : Int), .int .u64 (y1 : Int), .int .u64 (x2 : Int), .int .u64 (y3 : Int), .bool y4] by rw [← hwa]; exact Bk.newAt _ _ _ _ HPA.out)
  have BA := Lib.hid (show Below w.heap.size w wa by rw [← hwa]; exact (Below.refl _ _).alloc (Nat.le_refl _) _)
  rw [hwa, HPA.out]
  have PNE := Lib.hid (show pa ≠ cc from fun e => by have := HCC.out.1; have := HPA.out; omega)
  clear hwa c0 c1 c2 c3 c4
  have k0 := TA.out.cell 0
  have k1 := TA.out.cell 1
  have k2 := TA.out.cell 2
  have k3 := TA.out.cell 3
  have k4 := TA.out.cell 4
  have f2 := TA.out.frozen 2
  simp only [List.getElem?_toArray, List.getElem?_cons_zero, List.getElem?_cons_succ] at k0 k1 k2 k3 k4
  cases y4
  · by_cases ht : y3 = y0
    · obtain ⟨e1, e2, e3, e4, e5⟩ := TO rfl (Nat.le_of_eq ht.symm)
      have HX := Lib.hid (show vc = 9 ∧ vn = 0 ∧ vx = ⟨y0, y1, x2, y3, false⟩ ∧ vz = Z ∧ vd = D from ⟨e1, e2, e3, e4, e5⟩)
      have ht' : ((y3 : Int) == (y0 : Int)) = true := by simp [ht]
      clear TG TO T1 TM MN BM BS hmay hle hfit hmf hy2 e1 e2 e3 e4 e5
      go_wp2_with (fail)
      go_ret2
      rw [HX.out.1, HX.out.2.1, HX.out.2.2.1, HX.out.2.2.2.1, HX.out.2.2.2.2]
      exact ⟨rfl, SAME.out _ BA.out⟩
    · have hlt : y3 < y0 := by omega
      have ht' : ((y3 : Int) == (y0 : Int)) = false := by rw [beq_eq_false_iff_ne]; omega
      obtain ⟨u, hu⟩ : ∃ u, u = y3 + 1 := ⟨_, rfl⟩
      have HU := Lib.hid hu
      have w1 : ((y3 : Int) + 1) = (u : Int) := by omega
      have w2 : IntKind.u64.wrap (u : Int) = (u : Int) := by rw [IntKind.wrap_u64]; omega
      have w3 : IntKind.u64.wrap ((y3 : Int) + 1) = (u : Int) := by rw [w1]; exact w2
      by_cases hr : y3 = x2
      · subst hr
        obtain ⟨e1, e2, e3, e4, e5⟩ := TM rfl hlt (Nat.le_refl _)
        have hne := MN hlt (Nat.le_refl _)
        have hr' : ((y3 : Int) == (y3 : Int)) = true := by simp
        have BM' := Lib.hid (BM.out hne)
        obtain ⟨su, hsu⟩ : ∃ su, su = y3 + y1 := ⟨_, rfl⟩
        have d1 : ((y3 : Int) + (y1 : Int)) = (su : Int) := by omega
        have d2 : IntKind.u64.wrap (su : Int) = (su : Int) := by rw [IntKind.wrap_u64]; omega
        have d3 : IntKind.u64.wrap ((y3 : Int) + (y1 : Int)) = (su : Int) := by rw [d1]; exact d2
        have hmin : min (su : Int) (y0 : Int) = (y2 : Int) := by rw [hy2, hsu]; split <;> omega
        have MI : ∀ W, (Builtin.min_ #[22, 22] 22 #[.int .u64 (su : Int), .int .u64 (y0 : Int)]).run Tryz.prog W = .ok (.int .u64 (y2 : Int)) W := fun W => run_min2c _ _ _ _ _ _ hmin W
        have TZ := Lib.hid e2
        have TN := Lib.hid e3
        have HD := Lib.hid (show vc = sc ∧ vz = Z.save D (Cn.row ⟨y0, y1, y2, y3, false⟩ h) ∧ vd = Z.saveD D (Cn.row ⟨y0, y1, y2, y3, false⟩ h) from ⟨e1, e4, e5⟩)
        clear TG TO T1 TM MN BM BS hmay hle hfit hmf hy2 hmin hsu hne e1 e2 e3 e4 e5 hu
        go_upto_region 8 with (fail)
        have T2 := Lib.hid (TA.out.put 2 (.int .u64 (y2 : Int)))
        have B2 := Lib.hid (show Below w.heap.size w (wa.setCell ⟨pa, 2, none⟩ (.int .u64 (y2 : Int))) from BA.out.setCell (Nat.le_of_eq HPA.out) _)
        obtain ⟨wb, hwb⟩ : ∃ wb, wa.setCell ⟨pa, 2, none⟩ (.int .u64 (y2 : Int)) = wb := ⟨_, rfl⟩
        rw [hwb] at T2 B2
        rw [hwb]
        clear hwb k0 k1 k2 k3 k4 f2 TA BA
        have k0 : wb.cell? ⟨pa, 0, none⟩ = some (.int .u64 (y0 : Int)) := T2.out.cell 0
        have k1 : wb.cell? ⟨pa, 1, none⟩ = some (.int .u64 (y1 : Int)) := T2.out.cell 1
        have k2 : wb.cell? ⟨pa, 2, none⟩ = some (.int .u64 (y2 : Int)) := T2.out.cell 2
        have k3 : wb.cell? ⟨pa, 3, none⟩ = some (.int .u64 (y3 : Int)) := T2.out.cell 3
        have k4 : wb.cell? ⟨pa, 4, none⟩ = some (.bool false) := T2.out.cell 4
        go_upto_region 9 with (go_at_call 41; ((with_reducible refine (BM'.out wb B2.out).mono ?_); rintro e w5 ⟨rfl, p5, i5⟩; have P5 := Lib.hid p5; have KP := Lib.hid (show w5.cell? ⟨pa, 3, none⟩ = some (.int .u64 (y3 : Int)) from (World.cell?_of_block (a := ⟨pa, 3, none⟩) (i5 pa (Nat.le_of_eq HPA.out) T2.out.lt)).trans (T2.out.cell 3)); clear p5 i5))
        clear k0 k1 k2 k3 k4
        by_cases hz : sc = 0
        · obtain ⟨e2, e3⟩ := TZ.out hz
          subst hz
          have P6 := Lib.hid (show PostK M C N w cc g s h F S R ⟨y0, y1, y2, y3, false⟩ (Z.saveD D (Cn.row ⟨y0, y1, y2, y3, false⟩ h)) (Z.save D (Cn.row ⟨y0, y1, y2, y3, false⟩ h)) w5 from by have q := P5.out; rw [if_pos rfl] at q; exact q)
          have HX := Lib.hid (show vn = y3 ∧ vx = Cn.next ⟨y0, y1, y2, y3, false⟩ from ⟨e2, e3⟩)
          clear e2 e3 P5
          obtain ⟨F5, S5, q1, q2, q3, q4, q5⟩ := P6.out
          obtain ⟨A5, c5, hb5, _⟩ := q2.bk
          have j3 : w5.cell? ⟨cc, 3, none⟩ = some (.int .u64 (y3 : Int)) := hb5.cell 3
          have g3 := hb5.frozen 3
          have HP := Lib.hid (show PostK M C N w cc g s h F S R _ _ _ _ from PostK.next P6.out HCC.out.1 HCC.out.2.1 HCC.out.2.2)
          have hne := PNE.out
          have kk : (w5.setCell ⟨cc, 3, none⟩ (.int .u64 (u : Int))).cell? ⟨pa, 3, none⟩ = some (.int .u64 (y3 : Int)) := (World.cell?_of_block (a := ⟨pa, 3, none⟩) (Below.heap_setCell _ ⟨cc, 3, none⟩ _ pa hne)).trans KP.out
          clear q1 q2 q3 q4 q5 hb5
          go_wp2_with (fail)
          go_ret2
          rw [HD.out.1, HX.out.1, HX.out.2, HD.out.2.1, HD.out.2.2]
          exact ⟨rfl, by rw [HU.out]; exact HP.out⟩
        · obtain ⟨e2, e3⟩ := TN.out hz
          have hz' : ((sc : Int) != 0) = true := by simpa using hz
          have P6 := Lib.hid (show PostK M C N w cc g s h F S R ⟨y0, y1, y3, y3, false⟩ (Z.saveD D (Cn.row ⟨y0, y1, y2, y3, false⟩ h)) (Z.save D (Cn.row ⟨y0, y1, y2, y3, false⟩ h)) w5 from by have q := P5.out; rw [if_neg hz] at q; exact q)
          have HX := Lib.hid (show vn = 0 ∧ vx = ⟨y0, y1, y3, y3, false⟩ from ⟨e2, e3⟩)
          clear e2 e3 P5 hz
          go_wp2_with (fail)
          go_ret2
          rw [HD.out.1, HX.out.1, HX.out.2, HD.out.2.1, HD.out.2.2]
          exact ⟨rfl, P6.out⟩
      · have hlr : y3 < x2 := by omega
        have hr' : ((y3 : Int) == (x2 : Int)) = false := by rw [beq_eq_false_iff_ne]; omega
        obtain ⟨e1, e2, e3, e4, e5⟩ := T1 rfl hlt hlr
        have HX := Lib.hid (show vc = 0 ∧ vn = y3 ∧ vx = Cn.next ⟨y0, y1, x2, y3, false⟩ ∧ vz = Z ∧ vd = D from ⟨e1, e2, e3, e4, e5⟩)
        clear TG TO T1 TM MN BM hmay hle hfit hmf hy2 e1 e2 e3 e4 e5 hlr hlt hu
        go_upto_region 9 with (go_at_call 41; ((with_reducible refine (BS.out wa BA.out).mono ?_); rintro e w5 ⟨rfl, b5⟩; have P6 := Lib.hid (SAME.out w5 (BA.out.trans (b5.mono BA.out.size))); have KP := Lib.hid (show w5.cell? ⟨pa, 3, none⟩ = some (.int .u64 (y3 : Int)) from (World.cell?_of_block (a := ⟨pa, 3, none⟩) (b5.block pa TA.out.lt)).trans (TA.out.cell 3)); clear b5))
        clear k0 k1 k2 k3 k4
        obtain ⟨F5, S5, q1, q2, q3, q4, q5⟩ := P6.out
        obtain ⟨A5, c5, hb5, _⟩ := q2.bk
        have j3 : w5.cell? ⟨cc, 3, none⟩ = some (.int .u64 (y3 : Int)) := hb5.cell 3
        have g3 := hb5.frozen 3
        have HP := Lib.hid (show PostK M C N w cc g s h F S R _ _ _ _ from PostK.next P6.out HCC.out.1 HCC.out.2.1 HCC.out.2.2)
        have hne := PNE.out
        have kk : (w5.setCell ⟨cc, 3, none⟩ (.int .u64 (u : Int))).cell? ⟨pa, 3, none⟩ = some (.int .u64 (y3 : Int)) := (World.cell?_of_block (a := ⟨pa, 3, none⟩) (Below.heap_setCell _ ⟨cc, 3, none⟩ _ pa hne)).trans KP.out
        clear q1 q2 q3 q4 q5 hb5
        go_wp2_with (fail)
        go_ret2
        rw [HX.out.1, HX.out.2.1, HX.out.2.2.1, HX.out.2.2.2.1, HX.out.2.2.2.2]
        exact ⟨rfl, by rw [HU.out]; exact HP.out⟩
  · obtain ⟨e1, e2, e3, e4, e5⟩ := TG rfl
    have HX := Lib.hid (show vc = 13 ∧ vn = 0 ∧ vx = ⟨y0, y1, x2, y3, true⟩ ∧ vz = Z ∧ vd = D from ⟨e1, e2, e3, e4, e5⟩)
    clear TG TO T1 TM MN BM BS hmay hle hfit hmf hy2 e1 e2 e3 e4 e5
    go_wp2_with (fail)
    go_ret2
    rw [HX.out.1, HX.out.2.1, HX.out.2.2.1, HX.out.2.2.2.1, HX.out.2.2.2.2]
    exact ⟨rfl, SAME.out _ BA.out⟩
end Go.Proofs.YtnoflgkjdibblaaGreatDoor.S21

/-
  The landed New. No statement is proved here.
-/
namespace Go.Proofs.YtnoflgkjdibblaaGreatDoor.S21
set_option linter.unusedSimpArgs false
set_option linter.unusedVariables false
set_option maxRecDepth 8192
open Go.RowKit S19 S20

/-- What New and Open come to. -/
def PostN (M : DC) (C : SlC M) (N : Nat) (w : World) (g s : Nat) (F S : Nat → Prop) (y : Cn) (h : List UInt8) (code : Nat) (D' : Dk) (Z' : Sl) (e : Ending) (w' : World) : Prop :=
  ∃ p F' S', e = .returned (.tuple #[.pointer p, .int .i64 (code : Int)]) ∧ (code ≠ 0 → p = none) ∧ (code = 0 → ∃ cc R, p = some ⟨cc, 0, none⟩ ∧ Ki N w' cc s y h R ∧ (∀ b, R b → w.heap.size ≤ b) ∧ (∀ b, R b → ¬ Or2 F' S' b)) ∧
    Lz M C N w' g s D' Z' F' S' ∧ (∀ b, Or2 F' S' b → Or2 F S b ∨ w.heap.size ≤ b) ∧ Mv N (Or2 F S) w w'
section
variable {M : DC} {C : SlC M} {N : Nat} {w w1 w' X : World} {cc g s : Nat} {x y : Cn} {h : List UInt8} {D D' : Dk} {Z Z' : Sl} {F S R F' S' : Nat → Prop} {code : Nat}
/-- None is there: slots and disk have moved. -/
theorem PostN.none_ (hN : N ≤ w.heap.size) (hc : code ≠ 0) (l : Lz M C N w1 g s D' Z' F' S') (hs : ∀ b, Or2 F' S' b → Or2 F S b ∨ w.heap.size ≤ b) (m : Mv N (Or2 F S) w w1) (hb : Below w1.heap.size w1 X) : PostN M C N w g s F S y h code D' Z' (.returned (.tuple #[.pointer none, .int .i64 (code : Int)])) X :=
  ⟨none, F', S', rfl, fun _ => rfl, fun e => absurd e hc, l.grow hb, hs, m.trans (Mv.of (F := fun _ => False) (Nat.le_trans hN m.size) hb) fun b hb => hb.elim⟩
/-- One is there, in a new block. -/
theorem PostN.some_ (hN : N ≤ w.heap.size) (l : Lz M C N w1 g s D' Z' F' S') (hs : ∀ b, Or2 F' S' b → Or2 F S b ∨ w.heap.size ≤ b) (m : Mv N (Or2 F S) w w1) {A : Option Addr} {n c cc : Nat} (hn : n = h.length) (hf : n ≤ 100000) (hr : Rd w1 A n c h) (hA : ∀ a, 0 < n → A = some a → w.heap.size ≤ a.block ∧ ¬ Or2 F' S' a.block) (hcc : w1.heap.size = cc) :
    PostN M C N w g s F S y h 0 D' Z' (.returned (.tuple #[.pointer (some ⟨cc, 0, none⟩), .int .i64 0])) (w1.alloc (.cells #[.int .u64 (y.tot : Int), .int .u64 (y.bat : Int), .int .u64 (y.res : Int), .int .u64 (y.nxt : Int), .bool y.gone, .slice A n c, .pointer (some ⟨s, 0, none⟩)] 95)) := by
  have hb : Below w1.heap.size w1 (w1.alloc (.cells #[.int .u64 (y.tot : Int), .int .u64 (y.bat : Int), .int .u64 (y.res : Int), .int .u64 (y.nxt : Int), .bool y.gone, .slice A n c, .pointer (some ⟨s, 0, none⟩)] 95)) := (Below.refl _ _).alloc (Nat.le_refl _) _
  have hK := Bk.newAt w1 95 #[.int .u64 (y.tot : Int), .int .u64 (y.bat : Int), .int .u64 (y.res : Int), .int .u64 (y.nxt : Int), .bool y.gone, .slice A n c, .pointer (some ⟨s, 0, none⟩)] cc hcc
  have h1 := m.size
  have hlt : ∀ a, 0 < n → A = some a → a.block < w1.heap.size := fun a h0 ha => by
    obtain ⟨x, off, e, hx, _⟩ := hr.at_ h0
    rw [ha] at e
    injection e with e
    rw [e]
    exact hx
  subst hn
  refine ⟨some ⟨cc, 0, none⟩, F', S', rfl, fun e => absurd rfl e, fun _ => ⟨cc, fun b => b = cc ∨ ∃ a, 0 < h.length ∧ A = some a ∧ a.block = b, rfl, ⟨⟨A, c, hK, hr.below hb, fun a h0 ha => ⟨.inr ⟨a, h0, ha, rfl⟩, fun e => by have := hlt a h0 ha; omega⟩⟩, .inl rfl, hf, fun b hb' => ?_⟩, fun b hb' => ?_, fun b hb' hO => ?_⟩, l.grow hb, hs, m.trans (Mv.of (F := fun _ => False) (Nat.le_trans hN m.size) hb) fun b hb => hb.elim⟩
  · rw [World.size_alloc]
    rcases hb' with e | ⟨a, q1, q2, e⟩
    · omega
    · have := hlt a q1 q2
      have := (hA a q1 q2).1
      omega
  · rcases hb' with e | ⟨a, q1, q2, e⟩
    · omega
    · have := (hA a q1 q2).1
      omega
  · rcases hb' with e | ⟨a, q1, q2, e⟩
    · have := (l.lt b hO).2
      omega
    · exact (hA a q1 q2).2 (by rw [e]; exact hO)
end
theorem new_not {tot bat : Nat} {h : List UInt8} (Z : Sl) (D : Dk) (hm : ¬ (Cn.fresh tot bat).May h.length) : Cn.newC tot bat h Z D = 1 ∧ Cn.newZ tot bat h Z D = Z ∧ Cn.newD tot bat h Z D = D :=
  ⟨if_neg hm, if_neg hm, if_neg hm⟩
theorem new_ex {tot bat : Nat} {h : List UInt8} {Z : Sl} {D : Dk} (hm : (Cn.fresh tot bat).May h.length) (hl : Z.loadC D = 0) : Cn.newC tot bat h Z D = 10 ∧ Cn.newZ tot bat h Z D = Z.load D ∧ Cn.newD tot bat h Z D = D :=
  ⟨by unfold Cn.newC; rw [if_pos hm, if_pos hl], by unfold Cn.newZ; rw [if_pos hm, if_neg (by omega)], by unfold Cn.newD; rw [if_pos hm, if_neg (by omega)]⟩
theorem new_bad {tot bat : Nat} {h : List UInt8} {Z : Sl} {D : Dk} (hm : (Cn.fresh tot bat).May h.length) (hl : Z.loadC D ≠ 0) (hl2 : Z.loadC D ≠ 11) : Cn.newC tot bat h Z D = Z.loadC D ∧ Cn.newZ tot bat h Z D = Z.load D ∧ Cn.newD tot bat h Z D = D :=
  ⟨by unfold Cn.newC; rw [if_pos hm, if_neg hl, if_neg hl2], by unfold Cn.newZ; rw [if_pos hm, if_neg hl2], by unfold Cn.newD; rw [if_pos hm, if_neg hl2]⟩
theorem new_yes {tot bat : Nat} {h : List UInt8} {Z : Sl} {D : Dk} (hm : (Cn.fresh tot bat).May h.length) (hl : Z.loadC D = 11) : Cn.newC tot bat h Z D = (Z.load D).saveC D ((Cn.fresh tot bat).row h) ∧ Cn.newZ tot bat h Z D = (Z.load D).save D ((Cn.fresh tot bat).row h) ∧ Cn.newD tot bat h Z D = (Z.load D).saveD D ((Cn.fresh tot bat).row h) :=
  ⟨by unfold Cn.newC; rw [if_pos hm, if_neg (by omega), if_pos hl], by unfold Cn.newZ; rw [if_pos hm, if_pos hl], by unfold Cn.newD; rw [if_pos hm, if_pos hl]⟩
set_option maxHeartbeats 16000000 in
theorem lnew_any (M : DC) (C : SlC M) (N : Nat) (w : World) (s g : Nat) (D : Dk) (Z : Sl) (F S : Nat → Prop) (A : Option Addr) (n c : Nat) (h : List UInt8) (tot bat : Nat) (hN : N ≤ w.heap.size) (hk : ∀ X, Below N w X → C.ok X) (t : Lz M C N w g s D Z F S) (hr : Rd w A n c h) (hc : D.cnt < 1099511627000) (ht : tot < 18446744073709551616) (hb : bat < 18446744073709551616) (hn : n ≤ 100000) :
    Calls Tryz.prog 10 #[.pointer (some ⟨s, 0, none⟩), .slice A n c, .int .u64 (tot : Int), .int .u64 (bat : Int)] w (PostN M C N w g s F S (Cn.fresh tot bat) h (Cn.newC tot bat h Z D) (Cn.newD tot bat h Z D) (Cn.newZ tot bat h Z D)) := by
  have hl := hr.len
  have hfit : (Cn.fresh tot bat).Fit := ⟨ht, hb, by show 0 < _; omega, by show 0 < _; omega⟩
  obtain ⟨my, hmy⟩ : ∃ v, v = decide ((Cn.fresh tot bat).May n) := ⟨_, rfl⟩
  have MY := Lib.hid (show ∀ X A c, Calls Tryz.prog 33 #[.agg #[.int .u64 (tot : Int), .int .u64 (bat : Int), .int .u64 0, .int .u64 0, .bool false, .slice A n c]] X fun e w' => e = .returned (.bool my) ∧ Below X.heap.size X w' from fun X A c => by rw [hmy]; exact lmay_any (Cn.fresh tot bat) A n c X)
  obtain ⟨row, hrow⟩ : ∃ v, v = (Cn.fresh tot bat).row h := ⟨_, rfl⟩
  have BY := Lib.hid (show ∀ X A c, Rd X A n c h → Calls Tryz.prog 36 #[.agg #[.int .u64 (tot : Int), .int .u64 (bat : Int), .int .u64 0, .int .u64 0, .bool false, .slice A n c]] X (New X.heap.size X row) from fun X A c q => by rw [hrow]; exact lbytes_any (Cn.fresh tot bat) hfit A n c h X q hn)
  obtain ⟨lc, hlc⟩ : ∃ v, v = Z.loadC D := ⟨_, rfl⟩
  obtain ⟨ZL, hZL⟩ : ∃ v, v = Z.load D := ⟨_, rfl⟩
  have LO := Lib.hid (show ∀ X, Below w.heap.size w X → Calls Tryz.prog 34 #[.pointer (some ⟨s, 0, none⟩)] X fun e w' => ∃ A2 l2 c2 v, e = .returned (.tuple #[.slice A2 l2 c2, .int .u64 v, .int .i64 (lc : Int)]) ∧ (∃ F' S', Lz M C N w' g s D ZL F' S' ∧ (∀ b, Or2 F' S' b → Or2 F S b ∨ X.heap.size ≤ b)) ∧ Mv N (Or2 F S) X w' from fun X hX => ((t.grow hX).load (hk X (hX.mono hN))).mono fun e w' ⟨A2, c2, F', S', h1, _, _, h4, h5, h6⟩ => ⟨A2, _, c2, _, by rw [hlc]; exact h1, ⟨F', S', by rw [hZL]; exact h4, h5⟩, h6⟩)
  obtain ⟨sc, hsc⟩ : ∃ v, v = ZL.saveC D row := ⟨_, rfl⟩
  obtain ⟨ZS, hZS⟩ : ∃ v, v = ZL.save D row := ⟨_, rfl⟩
  obtain ⟨DS, hDS⟩ : ∃ v, v = ZL.saveD D row := ⟨_, rfl⟩
  have SV := Lib.hid (show ∀ X F' S', Below N w X → N ≤ X.heap.size → Lz M C N X g s D ZL F' S' → ∀ Y A' lr c', Below X.heap.size X Y → Rd Y A' lr c' row → (∀ a, A' = some a → X.heap.size ≤ a.block) → Calls Tryz.prog 35 #[.pointer (some ⟨s, 0, none⟩), .slice A' lr c'] Y fun e w' => e = .returned (.int .i64 (sc : Int)) ∧ (∃ F'' S'', Lz M C N w' g s DS ZS F'' S'' ∧ (∀ b, Or2 F'' S'' b → Or2 F' S' b ∨ X.heap.size ≤ b) ∧ Mv N (Or2 F' S') X w') ∧ (∀ b, ¬ Or2 F' S' b → b < Y.heap.size → w'.heap[b]? = Y.heap[b]?) from fun X F' S' hX hNX hL => by
    have q := lsave_call (row := row) hL hNX (fun Y hY => hk Y (hX.trans (hY.mono hNX))) hc
    rw [← hsc, ← hZS, ← hDS] at q
    exact q)
  have T0 := Lib.hid t
  have NF := Lib.hid (show (¬ (Cn.fresh tot bat).May n → Cn.newC tot bat h Z D = 1 ∧ Cn.newZ tot bat h Z D = Z ∧ Cn.newD tot bat h Z D = D) ∧ ((Cn.fresh tot bat).May n → (lc = 0 → Cn.newC tot bat h Z D = 10 ∧ Cn.newZ tot bat h Z D = ZL ∧ Cn.newD tot bat h Z D = D) ∧ (lc ≠ 0 → lc ≠ 11 → Cn.newC tot bat h Z D = lc ∧ Cn.newZ tot bat h Z D = ZL ∧ Cn.newD tot bat h Z D = D) ∧ (lc = 11 → Cn.newC tot bat h Z D = sc ∧ Cn.newZ tot bat h Z D = ZS ∧ Cn.newD tot bat h Z D = DS)) from by
    rw [← hl, hlc, hZL, hsc, hZS, hDS, hZL, hrow]
    exact ⟨fun q => new_not Z D q, fun q => ⟨fun e => new_ex q e, fun e e2 => new_bad q e e2, fun e => new_yes q e⟩⟩)
  obtain ⟨vc, hvc⟩ : ∃ v, v = Cn.newC tot bat h Z D := ⟨_, rfl⟩
  obtain ⟨vz, hvz⟩ : ∃ v, v = Cn.newZ tot bat h Z D := ⟨_, rfl⟩
  obtain ⟨vd, hvd⟩ : ∃ v, v = Cn.newD tot bat h Z D := ⟨_, rfl⟩
  rw [← hvc, ← hvz, ← hvd] at NF ⊢
  have HR := Lib.hid hr
  have HN := Lib.hid (show N ≤ w.heap.size ∧ n = h.length ∧ n ≤ 100000 from ⟨hN, hl.symm, hn⟩)
  have HMY := Lib.hid hmy
  obtain ⟨y, hy⟩ : ∃ y, y = Cn.fresh tot bat := ⟨_, rfl⟩
  have HY := Lib.hid hy
  have FS := Lib.hid (show ∀ b, w.heap.size ≤ b → ¬ Or2 F S b from fun b hb e => by have := (t.lt b e).2; omega)
  rw [← hy]
  clear hr hl hfit hmy hrow hlc hZL hsc hZS hDS t hk hc ht hb hn hN hvc hvz hvd hy
  go_enter Tryz.func10, Tryz.ntmps10
  go_upto_region 2 with (go_at_call 32; ((refine (cat_any _ 1 1 [h] _ (RdBs.built1To' w _ rfl _ HR.out) (by have := HN.out.2.1; have := HN.out.2.2; simp; omega)).mono ?_); intro e w1 h1; rw [show [h].flatten = h by simp] at h1; obtain ⟨A1, n1, c1, rfl, o1, b1⟩ := New.from ((Below.refl _ _).alloc (Nat.le_refl _) _) h1; have O1 := Lib.hid o1; have B1 := Lib.hid b1; clear o1 b1 h1))
  have hn1 : n1 = n := by rw [HN.out.2.1]; exact (own_len O1.out).symm
  subst hn1
  obtain ⟨pa, hpa⟩ : ∃ pa, w1.heap.size = pa := ⟨_, rfl⟩
  have PA := Lib.hid hpa
  obtain ⟨w2, hw2⟩ : ∃ w2, w1.alloc (.cells #[.int .u64 (tot : Int), .int .u64 (bat : Int), .int .u64 0, .int .u64 0, .bool false, .slice A1 n1 c1] 90) = w2 := ⟨_, rfl⟩
  have T2 := Lib.hid (show Bk w2 pa 90 #[.int .u64 (tot : Int), .int .u64 (bat : Int), .int .u64 0, .int .u64 0, .bool false, .slice A1 n1 c1] by rw [← hw2]; exact Bk.newAt _ _ _ _ hpa)
  have B12 := Lib.hid (show Below w1.heap.size w1 w2 by rw [← hw2]; exact (Below.refl _ _).alloc (Nat.le_refl _) _)
  rw [hw2, hpa]
  clear hw2 hpa
  have B2 := Lib.hid (B1.out.trans (B12.out.mono B1.out.size))
  have R2 := Lib.hid ((Rd.own O1.out).below B12.out)
  have F2 := Lib.hid (show ∀ a, A1 = some a → w.heap.size ≤ a.block ∧ a.block < w2.heap.size from fun a ha => by
    have q := O1.out.lt a.block (by rw [ha]; rfl)
    have := B12.out.size
    omega)
  have TC := Lib.hid (show ∀ X : World, X.heap[pa]? = w2.heap[pa]? → X.cell? ⟨pa, 0, none⟩ = some (.int .u64 (tot : Int)) ∧ X.cell? ⟨pa, 1, none⟩ = some (.int .u64 (bat : Int)) ∧ X.cell? ⟨pa, 2, none⟩ = some (.int .u64 0) ∧ X.cell? ⟨pa, 3, none⟩ = some (.int .u64 0) ∧ X.cell? ⟨pa, 4, none⟩ = some (.bool false) ∧ X.cell? ⟨pa, 5, none⟩ = some (.slice A1 n1 c1) from fun X hX => by
    have q : Bk X pa _ _ := hX.trans T2.out
    exact ⟨q.cell 0, q.cell 1, q.cell 2, q.cell 3, q.cell 4, q.cell 5⟩)
  have PW := Lib.hid (show w.heap.size ≤ pa ∧ pa < w2.heap.size from ⟨by rw [← PA.out]; exact B1.out.size, T2.out.lt⟩)
  obtain ⟨k0, k1, k2, k3, k4, k5⟩ := TC.out w2 rfl
  by_cases hM : my = true
  rotate_left
  · obtain rfl : my = false := by simpa using hM
    have HX := Lib.hid (NF.out.1 (of_decide_eq_false HMY.out.symm))
    clear hM
    go_wp2_with (go_at_call 33; ((with_reducible refine (MY.out w2 A1 c1).mono ?_); rintro e w3 ⟨rfl, b3⟩; have B3 := Lib.hid (B2.out.trans (b3.mono B2.out.size)); clear b3))
    go_ret2
    rw [HX.out.1, HX.out.2.1, HX.out.2.2]
    exact PostN.none_ HN.out.1 (by omega) T0.out (fun b hb => .inl hb) (Mv.refl _ _ _) B3.out
  subst hM
  have HX := Lib.hid (NF.out.2 (of_decide_eq_true HMY.out.symm))
  go_upto_region 5 with (first
    | (go_at_call 33; ((with_reducible refine (MY.out w2 A1 c1).mono ?_); rintro e w3 ⟨rfl, b3⟩; have B23 := Lib.hid b3; have B3 := Lib.hid (B2.out.trans (b3.mono B2.out.size)); clear b3 k0 k1 k2 k3 k4 k5))
    | (go_at_call 34; ((with_reducible refine (LO.out w3 B3.out).mono ?_); rintro e w4 ⟨A2, l2, c2, v2, rfl, ⟨F4, S4, l4, s4⟩, m4⟩; have L4 := Lib.hid l4; have U4 := Lib.hid s4; have M4 := Lib.hid m4; clear l4 s4 m4)))
  have MW4 := Lib.hid (show Mv N (Or2 F S) w w4 from (Mv.of HN.out.1 B3.out).trans M4.out fun b h => .inl h)
  have SW4 := Lib.hid (show ∀ b, Or2 F4 S4 b → Or2 F S b ∨ w.heap.size ≤ b from fun b hb => (U4.out b hb).imp id fun e => Nat.le_trans B3.out.size e)
  have NF4 := Lib.hid (show ∀ b, w.heap.size ≤ b → b < w3.heap.size → ¬ Or2 F4 S4 b from fun b h1 h2 e => (U4.out b e).elim (FS.out b h1) (by omega))
  have P4 := Lib.hid (show w4.heap[pa]? = w2.heap[pa]? from (M4.out.same pa (Nat.lt_of_lt_of_le PW.out.2 B23.out.size) (FS.out pa PW.out.1)).trans (B23.out.block pa PW.out.2))
  have R4 := Lib.hid (M4.out.rd (R2.out.below B23.out) fun a h0 ha => FS.out _ (F2.out a ha).1)
  by_cases h0 : lc = 0
  · have HV := Lib.hid (HX.out.1 h0)
    have q11 : ((lc : Int) == 11) = false := by rw [h0]; rfl
    have q0 : ((lc : Int) == 0) = true := by rw [h0]; rfl
    clear h0
    go_wp2_with (fail)
    go_ret2
    rw [HV.out.1, HV.out.2.1, HV.out.2.2]
    exact PostN.none_ HN.out.1 (by omega) L4.out SW4.out MW4.out (Below.refl _ _)
  by_cases h11 : lc = 11
  rotate_left
  · have HV := Lib.hid (HX.out.2.1 h0 h11)
    have q11 : ((lc : Int) == 11) = false := by rw [beq_eq_false_iff_ne]; omega
    have q0 : ((lc : Int) == 0) = false := by rw [beq_eq_false_iff_ne]; omega
    have HZ := Lib.hid h0
    clear h0 h11
    go_wp2_with (fail)
    go_ret2
    rw [HV.out.1, HV.out.2.1, HV.out.2.2]
    exact PostN.none_ HN.out.1 HZ.out L4.out SW4.out MW4.out (Below.refl _ _)
  have HV := Lib.hid (HX.out.2.2 h11)
  have q11 : ((lc : Int) == 11) = true := by rw [h11]; rfl
  clear h0 h11
  obtain ⟨k0, k1, k2, k3, k4, k5⟩ := TC.out w4 P4.out
  go_upto_region 11 with (first
    | (go_at_call 36; ((with_reducible refine (BY.out w4 A1 c1 R4.out).mono ?_); rintro e w5 ⟨A5, n5, c5, rfl, o5, b5⟩; have R5 := Lib.hid (Rd.own o5); have F5 := Lib.hid (show ∀ a, A5 = some a → w4.heap.size ≤ a.block from fun a ha => (o5.lt a.block (by rw [ha]; rfl)).1); have B5 := Lib.hid b5; clear o5 b5))
    | (go_at_call 35; ((with_reducible refine (SV.out w4 F4 S4 MW4.out.bel (Nat.le_trans HN.out.1 MW4.out.size) L4.out w5 A5 n5 c5 B5.out R5.out F5.out).mono ?_); rintro e w6 ⟨rfl, ⟨F6, S6, l6, s6, m6⟩, i6⟩; have L6 := Lib.hid l6; have U6 := Lib.hid s6; have M6 := Lib.hid m6; have I6 := Lib.hid i6; clear l6 s6 m6 i6 k0 k1 k2 k3 k4 k5)))
  have W34 := Lib.hid (show w3.heap.size ≤ w4.heap.size from M4.out.size)
  have NP := Lib.hid (show ¬ Or2 F4 S4 pa ∧ pa < w4.heap.size from ⟨NF4.out pa PW.out.1 (Nat.lt_of_lt_of_le PW.out.2 B23.out.size), Nat.lt_of_lt_of_le (Nat.lt_of_lt_of_le PW.out.2 B23.out.size) W34.out⟩)
  have P6 := Lib.hid (show w6.heap[pa]? = w2.heap[pa]? from ((I6.out pa NP.out.1 (Nat.lt_of_lt_of_le NP.out.2 B5.out.size)).trans (B5.out.block pa NP.out.2)).trans P4.out)
  have NA := Lib.hid (show ∀ a, A1 = some a → ¬ Or2 F4 S4 a.block ∧ a.block < w4.heap.size from fun a ha => ⟨NF4.out _ (F2.out a ha).1 (Nat.lt_of_lt_of_le (F2.out a ha).2 B23.out.size), Nat.lt_of_lt_of_le (Nat.lt_of_lt_of_le (F2.out a ha).2 B23.out.size) W34.out⟩)
  have R6 := Lib.hid (M6.out.rd R4.out fun a h0 ha => (NA.out a ha).1)
  have MW6 := Lib.hid (show Mv N (Or2 F S) w w6 from MW4.out.trans M6.out SW4.out)
  have SW6 := Lib.hid (show ∀ b, Or2 F6 S6 b → Or2 F S b ∨ w.heap.size ≤ b from fun b hb => (U6.out b hb).elim (SW4.out b) fun e => .inr (Nat.le_trans MW4.out.size e))
  obtain ⟨k0, k1, k2, k3, k4, k5⟩ := TC.out w6 P6.out
  by_cases hz : sc = 0
  · have q : ((sc : Int) != 0) = false := by rw [hz]; rfl
    have HZ := Lib.hid hz
    clear hz
    go_wp2_with (fail)
    go_ret2
    rw [HV.out.1, HV.out.2.1, HV.out.2.2, HY.out, HZ.out]
    exact PostN.some_ HN.out.1 L6.out SW6.out MW6.out HN.out.2.1 HN.out.2.2 R6.out (fun a h0 ha => ⟨(F2.out a ha).1, fun e => (U6.out _ e).elim (NA.out a ha).1 fun e => by have := (NA.out a ha).2; omega⟩) rfl
  · have q : ((sc : Int) != 0) = true := by simpa using hz
    have HZ := Lib.hid hz
    clear hz
    go_wp2_with (fail)
    go_ret2
    rw [HV.out.1, HV.out.2.1, HV.out.2.2]
    exact PostN.none_ HN.out.1 HZ.out L6.out SW6.out MW6.out (Below.refl _ _)
end Go.Proofs.YtnoflgkjdibblaaGreatDoor.S21

/-
  The landed Open. No statement is proved here.
-/
namespace Go.Proofs.YtnoflgkjdibblaaGreatDoor.S21
set_option linter.unusedSimpArgs false
set_option linter.unusedVariables false
set_option maxRecDepth 8192
open Go.RowKit S19 S20

theorem whole_few (xs : List UInt8) (n : Nat) (hn : n ≤ 8) : (whole xs n).2.length ≤ 1000 := by
  unfold whole
  split
  · rename_i h
    have h2 := h.2.1
    have h3 : room (n : Int) ≤ 1000 := by unfold room; split <;> omega
    show (dataOf xs).length ≤ 1000
    unfold dataOf
    rw [List.length_take]
    omega
  · exact Nat.zero_le _
theorem look_few (Z : Sl) (D : Dk) (hn : Z.n ≤ 8) (i : Nat) (z : Int × Nat × List UInt8) (hz : z.2.2.length ≤ 1000) : (Z.look D i z).2.2.length ≤ 1000 := by
  unfold Sl.look
  split
  · exact whole_few _ _ hn
  · exact hz
theorem loadB_few (Z : Sl) (D : Dk) (hn : Z.n ≤ 8) : (Z.loadB D).length ≤ 1000 := by
  unfold Sl.loadB
  split
  · rename_i h
    have ho : ¬ D.off = true := fun e => by rw [Sl.loadC, if_pos e] at h; omega
    rw [Sl.load, if_neg ho]
    exact look_few Z D hn 1 _ (look_few Z D hn 0 _ (Nat.zero_le _))
  · exact Nat.zero_le _
set_option maxHeartbeats 16000000 in
theorem lopen_any (M : DC) (C : SlC M) (N : Nat) (w : World) (s g : Nat) (D : Dk) (Z : Sl) (F S : Nat → Prop) (hN : N ≤ w.heap.size) (hk : C.ok w) (t : Lz M C N w g s D Z F S) :
    Calls Tryz.prog 21 #[.pointer (some ⟨s, 0, none⟩)] w (PostN M C N w g s F S (Cn.openX Z D) (Cn.openH Z D) (Cn.openC Z D) D (Z.load D)) := by
  obtain ⟨lb, hlb⟩ : ∃ v, v = Z.loadB D := ⟨_, rfl⟩
  obtain ⟨lc, hlc⟩ : ∃ v, v = Z.loadC D := ⟨_, rfl⟩
  obtain ⟨ll, hll⟩ : ∃ v, v = lb.length := ⟨_, rfl⟩
  have hfew : ll ≤ 100000 := by rw [hll, hlb]; have := loadB_few Z D t.zo.most; omega
  obtain ⟨rc, hrc⟩ : ∃ v, v = Cn.readC lb := ⟨_, rfl⟩
  have LO := Lib.hid (show Calls Tryz.prog 34 #[.pointer (some ⟨s, 0, none⟩)] w fun e w' => ∃ A2 c2 v, e = .returned (.tuple #[.slice A2 ll c2, .int .u64 v, .int .i64 (lc : Int)]) ∧ Rd w' A2 ll c2 lb ∧ (∃ F' S', Lz M C N w' g s D (Z.load D) F' S' ∧ (∀ b, Or2 F' S' b → Or2 F S b ∨ w.heap.size ≤ b)) ∧ Mv N (Or2 F S) w w' from (t.load hk).mono fun e w' ⟨A2, c2, F', S', h1, h2, _, h4, h5, h6⟩ => by
    rw [← hlb, ← hll] at h1 h2
    rw [← hlc] at h1
    exact ⟨A2, c2, _, h1, h2, ⟨F', S', h4, h5⟩, h6⟩)
  have OC := Lib.hid (show (lc = 0 → Cn.openC Z D = rc) ∧ (lc ≠ 0 → Cn.openC Z D = lc) from by
    rw [hlc, hrc, hlb]
    exact ⟨fun e => if_pos e, fun e => if_neg e⟩)
  obtain ⟨y, hy⟩ : ∃ v, v = Cn.openX Z D := ⟨_, rfl⟩
  obtain ⟨hd, hhd⟩ : ∃ v, v = Cn.openH Z D := ⟨_, rfl⟩
  have hyl : y = Cn.ofB lb := by rw [hy, hlb]; rfl
  have hhl : hd = lb.drop 25 := by rw [hhd, hlb]; rfl
  have RE := Lib.hid (show ∀ X A c, Rd X A ll c lb → Calls Tryz.prog 46 #[.slice A ll c] X fun e w' => ∃ (x0 x1 x2 x3 : Nat) (x4 : Bool) (A' : Option Addr) (l' c' : Nat), e = .returned (.tuple #[.agg #[.int .u64 (x0 : Int), .int .u64 (x1 : Int), .int .u64 (x2 : Int), .int .u64 (x3 : Int), .bool x4], .slice A' l' c', .int .i64 (rc : Int)]) ∧ (rc = 0 → (⟨x0, x1, x2, x3, x4⟩ : Cn) = y ∧ l' = hd.length ∧ Rd w' A' l' c' hd ∧ (∀ a, 0 < l' → A' = some a → X.heap.size ≤ a.block)) ∧ Below X.heap.size X w' from fun X A c h => (lread_any A ll c lb X h hfew).mono fun e w' ⟨A', c', h1, h2, h3, h4⟩ => ⟨(Cn.readX lb).tot, (Cn.readX lb).bat, (Cn.readX lb).res, (Cn.readX lb).nxt, (Cn.readX lb).gone, A', _, c', by rw [hrc]; exact h1, fun z => by
    rw [hrc] at z
    have e1 : Cn.readX lb = y := by rw [hyl]; exact if_pos z
    have e2 : Cn.readH lb = hd := by rw [hhl]; exact if_pos z
    rw [e2] at h2 h3 ⊢
    exact ⟨e1, rfl, h2, h3⟩, h4⟩)
  rw [← hy, ← hhd]
  have HF := Lib.hid (show hd.length ≤ 100000 from by rw [hhl]; simp; omega)
  obtain ⟨vc, hvc⟩ : ∃ v, v = Cn.openC Z D := ⟨_, rfl⟩
  rw [← hvc] at OC ⊢
  have HN := Lib.hid hN
  obtain ⟨ZL, hZL⟩ : ∃ v, v = Z.load D := ⟨_, rfl⟩
  rw [← hZL] at LO ⊢
  clear hlb hlc hll hfew hrc hy hhd hyl hhl hvc hN hk t hZL
  go_enter Tryz.func21, Tryz.ntmps21
  go_upto_region 2 with (go_at_call 34; ((with_reducible refine LO.out.mono ?_); rintro e w1 ⟨A1, c1, v1, rfl, r1, ⟨F1, S1, l1, s1⟩, m1⟩; have R1 := Lib.hid r1; have L1 := Lib.hid l1; have U1 := Lib.hid s1; have M1 := Lib.hid m1; clear r1 l1 s1 m1))
  by_cases h0 : lc = 0
  rotate_left
  · have HV := Lib.hid (OC.out.2 h0)
    have q0 : ((lc : Int) != 0) = true := by simpa using h0
    have HZ := Lib.hid h0
    clear h0
    go_wp2_with (fail)
    go_ret2
    rw [HV.out]
    exact PostN.none_ HN.out HZ.out L1.out U1.out M1.out (Below.refl _ _)
  have HV := Lib.hid (OC.out.1 h0)
  have q0 : ((lc : Int) != 0) = false := by rw [h0]; rfl
  clear h0
  go_upto_region 5 with (go_at_call 46; ((with_reducible refine (RE.out w1 A1 c1 R1.out).mono ?_); rintro e w2 ⟨x0, x1, x2, x3, x4, A2, l2, c2, rfl, y2, b2⟩; have Y2 := Lib.hid y2; have B2 := Lib.hid b2; clear y2 b2))
  obtain ⟨pa, hpa⟩ : ∃ pa, w2.heap.size = pa := ⟨_, rfl⟩
  obtain ⟨w3, hw3⟩ : ∃ w3, w2.alloc (.cells #[.int .u64 (x0 : Int), .int .u64 (x1 : Int), .int .u64 (x2 : Int), .int .u64 (x3 : Int), .bool x4] 46) = w3 := ⟨_, rfl⟩
  have T3 := Lib.hid (show Bk w3 pa 46 #[.int .u64 (x0 : Int), .int .u64 (x1 : Int), .int .u64 (x2 : Int), .int .u64 (x3 : Int), .bool x4] by rw [← hw3]; exact Bk.newAt _ _ _ _ hpa)
  have B23 := Lib.hid (show Below w2.heap.size w2 w3 by rw [← hw3]; exact (Below.refl _ _).alloc (Nat.le_refl _) _)
  rw [hw3, hpa]
  clear hw3 hpa
  have B3 := Lib.hid (B2.out.trans (B23.out.mono B2.out.size))
  have k0 := T3.out.cell 0
  have k1 := T3.out.cell 1
  have k2 := T3.out.cell 2
  have k3 := T3.out.cell 3
  have k4 := T3.out.cell 4
  simp only [List.getElem?_toArray, List.getElem?_cons_zero, List.getElem?_cons_succ] at k0 k1 k2 k3 k4
  by_cases hz : rc = 0
  · obtain ⟨ey, el, r2, f2⟩ := Y2.out hz
    have HE := Lib.hid ey
    have EL := Lib.hid el
    have R3 := Lib.hid (r2.below B23.out)
    have F2 := Lib.hid f2
    have q : ((rc : Int) != 0) = false := by rw [hz]; rfl
    have HZ := Lib.hid hz
    have MW := Lib.hid (show Mv N (Or2 F S) w w3 from M1.out.trans (Mv.of (F := fun _ => False) (Nat.le_trans HN.out M1.out.size) B3.out) fun b hb => hb.elim)
    clear hz ey el r2 f2
    go_wp2_with (fail)
    go_ret2
    rw [HV.out, HZ.out, ← HE.out]
    exact PostN.some_ HN.out (L1.out.grow B3.out) U1.out MW.out EL.out (by rw [EL.out]; exact HF.out) R3.out (fun a h0 ha => ⟨Nat.le_trans M1.out.size (F2.out a h0 ha), fun e => by have := F2.out a h0 ha; have := (L1.out.lt _ e).2; omega⟩) rfl
  · have q : ((rc : Int) != 0) = true := by simpa using hz
    have HZ := Lib.hid hz
    clear hz
    go_wp2_with (fail)
    go_ret2
    rw [HV.out]
    exact PostN.none_ HN.out HZ.out L1.out U1.out M1.out B3.out
end Go.Proofs.YtnoflgkjdibblaaGreatDoor.S21

/-
  The landed Bytes. No statement is proved here.
-/
namespace Go.Proofs.YtnoflgkjdibblaaGreatDoor.S21
set_option linter.unusedSimpArgs false
set_option linter.unusedVariables false
set_option maxRecDepth 8192
open Go.RowKit S19 S20

end Go.Proofs.YtnoflgkjdibblaaGreatDoor.S21
