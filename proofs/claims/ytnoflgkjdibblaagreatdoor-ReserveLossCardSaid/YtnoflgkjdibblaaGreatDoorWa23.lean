/-
  Texts put together: ReH, Ds1, Ds2, Ds3, Ds6, Sk1. No statement is proved here.
-/
import Derived.Test.YtnoflgkjdibblaaGreatDoorWa22
import Derived.Test.YtnoflgkjdibblaaGreatDoorWa05
import Derived.Test.YtnoflgkjdibblaaGreatDoorWa06
import Derived.Test.YtnoflgkjdibblaaGreatDoorWa19
import Derived.Test.YtnoflgkjdibblaaGreatDoorWa16

/-
  The landed counter's Retire. No statement is proved here.
-/
namespace Go.Proofs.YtnoflgkjdibblaaGreatDoor.S21
set_option linter.unusedSimpArgs false
set_option linter.unusedVariables false
set_option maxRecDepth 8192
open Go.RowKit S19 S20

theorem ret_gone {x : Cn} (hd : List UInt8) (Z : Sl) (D : Dk) (hg : x.gone = true) : x.retC hd Z D = 0 ∧ x.ret hd Z D = x ∧ x.retZ hd Z D = Z ∧ x.retD hd Z D = D := by
  have e1 : x.retC hd Z D = 0 := by unfold Cn.retC; rw [if_pos hg]
  refine ⟨e1, ?_, by unfold Cn.retZ; rw [if_pos hg], by unfold Cn.retD; rw [if_pos hg]⟩
  unfold Cn.ret
  rw [if_pos e1]
  obtain ⟨a, b, c, d, e⟩ := x
  have e' : e = true := hg
  rw [e']
  rfl
theorem ret_not {x : Cn} (hd : List UInt8) (Z : Sl) (D : Dk) (hg : x.gone = false) : x.retC hd Z D = Z.saveC D (x.dead.row hd) ∧ x.ret hd Z D = (if Z.saveC D (x.dead.row hd) = 0 then x.dead else x) ∧ x.retZ hd Z D = Z.save D (x.dead.row hd) ∧ x.retD hd Z D = Z.saveD D (x.dead.row hd) := by
  have hn : ¬ x.gone = true := by rw [hg]; simp
  have e1 : x.retC hd Z D = Z.saveC D (x.dead.row hd) := by unfold Cn.retC; rw [if_neg hn]
  exact ⟨e1, by unfold Cn.ret; rw [e1], by unfold Cn.retZ; rw [if_neg hn], by unfold Cn.retD; rw [if_neg hn]⟩
set_option maxHeartbeats 16000000 in
theorem lretire_any (M : DC) (C : SlC M) (N : Nat) (w : World) (cc g s : Nat) (x : Cn) (h : List UInt8) (D : Dk) (Z : Sl) (F S R : Nat → Prop) (hk : ∀ X, Below w.heap.size w X → C.ok X) (t : Lz M C N w g s D Z F S) (r : Ki N w cc s x h R) (ap : ∀ b, R b → ¬ Or2 F S b) (ho : x.Ok h.length) (hc : D.cnt < 1099511627000) :
    Calls Tryz.prog 15 #[.pointer (some ⟨cc, 0, none⟩)] w fun e w' => e = .returned (.int .i64 (x.retC h Z D : Int)) ∧ PostK M C N w cc g s h F S R (x.ret h Z D) (x.retD h Z D) (x.retZ h Z D) w' := by
  have hcc := (r.lt cc r.at_)
  have hN : N ≤ w.heap.size := Nat.le_trans hcc.1 (Nat.le_of_lt hcc.2)
  obtain ⟨A, c, hb, hr⟩ := r.bk
  have hfit := ho.fit
  have hmf : x.dead.Fit := ⟨hfit.tot, hfit.bat, hfit.res, hfit.nxt⟩
  have SAME := Lib.hid (show ∀ X, Below w.heap.size w X → PostK M C N w cc g s h F S R x D Z X from fun X hX => PostK.grow t r ap hX)
  have BS := Lib.hid (show ∀ X, Below w.heap.size w X → Calls Tryz.prog 41 #[.pointer (some ⟨cc, 0, none⟩), .agg x.cells] X fun e w' => e = .returned (.int .i64 0) ∧ Below X.heap.size X w' from fun X hX => lbecome_same N X cc s x h R (r.grow hX))
  have BM := Lib.hid (show x.dead ≠ x → ∀ X, Below w.heap.size w X → Calls Tryz.prog 41 #[.pointer (some ⟨cc, 0, none⟩), .agg x.dead.cells] X fun e w' => e = .returned (.int .i64 (Z.saveC D (x.dead.row h) : Int)) ∧ PostK M C N w cc g s h F S R (if Z.saveC D (x.dead.row h) = 0 then x.dead else x) (Z.saveD D (x.dead.row h)) (Z.save D (x.dead.row h)) w' from fun hne X hX => (lbecome_save M C N X cc g s x x.dead h D Z F S R (fun Y hY => hk Y (hX.trans (hY.mono hX.size))) (t.grow hX) (r.grow hX) ap hmf hne hc).mono fun e w' ⟨F', S', h1, h2, h3, h4, h5, h6⟩ => ⟨h1, PostK.from hX ⟨F', S', h2, h3, h4, h5, h6⟩ hN⟩)
  have TG := fun hg => ret_gone h Z D (x := x) hg
  have TN := fun hg => ret_not h Z D (x := x) hg
  obtain ⟨vc, hvc⟩ : ∃ v, v = x.retC h Z D := ⟨_, rfl⟩
  obtain ⟨vx, hvx⟩ : ∃ v, v = x.ret h Z D := ⟨_, rfl⟩
  obtain ⟨vz, hvz⟩ : ∃ v, v = x.retZ h Z D := ⟨_, rfl⟩
  obtain ⟨vd, hvd⟩ : ∃ v, v = x.retD h Z D := ⟨_, rfl⟩
  rw [← hvc, ← hvx, ← hvz, ← hvd] at TG TN ⊢
  obtain ⟨n, hn⟩ : ∃ n, n = h.length := ⟨_, rfl⟩
  rw [← hn] at hb hr
  obtain ⟨x0, x1, x2, x3, x4⟩ := x
  simp only at hb TG TN
  replace BS := Lib.hid (show ∀ X, Below w.heap.size w X → Calls Tryz.prog 41 #[.pointer (some ⟨cc, 0, none⟩), .agg #[.int .u64 (x0 : Int), .int .u64 (x1 : Int), .int .u64 (x2 : Int), .int .u64 (x3 : Int), .bool x4]] X fun e w' => e = .returned (.int .i64 0) ∧ Below X.heap.size X w' from BS.out)
  obtain ⟨sc, hsc⟩ : ∃ v, v = Z.saveC D (Cn.row ⟨x0, x1, x2, x3, true⟩ h) := ⟨_, rfl⟩
  replace BM := Lib.hid (show (⟨x0, x1, x2, x3, true⟩ : Cn) ≠ ⟨x0, x1, x2, x3, x4⟩ → ∀ X, Below w.heap.size w X → Calls Tryz.prog 41 #[.pointer (some ⟨cc, 0, none⟩), .agg #[.int .u64 (x0 : Int), .int .u64 (x1 : Int), .int .u64 (x2 : Int), .int .u64 (x3 : Int), .bool true]] X fun e w' => e = .returned (.int .i64 (sc : Int)) ∧ PostK M C N w cc g s h F S R (if sc = 0 then ⟨x0, x1, x2, x3, true⟩ else ⟨x0, x1, x2, x3, x4⟩) (Z.saveD D (Cn.row ⟨x0, x1, x2, x3, true⟩ h)) (Z.save D (Cn.row ⟨x0, x1, x2, x3, true⟩ h)) w' from by rw [hsc]; exact BM.out)
  have HSC := Lib.hid hsc
  have c0 := hb.cell 0
  have c1 := hb.cell 1
  have c2 := hb.cell 2
  have c3 := hb.cell 3
  have c4 := hb.cell 4
  simp only [List.getElem?_toArray, List.getElem?_cons_zero, List.getElem?_cons_succ] at c0 c1 c2 c3 c4
  obtain ⟨pa, hpa⟩ : ∃ g, w.heap.size = g := ⟨_, rfl⟩
  have HPA := Lib.hid hpa
  clear t r ap hk hc ho hb hr hvc hvx hvz hvd hn hcc hpa hsc hfit hmf
  go_enter Tryz.func15, Tryz.ntmps15
  go_upto_region 2 with (fail)
  obtain ⟨wa, hwa⟩ : ∃ wa, (w.alloc (.cells #[.int .u64 (x0 : Int), .int .u64 (x1 : Int), .int .u64 (x2 : Int), .int .u64 (x3 : Int), .bool x4] 46)) = wa := ⟨_, rfl⟩
  have TA := Lib.hid (show Bk wa pa 46 #[.int .u64 (x0 : Int), .int .u64 (x1 : Int), .int .u64 (x2 : Int), .int .u64 (x3 : Int), .bool x4] by rw [← hwa]; exact Bk.newAt _ _ _ _ HPA.out)
  have BA := Lib.hid (show Below w.heap.size w wa by rw [← hwa]; exact (Below.refl _ _).alloc (Nat.le_refl _) _)
  rw [hwa, HPA.out]
  clear hwa c0 c1 c2 c3 c4
  have k4 := TA.out.cell 4
  have f4 := TA.out.frozen 4
  simp only [List.getElem?_toArray, List.getElem?_cons_zero, List.getElem?_cons_succ] at k4
  go_upto_region 3 with (fail)
  have T2 := Lib.hid (TA.out.put 4 (.bool true))
  have B2 := Lib.hid (show Below w.heap.size w (wa.setCell ⟨pa, 4, none⟩ (.bool true)) from BA.out.setCell (Nat.le_of_eq HPA.out) _)
  obtain ⟨wb, hwb⟩ : ∃ wb, wa.setCell ⟨pa, 4, none⟩ (.bool true) = wb := ⟨_, rfl⟩
  rw [hwb] at T2 B2
  rw [hwb]
  clear hwb k4 f4 TA BA
  have k0 : wb.cell? ⟨pa, 0, none⟩ = some (.int .u64 (x0 : Int)) := T2.out.cell 0
  have k1 : wb.cell? ⟨pa, 1, none⟩ = some (.int .u64 (x1 : Int)) := T2.out.cell 1
  have k2 : wb.cell? ⟨pa, 2, none⟩ = some (.int .u64 (x2 : Int)) := T2.out.cell 2
  have k3 : wb.cell? ⟨pa, 3, none⟩ = some (.int .u64 (x3 : Int)) := T2.out.cell 3
  have k4 : wb.cell? ⟨pa, 4, none⟩ = some (.bool true) := T2.out.cell 4
  cases x4
  · obtain ⟨e1, e2, e3, e4⟩ := TN rfl
    have HX := Lib.hid (show vc = sc ∧ vx = (if sc = 0 then ⟨x0, x1, x2, x3, true⟩ else ⟨x0, x1, x2, x3, false⟩) ∧ vz = Z.save D (Cn.row ⟨x0, x1, x2, x3, true⟩ h) ∧ vd = Z.saveD D (Cn.row ⟨x0, x1, x2, x3, true⟩ h) from by rw [HSC.out]; exact ⟨e1, e2, e3, e4⟩)
    have BM' := Lib.hid (BM.out (fun e => by have := congrArg Cn.gone e; cases this))
    clear TG TN e1 e2 e3 e4 BM
    go_wp2_with (go_at_call 41; ((with_reducible refine (BM'.out wb B2.out).mono ?_); rintro e w5 ⟨rfl, p5⟩; have P5 := Lib.hid p5; clear p5))
    go_ret
    rw [HX.out.1, HX.out.2.1, HX.out.2.2.1, HX.out.2.2.2]
    exact ⟨rfl, P5.out⟩
  · obtain ⟨e1, e2, e3, e4⟩ := TG rfl
    have HX := Lib.hid (show vc = 0 ∧ vx = ⟨x0, x1, x2, x3, true⟩ ∧ vz = Z ∧ vd = D from ⟨e1, e2, e3, e4⟩)
    clear TG TN e1 e2 e3 e4 BM
    go_wp2_with (go_at_call 41; ((with_reducible refine (BS.out wb B2.out).mono ?_); rintro e w5 ⟨rfl, b5⟩; have P5 := Lib.hid (SAME.out w5 (B2.out.trans (b5.mono B2.out.size))); clear b5))
    go_ret
    rw [HX.out.1, HX.out.2.1, HX.out.2.2.1, HX.out.2.2.2]
    exact ⟨rfl, P5.out⟩
end Go.Proofs.YtnoflgkjdibblaaGreatDoor.S21

/-
  Sectors and pending writes as cells, one behind the other, in plain words. No statement is proved here.
-/
namespace Go.Proofs.YtnoflgkjdibblaaGreatDoor.S19
set_option linter.unusedSimpArgs false
set_option linter.unusedVariables false
open Go.RowKit

/-- The cells of rows, one behind the other. -/
def rowsV (s : List (List UInt8)) : List Value := s.flatMap bv
/-- The cells of what is pending. -/
def pendV (p : List (Nat × List UInt8)) : List Value := p.flatMap fun q => Value.int .i64 (q.1 : Int) :: bv q.2
theorem flat_len {α : Type} (f : α → List Value) (n : Nat) : ∀ (s : List α), (∀ b ∈ s, (f b).length = n) → (s.flatMap f).length = n * s.length
  | [], _ => by simp
  | b :: s, h => by
    rw [List.flatMap_cons, List.length_append, h b (by simp), flat_len f n s fun c hc => h c (by simp [hc]), List.length_cons, Nat.mul_succ]; omega
theorem rowsV_len {s : List (List UInt8)} (h : ∀ b ∈ s, b.length = 64) : (rowsV s).length = 64 * s.length := flat_len bv 64 s fun b hb => by rw [bv_length]; exact h b hb
theorem pendV_len {p : List (Nat × List UInt8)} (h : ∀ q ∈ p, q.2.length = 64) : (pendV p).length = 65 * p.length := flat_len _ 65 p fun q hq => by rw [List.length_cons, bv_length, h q hq]
theorem rowsV_append (s t : List (List UInt8)) : rowsV (s ++ t) = rowsV s ++ rowsV t := by simp [rowsV]
theorem pendV_snoc (p : List (Nat × List UInt8)) (i : Nat) (b : List UInt8) : pendV (p ++ [(i, b)]) = pendV p ++ (Value.int .i64 (i : Int) :: bv b) := by simp [pendV]
theorem rowsV_split {s : List (List UInt8)} {i : Nat} (h : i < s.length) : rowsV s = rowsV (s.take i) ++ bv (s.getD i []) ++ rowsV (s.drop (i + 1)) := by
  have e : s = s.take i ++ [s.getD i []] ++ s.drop (i + 1) := by
    rw [List.getD_eq_getElem?_getD, List.getElem?_eq_getElem h]
    simp
  conv => lhs; rw [e]
  rw [rowsV_append, rowsV_append]
  simp [rowsV]
theorem rowsV_set {s : List (List UInt8)} {i : Nat} (h : i < s.length) (b : List UInt8) : rowsV (s.set i b) = rowsV (s.take i) ++ bv b ++ rowsV (s.drop (i + 1)) := by
  have h' : i < (s.set i b).length := by simpa using h
  have e1 : (s.set i b).take i = s.take i := by rw [List.take_set_of_le (Nat.le_refl i)]
  have e2 : (s.set i b).getD i [] = b := by rw [List.getD_eq_getElem?_getD, List.getElem?_set_self h]; rfl
  have e3 : (s.set i b).drop (i + 1) = s.drop (i + 1) := by rw [List.drop_set_of_lt (by omega)]
  rw [rowsV_split h', e1, e2, e3]
theorem take_rows {s : List (List UInt8)} (h : ∀ b ∈ s, b.length = 64) (i : Nat) (hi : i ≤ s.length) : (rowsV (s.take i)).length = 64 * i := by
  rw [rowsV_len fun b hb => h b (List.mem_of_mem_take hb), List.length_take, Nat.min_eq_left hi]
theorem pend_split {p : List (Nat × List UInt8)} {i : Nat} (h : i < p.length) : pendV p = pendV (p.take i) ++ (Value.int .i64 (p[i].1 : Int) :: bv p[i].2) ++ pendV (p.drop (i + 1)) := by
  have e : p = p.take i ++ [p[i]] ++ p.drop (i + 1) := by simp
  have h3 : ∀ a b c : List (Nat × List UInt8), pendV (a ++ b ++ c) = pendV a ++ pendV b ++ pendV c := by intro a b c; simp [pendV]
  conv => lhs; rw [e]
  rw [h3]
  simp [pendV]
theorem take_pend {p : List (Nat × List UInt8)} (h : ∀ q ∈ p, q.2.length = 64) (i : Nat) (hi : i ≤ p.length) : (pendV (p.take i)).length = 65 * i := by
  rw [pendV_len fun q hq => h q (List.mem_of_mem_take hq), List.length_take, Nat.min_eq_left hi]
theorem getD_mem {s : List (List UInt8)} {i : Nat} (h : i < s.length) : s.getD i [] ∈ s := by
  rw [List.getD_eq_getElem?_getD, List.getElem?_eq_getElem h]
  exact List.getElem_mem h
/-- The cells of a sector, where it lies. -/
theorem rowsV_at {s : List (List UInt8)} (h : ∀ b ∈ s, b.length = 64) {i j : Nat} (hi : i < s.length) (hj : j < 64) : (rowsV s)[64 * i + j]? = some (.int .u8 (((s.getD i []).getD j 0).toNat : Int)) := by
  have hl := take_rows h i (Nat.le_of_lt hi)
  have hb := h _ (getD_mem hi)
  rw [rowsV_split hi, List.append_assoc, List.getElem?_append_right (by omega), hl, Nat.add_sub_cancel_left]
  generalize s.getD i [] = x at hb ⊢
  rw [List.getElem?_append_left (by rw [bv_length]; omega), bv_at _ _ (by omega), List.getD_eq_getElem?_getD, List.getElem?_eq_getElem (show j < x.length by omega)]
  rfl
theorem rowsV_one (s : List (List UInt8)) : ∀ u ∈ rowsV s, u.oneCell' = true := by
  intro u hu
  obtain ⟨b, _, hb⟩ := List.mem_flatMap.1 hu
  exact bv_one b u hb
theorem pendV_one (p : List (Nat × List UInt8)) : ∀ u ∈ pendV p, u.oneCell' = true := by
  intro u hu
  obtain ⟨q, _, hq⟩ := List.mem_flatMap.1 hu
  rcases List.mem_cons.1 hq with rfl | hq
  · rfl
  · exact bv_one q.2 u hq
theorem rowsV_zero (k : Nat) : rowsV (List.replicate k (List.replicate 64 0)) = List.replicate (64 * k) (Value.int .u8 0) := by
  induction k with
  | zero => simp [rowsV]
  | succ k ih =>
    rw [List.replicate_succ, rowsV, List.flatMap_cons]
    have : (List.replicate k (List.replicate 64 (0 : UInt8))).flatMap bv = rowsV (List.replicate k (List.replicate 64 0)) := rfl
    rw [this, ih, Nat.mul_succ, Nat.add_comm, ← List.replicate_append_replicate]
    congr 1
/-- What was written is laid: one more. -/
theorem laid_sn1 : ∀ (p : List (Nat × List UInt8)) (s : List (List UInt8)) (i : Nat) (b : List UInt8), Dk.laid (p ++ [(i, b)]) s = (Dk.laid p s).set i b
  | [], s, i, b => rfl
  | q :: p, s, i, b => by rw [List.cons_append, Dk.laid, laid_sn1 p, Dk.laid]
end Go.Proofs.YtnoflgkjdibblaaGreatDoor.S19

/-
  The landed disk in memory: where it lies, and what abides. No statement is proved here.
-/
namespace Go.Proofs.YtnoflgkjdibblaaGreatDoor.S19
set_option linter.unusedSimpArgs false
set_option linter.unusedVariables false
set_option maxRecDepth 4096
open Go.RowKit

/-- The values that lie in the landed disk. -/
structure KnV where
  sb : Nat
  nb : Nat
  vP : Value
  fa : Option Addr
  fn : Nat
  fc : Nat
  zs : List Int
/-- Its cells. -/
abbrev knA (V : KnV) (k cnt : Nat) (st : Int) (off : Bool) : Array Value := #[.slice (some ⟨V.sb, 0, none⟩) k k, .slice (some ⟨V.nb, 0, none⟩) k k, V.vP, .int .i64 (cnt : Int), .slice V.fa V.fn V.fc, .int .i64 st, .bool off]
/-- All but the block of the disk itself. -/
structure In (N : Nat) (w : World) (g : Nat) (sure now : List (List UInt8)) (pend : List (Nat × List UInt8)) (fails : List Int) (F : Nat → Prop) (V : KnV) : Prop where
  sure : Bk w V.sb 105 (rowsV sure).toArray
  now : Bk w V.nb 105 (rowsV now).toArray
  pend : w.ownsRow N 107 65 V.vP pend.length (pendV pend)
  fl : RI w .i64 V.fa V.fn V.fc V.zs
  few : V.fn ≤ 1099511627776
  mem : ∀ z, z ∈ V.zs ↔ z ∈ fails
  srt : V.zs.Pairwise (· ≤ ·)
  fg : F g
  fs : F V.sb
  fnn : F V.nb
  fp : ∀ b, V.vP.ownBlock = some b → F b
  ff : ∀ a, 0 < V.fn → V.fa = some a → F a.block
  gN : ∀ b, F b → N ≤ b ∧ b < w.heap.size
  d1 : g ≠ V.sb
  d2 : g ≠ V.nb
  d3 : V.sb ≠ V.nb
  dP : ∀ b, V.vP.ownBlock = some b → b ≠ g ∧ b ≠ V.sb ∧ b ≠ V.nb
  dF : ∀ a, 0 < V.fn → V.fa = some a → a.block ≠ g ∧ a.block ≠ V.sb ∧ a.block ≠ V.nb ∧ V.vP.ownBlock ≠ some a.block
/-- The landed disk. -/
structure Kn (N : Nat) (w : World) (g : Nat) (D : Dk) (F : Nat → Prop) : Prop where
  ok : D.Ok
  ex : ∃ V, Bk w g 79 (knA V D.sure.length D.cnt D.stop D.off) ∧ In N w g D.sure (Dk.laid D.pend D.sure) D.pend D.fails F V
section
variable {N : Nat} {w w' : World} {g : Nat} {F F' : Nat → Prop} {V : KnV} {sure now : List (List UInt8)} {pend : List (Nat × List UInt8)} {fails : List Int} {D : Dk}
/-- What abides where the disk's blocks are as they were. -/
theorem In.keep (r : In N w g sure now pend fails F V) (hs : w.heap.size ≤ w'.heap.size) (hk : ∀ b, F b → b ≠ g → b < w.heap.size → w'.heap[b]? = w.heap[b]?) : In N w' g sure now pend fails F V :=
  ⟨(hk _ r.fs r.d1.symm r.sure.lt).trans r.sure, (hk _ r.fnn r.d2.symm r.now.lt).trans r.now, own_keepH r.pend fun b hb hlt => hk b (r.fp b hb) (r.dP b hb).1 hlt,
    r.fl.keep hs fun a h1 h2 h3 => hk _ (r.ff a h1 h2) (r.dF a h1 h2).1 h3, r.few, r.mem, r.srt, r.fg, r.fs, r.fnn, r.fp, r.ff, fun b hb => ⟨(r.gN b hb).1, Nat.lt_of_lt_of_le (r.gN b hb).2 hs⟩, r.d1, r.d2, r.d3, r.dP, r.dF⟩
theorem In.below (r : In N w g sure now pend fails F V) (hb : Below w.heap.size w w') : In N w' g sure now pend fails F V := r.keep hb.size fun b _ _ hlt => hb.block b hlt
/-- The disk's own block is written. -/
theorem In.poke (r : In N w g sure now pend fails F V) (i : Nat) (u : Value) : In N (w.setCell ⟨g, i, none⟩ u) g sure now pend fails F V :=
  r.keep (by simp) fun b _ hb _ => Below.heap_setCell w ⟨g, i, none⟩ u b hb
theorem In.drew (r : In N w g sure now pend fails F V) : In N w.drew g sure now pend fails F V := r.below (Below.refl _ _).drew
theorem In.gt (r : In N w g sure now pend fails F V) : g < w.heap.size := (r.gN g r.fg).2
theorem Kn.keep (t : Kn N w g D F) (hs : w.heap.size ≤ w'.heap.size) (hk : ∀ b, F b → b < w.heap.size → w'.heap[b]? = w.heap[b]?) : Kn N w' g D F := by
  obtain ⟨ok, V, hb, r⟩ := t
  exact ⟨ok, V, (hk g r.fg hb.lt).trans hb, r.keep hs fun b hF _ hlt => hk b hF hlt⟩
theorem Kn.below (t : Kn N w g D F) (hb : Below w.heap.size w w') : Kn N w' g D F := t.keep hb.size fun b _ hlt => hb.block b hlt
theorem Kn.lt (t : Kn N w g D F) : ∀ b, F b → N ≤ b ∧ b < w.heap.size := by
  obtain ⟨ok, V, hb, r⟩ := t
  exact r.gN
/-- What a poke of the disk's own block may touch. -/
theorem Mv.pokeK (hg : F g) (hN : N ≤ g) (i : Nat) (u : Value) : Mv N F w (w.setCell ⟨g, i, none⟩ u) :=
  ⟨(Below.refl _ _).setCell (show N ≤ (⟨g, i, none⟩ : Addr).block from hN) u, fun b _ hb => Below.heap_setCell w ⟨g, i, none⟩ u b fun e => hb (by rw [e]; exact hg)⟩
end
end Go.Proofs.YtnoflgkjdibblaaGreatDoor.S19

/-
  What the landed disk's small calls do: needPower, needSector, Stop, Count. No statement is proved here.
-/
namespace Go.Proofs.YtnoflgkjdibblaaGreatDoor.S19
set_option linter.unusedSimpArgs false
set_option linter.unusedVariables false
set_option maxRecDepth 4096
open Go.RowKit

theorem power_ok (g : Nat) (V : KnV) (k cnt : Nat) (st : Int) (w : World) (hb : Bk w g 79 (knA V k cnt st false)) :
    Calls Tryz.prog 89 #[.pointer (some ⟨g, 0, none⟩)] w fun e w' => e = .returned (.tuple #[]) ∧ w = w' := by
  have c6 : w.cell? ⟨g, 6, none⟩ = some (.bool false) := hb.cell 6
  have HN := Lib.hid (fun X => LV.need_yes 6 X)
  go_enter Tryz.func89, Tryz.ntmps89
  go_wp2_with (go_at_call 30; ((with_reducible refine (HN.out _).mono ?_); rintro e w1 ⟨rfl, rfl⟩))
  go_end0
  exact ⟨rfl, rfl⟩
theorem power_no (g : Nat) (V : KnV) (k cnt : Nat) (st : Int) (w : World) (hb : Bk w g 79 (knA V k cnt st true)) :
    Calls Tryz.prog 89 #[.pointer (some ⟨g, 0, none⟩)] w fun e w' => e = .panicked [LV.wrg 6] ∧ w = w' := by
  have c6 : w.cell? ⟨g, 6, none⟩ = some (.bool true) := hb.cell 6
  have HN := Lib.hid (fun X => LV.need_no 6 X)
  go_enter Tryz.func89, Tryz.ntmps89
  go_wp2_with (go_at_call 30; ((with_reducible refine (HN.out _).mono ?_); rintro e w1 ⟨rfl, rfl⟩))
  exact ⟨rfl, rfl, rfl⟩
theorem sector_ok (g : Nat) (V : KnV) (k cnt : Nat) (st : Int) (off : Bool) (i : Int) (h0 : 0 ≤ i) (h1 : i < (k : Int)) (w : World) (hb : Bk w g 79 (knA V k cnt st off)) :
    Calls Tryz.prog 108 #[.pointer (some ⟨g, 0, none⟩), .int .i64 i] w fun e w' => e = .returned (.tuple #[]) ∧ w = w' := by
  have c1 : w.cell? ⟨g, 1, none⟩ = some (.slice (some ⟨V.nb, 0, none⟩) k k) := hb.cell 1
  have HN := Lib.hid (fun X => LV.need_yes 1 X)
  go_enter Tryz.func108, Tryz.ntmps108
  go_wp2_with (go_at_call 30; ((with_reducible refine (HN.out _).mono ?_); rintro e w1 ⟨rfl, rfl⟩))
  go_end0
  exact ⟨rfl, rfl⟩
theorem sector_no (g : Nat) (V : KnV) (k cnt : Nat) (st : Int) (off : Bool) (i : Int) (hi : ¬ (0 ≤ i ∧ i < (k : Int))) (w : World) (hb : Bk w g 79 (knA V k cnt st off)) :
    Calls Tryz.prog 108 #[.pointer (some ⟨g, 0, none⟩), .int .i64 i] w fun e w' => e = .panicked [LV.wrg 1] ∧ w = w' := by
  have c1 : w.cell? ⟨g, 1, none⟩ = some (.slice (some ⟨V.nb, 0, none⟩) k k) := hb.cell 1
  have HN := Lib.hid (fun X => LV.need_no 1 X)
  by_cases h0 : 0 ≤ i
  · have h1 : ¬ i < (k : Int) := fun h => hi ⟨h0, h⟩
    clear hi
    go_enter Tryz.func108, Tryz.ntmps108
    go_wp2_with (go_at_call 30; ((with_reducible refine (HN.out _).mono ?_); rintro e w1 ⟨rfl, rfl⟩))
    exact ⟨rfl, rfl, rfl⟩
  · clear hi
    go_enter Tryz.func108, Tryz.ntmps108
    go_wp2_with (go_at_call 30; ((with_reducible refine (HN.out _).mono ?_); rintro e w1 ⟨rfl, rfl⟩))
    exact ⟨rfl, rfl, rfl⟩
theorem stopL (g : Nat) (V : KnV) (k cnt : Nat) (st : Int) (off : Bool) (w : World) (hb : Bk w g 79 (knA V k cnt st off)) :
    Calls Tryz.prog 18 #[.pointer (some ⟨g, 0, none⟩)] w fun e w' => e = .returned (.tuple #[]) ∧ w' = w.setCell ⟨g, 6, none⟩ (.bool true) := by
  have c6 : w.cell? ⟨g, 6, none⟩ = some (.bool off) := hb.cell 6
  have f6 := hb.frozen 6
  go_enter Tryz.func18, Tryz.ntmps18
  go_wp2
  go_end0
  exact ⟨rfl, rfl⟩
theorem stop_any (N : Nat) (w : World) (g : Nat) (D : Dk) (F : Nat → Prop) (t : Kn N w g D F) : Calls Tryz.prog 18 #[.pointer (some ⟨g, 0, none⟩)] w (Post Kn N F g w D.halt (.tuple #[])) := by
  obtain ⟨ok, V, hb, r⟩ := t
  refine (stopL g V _ _ _ _ w hb).mono ?_
  rintro e w' ⟨rfl, rfl⟩
  exact ⟨rfl, F, ⟨Dk.halt_ok ok, V, hb.put 6 (.bool true), r.poke 6 _⟩, fun b h => .inl h, Mv.pokeK r.fg (r.gN g r.fg).1 6 _⟩
theorem own_slice {w : World} {B e sz n : Nat} {v : Value} {xs : List Value} (h : w.ownsRow B e sz v n xs) : ∃ A c, v = .slice A n c := by
  rcases h.2 with ⟨rfl, rfl⟩ | ⟨g, cap, cur, rfl, _⟩
  · exact ⟨none, 0, rfl⟩
  · exact ⟨_, cap, rfl⟩
end Go.Proofs.YtnoflgkjdibblaaGreatDoor.S19

/-
  What the deferred calls of the landed disk do, and how the calls that defer them end. No statement is proved here.
-/
namespace Go.Proofs.YtnoflgkjdibblaaGreatDoor.S19
set_option linter.unusedSimpArgs false
set_option linter.unusedVariables false
set_option maxRecDepth 4096
open Go.RowKit

theorem load_codeD (g : Nat) (n : Int) (w : World) (h : w.cell? ⟨g, 0, none⟩ = some (.int .i64 n)) : (loadVar 29 ⟨g, 0, none⟩).run Tryz.prog w = .ok (.int .i64 n) w := by
  go_simp
theorem results_one_cell {fn : Func} {q : Tmp} (h : fn.results = #[.cell q 29]) (tmps : Array Value) (w : World) (g' : Nat) (n : Int)
    (hq : tmps.getD q undef = .pointer (some ⟨g', 0, none⟩)) (hc : w.cell? ⟨g', 0, none⟩ = some (.int .i64 n)) : (results fn tmps).run Tryz.prog w = .ok (.int .i64 n) w := by
  have hq' : tmps[q]?.getD undef = .pointer (some ⟨g', 0, none⟩) := by simpa using hq
  simp [results, h, hq', asAddr, load_codeD g' n w hc]
theorem results_tmp_cell {fn : Func} {p q : Tmp} (h : fn.results = #[.tmp p, .cell q 29]) (tmps : Array Value) (w : World) (g' : Nat) (n : Int) (v : Value)
    (hp : tmps.getD p undef = v) (hq : tmps.getD q undef = .pointer (some ⟨g', 0, none⟩)) (hc : w.cell? ⟨g', 0, none⟩ = some (.int .i64 n)) : (results fn tmps).run Tryz.prog w = .ok (.tuple #[v, .int .i64 n]) w := by
  have hp' : tmps[p]?.getD undef = v := by simpa using hp
  have hq' : tmps[q]?.getD undef = .pointer (some ⟨g', 0, none⟩) := by simpa using hq
  simp [results, h, hp', hq', asAddr, load_codeD g' n w hc]
theorem dnew1_idle (q : Nat) (y : Int) (w : World) (hq : Bk w q 29 #[.int .i64 y]) :
    CallsD Tryz.prog 28 #[.pointer (some ⟨q, 0, none⟩)] .returning w fun e u' w' => e = .returned (.tuple #[]) ∧ u' = .returning ∧ w' = w.setCell ⟨q, 0, none⟩ (.int .i64 0) := by
  have c1 := cell_of_one hq
  have f1 := free_of_one hq
  refine callsD_of_wpS Tryz.func28 rfl fun c₀ cs hu => ?_
  apply wpS_region
  simp [wpOpsS, go_sem, recoverD, hu, LV.wrg, Tryz.ntmps28, Exit.thenS, Array.replicate, List.replicate]
  refine (LV.told_nil w).mono ?_
  rintro e w' ⟨rfl, rfl⟩
  simp [go_sem, c1, f1, Oper.upon, bodyPostS, results, Tryz.results28]
  cases c₀
  cases hu
  rfl
theorem dnew1_caught (q : Nat) (y k : Int) (older : List PanicEntry) (w : World) (hq : Bk w q 29 #[.int .i64 y]) :
    CallsD Tryz.prog 28 #[.pointer (some ⟨q, 0, none⟩)] (.panicking (LV.wrg k :: older)) w fun e u' w' =>
      e = .returned (.tuple #[]) ∧ u' = .panicking ({ v := .iface 114 (.agg #[.int .i64 k]), recovered := true } :: older) ∧ ∃ w1, Below w.heap.size w w1 ∧ w' = w1.setCell ⟨q, 0, none⟩ (.int .i64 k) := by
  have c1 := cell_of_one hq
  have f1 := free_of_one hq
  refine callsD_of_wpS Tryz.func28 rfl fun c₀ cs hu => ?_
  apply wpS_region
  simp [wpOpsS, go_sem, recoverD, hu, LV.wrg, Tryz.ntmps28, Exit.thenS, Array.replicate, List.replicate]
  refine (LV.told_wrong k w).mono ?_
  rintro e w' ⟨rfl, hb⟩
  have c2 := cell_of_one (hq.below hb hq.lt)
  have f2 := free_of_one (hq.below hb hq.lt)
  simp [go_sem, c2, f2, Oper.upon, bodyPostS, results, Tryz.results28]
  exact ⟨w', hb, rfl⟩
theorem dnew_ret {Q : Ending → World → Prop} {w' : World} {g3 : Nat} {y : Int} {tmps : Array Value} {v : Value} (hv : tmps.getD 2 undef = v) (h3 : Bk w' g3 29 #[.int .i64 y]) (k3 : tmps.getD 3 undef = .pointer (some ⟨g3, 0, none⟩))
    (post : Q (.returned (.tuple #[v, .int .i64 0])) (w'.setCell ⟨g3, 0, none⟩ (.int .i64 0))) :
    bodyPostD Tryz.prog Tryz.f6 Q Exit.ret { tmps := tmps, defers := [{ target := Target.fn (Fn.func 28) #[.pointer (some ⟨g3, 0, none⟩)], args := #[] }] } w' := by
  refine leaves_cons (f := 28) (args := #[.pointer (some ⟨g3, 0, none⟩)]) (by simp) (by simp [go_sem]) ?_
  refine (dnew1_idle g3 y w' h3).mono ?_
  rintro e1 u' w'' ⟨rfl, rfl, rfl⟩
  have hr := results_tmp_cell (fn := Tryz.f6) rfl tmps (w'.setCell ⟨g3, 0, none⟩ (.int .i64 0)) g3 0 v hv k3 (cell_of_one (h3.put 0 _))
  simp [Leaves, settle, hr]
  exact post
theorem dnew_bad {Q : Ending → World → Prop} {w' : World} {g3 : Nat} {y k : Int} {tmps : Array Value} {v : Value} (hv : tmps.getD 2 undef = v) (h3 : Bk w' g3 29 #[.int .i64 y]) (k3 : tmps.getD 3 undef = .pointer (some ⟨g3, 0, none⟩))
    (post : ∀ w1, Below w'.heap.size w' w1 → Q (.returned (.tuple #[v, .int .i64 k])) (w1.setCell ⟨g3, 0, none⟩ (.int .i64 k))) :
    bodyPostD Tryz.prog Tryz.f6 Q (Exit.panic [LV.wrg k]) { tmps := tmps, defers := [{ target := Target.fn (Fn.func 28) #[.pointer (some ⟨g3, 0, none⟩)], args := #[] }] } w' := by
  refine leaves_cons (f := 28) (args := #[.pointer (some ⟨g3, 0, none⟩)]) (by simp) (by simp [go_sem]) ?_
  refine (dnew1_caught g3 y k [] w' h3).mono ?_
  rintro e1 u' w'' ⟨rfl, rfl, w1, hb1, rfl⟩
  have h3' := h3.below hb1 h3.lt
  have hr := results_tmp_cell (fn := Tryz.f6) rfl tmps (w1.setCell ⟨g3, 0, none⟩ (.int .i64 k)) g3 k v hv k3 (cell_of_one (h3'.put 0 _))
  simp [Leaves, settle, hr]
  exact post w1 hb1
theorem dread1_idle (q : Nat) (y : Int) (w : World) (hq : Bk w q 29 #[.int .i64 y]) :
    CallsD Tryz.prog 107 #[.pointer (some ⟨q, 0, none⟩)] .returning w fun e u' w' => e = .returned (.tuple #[]) ∧ u' = .returning ∧ w' = w.setCell ⟨q, 0, none⟩ (.int .i64 0) := by
  have c1 := cell_of_one hq
  have f1 := free_of_one hq
  refine callsD_of_wpS Tryz.func107 rfl fun c₀ cs hu => ?_
  apply wpS_region
  simp [wpOpsS, go_sem, recoverD, hu, LV.wrg, Tryz.ntmps107, Exit.thenS, Array.replicate, List.replicate]
  refine (LV.told_nil w).mono ?_
  rintro e w' ⟨rfl, rfl⟩
  simp [go_sem, c1, f1, Oper.upon, bodyPostS, results, Tryz.results107]
  cases c₀
  cases hu
  rfl
theorem dread1_caught (q : Nat) (y k : Int) (older : List PanicEntry) (w : World) (hq : Bk w q 29 #[.int .i64 y]) :
    CallsD Tryz.prog 107 #[.pointer (some ⟨q, 0, none⟩)] (.panicking (LV.wrg k :: older)) w fun e u' w' =>
      e = .returned (.tuple #[]) ∧ u' = .panicking ({ v := .iface 114 (.agg #[.int .i64 k]), recovered := true } :: older) ∧ ∃ w1, Below w.heap.size w w1 ∧ w' = w1.setCell ⟨q, 0, none⟩ (.int .i64 k) := by
  have c1 := cell_of_one hq
  have f1 := free_of_one hq
  refine callsD_of_wpS Tryz.func107 rfl fun c₀ cs hu => ?_
  apply wpS_region
  simp [wpOpsS, go_sem, recoverD, hu, LV.wrg, Tryz.ntmps107, Exit.thenS, Array.replicate, List.replicate]
  refine (LV.told_wrong k w).mono ?_
  rintro e w' ⟨rfl, hb⟩
  have c2 := cell_of_one (hq.below hb hq.lt)
  have f2 := free_of_one (hq.below hb hq.lt)
  simp [go_sem, c2, f2, Oper.upon, bodyPostS, results, Tryz.results107]
  exact ⟨w', hb, rfl⟩
theorem dread_ret {Q : Ending → World → Prop} {w' : World} {g3 : Nat} {y : Int} {tmps : Array Value} {v : Value} (hv : tmps.getD 4 undef = v) (h3 : Bk w' g3 29 #[.int .i64 y]) (k3 : tmps.getD 5 undef = .pointer (some ⟨g3, 0, none⟩))
    (post : Q (.returned (.tuple #[v, .int .i64 0])) (w'.setCell ⟨g3, 0, none⟩ (.int .i64 0))) :
    bodyPostD Tryz.prog Tryz.f81 Q Exit.ret { tmps := tmps, defers := [{ target := Target.fn (Fn.func 107) #[.pointer (some ⟨g3, 0, none⟩)], args := #[] }] } w' := by
  refine leaves_cons (f := 107) (args := #[.pointer (some ⟨g3, 0, none⟩)]) (by simp) (by simp [go_sem]) ?_
  refine (dread1_idle g3 y w' h3).mono ?_
  rintro e1 u' w'' ⟨rfl, rfl, rfl⟩
  have hr := results_tmp_cell (fn := Tryz.f81) rfl tmps (w'.setCell ⟨g3, 0, none⟩ (.int .i64 0)) g3 0 v hv k3 (cell_of_one (h3.put 0 _))
  simp [Leaves, settle, hr]
  exact post
theorem dread_bad {Q : Ending → World → Prop} {w' : World} {g3 : Nat} {y k : Int} {tmps : Array Value} {v : Value} (hv : tmps.getD 4 undef = v) (h3 : Bk w' g3 29 #[.int .i64 y]) (k3 : tmps.getD 5 undef = .pointer (some ⟨g3, 0, none⟩))
    (post : ∀ w1, Below w'.heap.size w' w1 → Q (.returned (.tuple #[v, .int .i64 k])) (w1.setCell ⟨g3, 0, none⟩ (.int .i64 k))) :
    bodyPostD Tryz.prog Tryz.f81 Q (Exit.panic [LV.wrg k]) { tmps := tmps, defers := [{ target := Target.fn (Fn.func 107) #[.pointer (some ⟨g3, 0, none⟩)], args := #[] }] } w' := by
  refine leaves_cons (f := 107) (args := #[.pointer (some ⟨g3, 0, none⟩)]) (by simp) (by simp [go_sem]) ?_
  refine (dread1_caught g3 y k [] w' h3).mono ?_
  rintro e1 u' w'' ⟨rfl, rfl, w1, hb1, rfl⟩
  have h3' := h3.below hb1 h3.lt
  have hr := results_tmp_cell (fn := Tryz.f81) rfl tmps (w1.setCell ⟨g3, 0, none⟩ (.int .i64 k)) g3 k v hv k3 (cell_of_one (h3'.put 0 _))
  simp [Leaves, settle, hr]
  exact post w1 hb1
theorem dwrite1_idle (q : Nat) (y : Int) (w : World) (hq : Bk w q 29 #[.int .i64 y]) :
    CallsD Tryz.prog 110 #[.pointer (some ⟨q, 0, none⟩)] .returning w fun e u' w' => e = .returned (.tuple #[]) ∧ u' = .returning ∧ w' = w.setCell ⟨q, 0, none⟩ (.int .i64 0) := by
  have c1 := cell_of_one hq
  have f1 := free_of_one hq
  refine callsD_of_wpS Tryz.func110 rfl fun c₀ cs hu => ?_
  apply wpS_region
  simp [wpOpsS, go_sem, recoverD, hu, LV.wrg, Tryz.ntmps110, Exit.thenS, Array.replicate, List.replicate]
  refine (LV.told_nil w).mono ?_
  rintro e w' ⟨rfl, rfl⟩
  simp [go_sem, c1, f1, Oper.upon, bodyPostS, results, Tryz.results110]
  cases c₀
  cases hu
  rfl
theorem dwrite1_caught (q : Nat) (y k : Int) (older : List PanicEntry) (w : World) (hq : Bk w q 29 #[.int .i64 y]) :
    CallsD Tryz.prog 110 #[.pointer (some ⟨q, 0, none⟩)] (.panicking (LV.wrg k :: older)) w fun e u' w' =>
      e = .returned (.tuple #[]) ∧ u' = .panicking ({ v := .iface 114 (.agg #[.int .i64 k]), recovered := true } :: older) ∧ ∃ w1, Below w.heap.size w w1 ∧ w' = w1.setCell ⟨q, 0, none⟩ (.int .i64 k) := by
  have c1 := cell_of_one hq
  have f1 := free_of_one hq
  refine callsD_of_wpS Tryz.func110 rfl fun c₀ cs hu => ?_
  apply wpS_region
  simp [wpOpsS, go_sem, recoverD, hu, LV.wrg, Tryz.ntmps110, Exit.thenS, Array.replicate, List.replicate]
  refine (LV.told_wrong k w).mono ?_
  rintro e w' ⟨rfl, hb⟩
  have c2 := cell_of_one (hq.below hb hq.lt)
  have f2 := free_of_one (hq.below hb hq.lt)
  simp [go_sem, c2, f2, Oper.upon, bodyPostS, results, Tryz.results110]
  exact ⟨w', hb, rfl⟩
theorem dwrite_ret {Q : Ending → World → Prop} {w' : World} {g3 : Nat} {y : Int} {tmps : Array Value} (h3 : Bk w' g3 29 #[.int .i64 y]) (k3 : tmps.getD 6 undef = .pointer (some ⟨g3, 0, none⟩))
    (post : Q (.returned (.int .i64 0)) (w'.setCell ⟨g3, 0, none⟩ (.int .i64 0))) :
    bodyPostD Tryz.prog Tryz.f85 Q Exit.ret { tmps := tmps, defers := [{ target := Target.fn (Fn.func 110) #[.pointer (some ⟨g3, 0, none⟩)], args := #[] }] } w' := by
  refine leaves_cons (f := 110) (args := #[.pointer (some ⟨g3, 0, none⟩)]) (by simp) (by simp [go_sem]) ?_
  refine (dwrite1_idle g3 y w' h3).mono ?_
  rintro e1 u' w'' ⟨rfl, rfl, rfl⟩
  have hr := results_one_cell (fn := Tryz.f85) rfl tmps (w'.setCell ⟨g3, 0, none⟩ (.int .i64 0)) g3 0 k3 (cell_of_one (h3.put 0 _))
  simp [Leaves, settle, hr]
  exact post
theorem dwrite_bad {Q : Ending → World → Prop} {w' : World} {g3 : Nat} {y k : Int} {tmps : Array Value} (h3 : Bk w' g3 29 #[.int .i64 y]) (k3 : tmps.getD 6 undef = .pointer (some ⟨g3, 0, none⟩))
    (post : ∀ w1, Below w'.heap.size w' w1 → Q (.returned (.int .i64 k)) (w1.setCell ⟨g3, 0, none⟩ (.int .i64 k))) :
    bodyPostD Tryz.prog Tryz.f85 Q (Exit.panic [LV.wrg k]) { tmps := tmps, defers := [{ target := Target.fn (Fn.func 110) #[.pointer (some ⟨g3, 0, none⟩)], args := #[] }] } w' := by
  refine leaves_cons (f := 110) (args := #[.pointer (some ⟨g3, 0, none⟩)]) (by simp) (by simp [go_sem]) ?_
  refine (dwrite1_caught g3 y k [] w' h3).mono ?_
  rintro e1 u' w'' ⟨rfl, rfl, w1, hb1, rfl⟩
  have h3' := h3.below hb1 h3.lt
  have hr := results_one_cell (fn := Tryz.f85) rfl tmps (w1.setCell ⟨g3, 0, none⟩ (.int .i64 k)) g3 k k3 (cell_of_one (h3'.put 0 _))
  simp [Leaves, settle, hr]
  exact post w1 hb1
theorem dflush1_idle (q : Nat) (y : Int) (w : World) (hq : Bk w q 29 #[.int .i64 y]) :
    CallsD Tryz.prog 88 #[.pointer (some ⟨q, 0, none⟩)] .returning w fun e u' w' => e = .returned (.tuple #[]) ∧ u' = .returning ∧ w' = w.setCell ⟨q, 0, none⟩ (.int .i64 0) := by
  have c1 := cell_of_one hq
  have f1 := free_of_one hq
  refine callsD_of_wpS Tryz.func88 rfl fun c₀ cs hu => ?_
  apply wpS_region
  simp [wpOpsS, go_sem, recoverD, hu, LV.wrg, Tryz.ntmps88, Exit.thenS, Array.replicate, List.replicate]
  refine (LV.told_nil w).mono ?_
  rintro e w' ⟨rfl, rfl⟩
  simp [go_sem, c1, f1, Oper.upon, bodyPostS, results, Tryz.results88]
  cases c₀
  cases hu
  rfl
theorem dflush1_caught (q : Nat) (y k : Int) (older : List PanicEntry) (w : World) (hq : Bk w q 29 #[.int .i64 y]) :
    CallsD Tryz.prog 88 #[.pointer (some ⟨q, 0, none⟩)] (.panicking (LV.wrg k :: older)) w fun e u' w' =>
      e = .returned (.tuple #[]) ∧ u' = .panicking ({ v := .iface 114 (.agg #[.int .i64 k]), recovered := true } :: older) ∧ ∃ w1, Below w.heap.size w w1 ∧ w' = w1.setCell ⟨q, 0, none⟩ (.int .i64 k) := by
  have c1 := cell_of_one hq
  have f1 := free_of_one hq
  refine callsD_of_wpS Tryz.func88 rfl fun c₀ cs hu => ?_
  apply wpS_region
  simp [wpOpsS, go_sem, recoverD, hu, LV.wrg, Tryz.ntmps88, Exit.thenS, Array.replicate, List.replicate]
  refine (LV.told_wrong k w).mono ?_
  rintro e w' ⟨rfl, hb⟩
  have c2 := cell_of_one (hq.below hb hq.lt)
  have f2 := free_of_one (hq.below hb hq.lt)
  simp [go_sem, c2, f2, Oper.upon, bodyPostS, results, Tryz.results88]
  exact ⟨w', hb, rfl⟩
theorem dflush_ret {Q : Ending → World → Prop} {w' : World} {g3 : Nat} {y : Int} {tmps : Array Value} (h3 : Bk w' g3 29 #[.int .i64 y]) (k3 : tmps.getD 2 undef = .pointer (some ⟨g3, 0, none⟩))
    (post : Q (.returned (.int .i64 0)) (w'.setCell ⟨g3, 0, none⟩ (.int .i64 0))) :
    bodyPostD Tryz.prog Tryz.f60 Q Exit.ret { tmps := tmps, defers := [{ target := Target.fn (Fn.func 88) #[.pointer (some ⟨g3, 0, none⟩)], args := #[] }] } w' := by
  refine leaves_cons (f := 88) (args := #[.pointer (some ⟨g3, 0, none⟩)]) (by simp) (by simp [go_sem]) ?_
  refine (dflush1_idle g3 y w' h3).mono ?_
  rintro e1 u' w'' ⟨rfl, rfl, rfl⟩
  have hr := results_one_cell (fn := Tryz.f60) rfl tmps (w'.setCell ⟨g3, 0, none⟩ (.int .i64 0)) g3 0 k3 (cell_of_one (h3.put 0 _))
  simp [Leaves, settle, hr]
  exact post
theorem dflush_bad {Q : Ending → World → Prop} {w' : World} {g3 : Nat} {y k : Int} {tmps : Array Value} (h3 : Bk w' g3 29 #[.int .i64 y]) (k3 : tmps.getD 2 undef = .pointer (some ⟨g3, 0, none⟩))
    (post : ∀ w1, Below w'.heap.size w' w1 → Q (.returned (.int .i64 k)) (w1.setCell ⟨g3, 0, none⟩ (.int .i64 k))) :
    bodyPostD Tryz.prog Tryz.f60 Q (Exit.panic [LV.wrg k]) { tmps := tmps, defers := [{ target := Target.fn (Fn.func 88) #[.pointer (some ⟨g3, 0, none⟩)], args := #[] }] } w' := by
  refine leaves_cons (f := 88) (args := #[.pointer (some ⟨g3, 0, none⟩)]) (by simp) (by simp [go_sem]) ?_
  refine (dflush1_caught g3 y k [] w' h3).mono ?_
  rintro e1 u' w'' ⟨rfl, rfl, w1, hb1, rfl⟩
  have h3' := h3.below hb1 h3.lt
  have hr := results_one_cell (fn := Tryz.f60) rfl tmps (w1.setCell ⟨g3, 0, none⟩ (.int .i64 k)) g3 k k3 (cell_of_one (h3'.put 0 _))
  simp [Leaves, settle, hr]
  exact post w1 hb1
end Go.Proofs.YtnoflgkjdibblaaGreatDoor.S19

/-
  The landed slots in memory: where they lie, and what abides. No statement is proved here.
-/
namespace Go.Proofs.YtnoflgkjdibblaaGreatDoor.S20
set_option linter.unusedSimpArgs false
set_option linter.unusedVariables false
set_option maxRecDepth 4096
open Go.RowKit S19

/-- What the landed slots hold. -/
abbrev skA (g : Nat) (Z : Sl) (A : Option Addr) (c : Nat) : Array Value := #[.pointer (some ⟨g, 0, none⟩), .int .i64 (Z.first : Int), .int .i64 (Z.n : Int), .int .u64 (Z.num : Int), .slice A Z.b.length c, .int .i64 (Z.goes : Int)]
/-- Where they lie. -/
structure Sz (N : Nat) (w : World) (s g : Nat) (Z : Sl) (S : Nat → Prop) : Prop where
  ex : ∃ A c, Bk w s 85 (skA g Z A c) ∧ Rd w A Z.b.length c Z.b ∧ ∀ a, 0 < Z.b.length → A = some a → S a.block ∧ a.block ≠ s
  at_ : S s
  lt : ∀ b, S b → N ≤ b ∧ b < w.heap.size
  few : Z.b.length ≤ 1000000
section
variable {N : Nat} {w w' : World} {s g : Nat} {Z : Sl} {S : Nat → Prop}
theorem Sz.keep (r : Sz N w s g Z S) (hs : w.heap.size ≤ w'.heap.size) (hk : ∀ b, S b → b < w.heap.size → w'.heap[b]? = w.heap[b]?) : Sz N w' s g Z S := by
  obtain ⟨A, c, h1, h2, h3⟩ := r.ex
  refine ⟨⟨A, c, (hk s r.at_ h1.lt).trans h1, ⟨h2.len, h2.cap, h2.max, h2.nil, fun hn => ?_⟩, h3⟩, r.at_, fun b hb => ⟨(r.lt b hb).1, Nat.lt_of_lt_of_le (r.lt b hb).2 hs⟩, r.few⟩
  obtain ⟨b, off, rfl, hl, hc⟩ := h2.at_ hn
  exact ⟨b, off, rfl, Nat.lt_of_lt_of_le hl hs, fun j hj => (World.cell?_of_block (a := ⟨b, off + j, none⟩) (hk b (h3 _ hn rfl).1 hl)).trans (hc j hj)⟩
theorem Sz.grow (r : Sz N w s g Z S) (hb : Below w.heap.size w w') : Sz N w' s g Z S := r.keep hb.size fun b _ hl => hb.block b hl
theorem Sz.sz (r : Sz N w s g Z S) : s < w.heap.size ∧ N ≤ s := ⟨(r.lt s r.at_).2, (r.lt s r.at_).1⟩
/-- The slots are as they were where a call has touched the disk's blocks alone. -/
theorem Sz.mv {F : Nat → Prop} (r : Sz N w s g Z S) (m : Mv N F w w') (hF : ∀ b, F b → ¬ S b) : Sz N w' s g Z S := r.keep m.size fun b hb hl => m.same b hl fun h => hF b h hb
/-- What a store in the slots' own block may touch. -/
theorem Sz.poke (r : Sz N w s g Z S) (i : Nat) (u : Value) : Mv N S w (w.setCell ⟨s, i, none⟩ u) :=
  ⟨(Below.refl _ _).setCell (show N ≤ (⟨s, i, none⟩ : Addr).block from r.sz.2) u, fun b _ hb => Below.heap_setCell w ⟨s, i, none⟩ u b fun e => hb (by rw [e]; exact r.at_)⟩
/-- What the slots hold, as cells. -/
theorem Sz.cells (r : Sz N w s g Z S) : w.cell? ⟨s, 0, none⟩ = some (.pointer (some ⟨g, 0, none⟩)) ∧ w.cell? ⟨s, 1, none⟩ = some (.int .i64 (Z.first : Int)) ∧ w.cell? ⟨s, 2, none⟩ = some (.int .i64 (Z.n : Int)) ∧ w.cell? ⟨s, 3, none⟩ = some (.int .u64 (Z.num : Int)) ∧ w.cell? ⟨s, 5, none⟩ = some (.int .i64 (Z.goes : Int)) := by
  obtain ⟨A, c, h1, _, _⟩ := r.ex
  exact ⟨h1.cell 0, h1.cell 1, h1.cell 2, h1.cell 3, h1.cell 5⟩
end
end Go.Proofs.YtnoflgkjdibblaaGreatDoor.S20
