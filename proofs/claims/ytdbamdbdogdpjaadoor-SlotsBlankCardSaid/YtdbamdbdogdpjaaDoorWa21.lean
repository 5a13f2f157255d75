/-
  Texts put together: DsB, DsC, DsD, DsE, DsF, Ds7, DkM, SkA. No statement is proved here.
-/
import Derived.Test.YtdbamdbdogdpjaaDoorWa20
import Derived.Test.YtdbamdbdogdpjaaDoorWa11
import Derived.Test.YtdbamdbdogdpjaaDoorWa16
import Derived.Test.YtdbamdbdogdpjaaDoorWa07
import Derived.Deep.RegionHeld3
import Derived.Test.YtdbamdbdogdpjaaDoorWa17
import Derived.Test.YtdbamdbdogdpjaaDoorWa18

/-
  What the landed Plan does. No statement is proved here.
-/
namespace Go.Proofs.YtdbamdbdogdpjaaDoor.S19
set_option linter.unusedSimpArgs false
set_option linter.unusedVariables false
set_option maxRecDepth 8192
open Go.RowKit

theorem In.planned {N : Nat} {w w7 : World} {g : Nat} {sure now : List (List UInt8)} {pend : List (Nat × List UInt8)} {fails fs : List Int} {F : Nat → Prop} {V : KnV} {A : Option Addr} {n c B : Nat} (r : In N w g sure now pend fails F V)
    (own : w7.ownsRow B 3 1 (.slice A n c) n (zv (sorted fs))) (hB : w.heap.size ≤ B) (hn : n ≤ 1099511627776) (hs : w.heap.size ≤ w7.heap.size) (hk : ∀ x, F x → x ≠ g → x < w.heap.size → w7.heap[x]? = w.heap[x]?) :
    In N w7 g sure now pend fs (fun x => F x ∨ (Value.slice A n c).ownBlock = some x) { V with fa := A, fn := n, fc := c, zs := sorted fs } := by
  have h := r.keep hs hk
  have hg := r.gN g r.fg
  have hlt : ∀ a, A = some a → w.heap.size ≤ a.block ∧ a.block < w7.heap.size := fun a e => by
    have := own.lt a.block (by rw [e]; rfl)
    omega
  refine ⟨h.sure, h.now, h.pend, RI.own own, hn, sorted_mem fs, sorted_srt fs, .inl r.fg, .inl r.fs, .inl r.fnn, fun x hx => .inl (r.fp x hx), fun a h1 h2 => .inr (by show (Value.slice A n c).ownBlock = _; have e : A = some a := h2; rw [e]; rfl), fun x hx => ?_, r.d1, r.d2, r.d3, r.dP, fun a h1 h2 => ?_⟩
  · rcases hx with hx | hx
    · exact h.gN x hx
    · have := own.lt x hx
      omega
  · have e : A = some a := h2
    have h3 := hlt a e
    have a2 := (r.gN _ r.fs).2
    have a3 := (r.gN _ r.fnn).2
    exact ⟨by omega, show a.block ≠ V.sb by omega, show a.block ≠ V.nb by omega, fun e => by have := (r.gN _ (r.fp _ e)).2; omega⟩
end Go.Proofs.YtdbamdbdogdpjaaDoor.S19

/-
  What the landed Sure does. No statement is proved here.
-/
namespace Go.Proofs.YtdbamdbdogdpjaaDoor.S19
set_option linter.unusedSimpArgs false
set_option linter.unusedVariables false
set_option maxRecDepth 8192
open Go.RowKit

theorem Tryd.infoBsK : (Tryd.prog.info? 36).map (fun i => (i.zero, i.size, i.bytes)) = some (some (.slice none 0 0), 1, 24) := by kernel_rfl
theorem run_make_rows (n : Nat) (hn : n ≤ 256) (w : World) : (Instr.makeSlice 35 (.int .i64 (n : Int)) (.int .i64 (n : Int))).run Tryd.prog w =
    .ok (.slice (some ⟨w.heap.size, 0, none⟩) n n) (w.alloc (.cells (List.replicate n (Value.slice none 0 0)).toArray 36)) := by
  obtain ⟨i0, hi, hz0, hz1, hz2⟩ := info_parts Tryd.infoBsK
  have hr := run_makeSlice (P := Tryd.prog) (w := w) 35 36 i0 _ Tryd.underlying35 hi hz0 .i64 .i64 (n : Int) (n : Int) (by omega) (Int.le_refl _) (by rw [hz1]; simp; omega) (by rw [hz2]; omega) (by omega)
  simp only [Int.toNat_natCast] at hr
  rw [hz1, Nat.mul_one] at hr
  have e : madeCells (Value.slice none 0 0).cells n = (List.replicate n (Value.slice none 0 0)).toArray := by
    apply Array.ext'
    rw [show (Value.slice none 0 0).cells = #[Value.slice none 0 0] from rfl, toList_madeCells_one]
  rw [e] at hr
  exact hr
/-- So many rows of what is sure are gathered. -/
structure Gs (w : World) (ob k i : Nat) (s : List (List UInt8)) (vs : List Value) (X : World) : Prop where
  bel : Below w.heap.size w X
  blk : Bk X ob 36 vs.toArray
  len : vs.length = k
  row : ∀ j, j < i → ∃ A c, vs[j]? = some (.slice A 64 c) ∧ Rd X A 64 c (s.getD j []) ∧ ∀ a, A = some a → w.heap.size ≤ a.block ∧ a.block ≠ ob
theorem Gs.step {w X X5 : World} {ob k i : Nat} {s : List (List UInt8)} {vs : List Value} (h : Gs w ob k i s vs X) (hi : i < k) (hob : w.heap.size ≤ ob) (hb : Below X.heap.size X X5) {A : Option Addr} {c : Nat} (hr : Rd X5 A 64 c (s.getD i [])) (ha : ∀ a, A = some a → X.heap.size ≤ a.block) :
    Gs w ob k (i + 1) s (vs.set i (.slice A 64 c)) (X5.setCell ⟨ob, i, none⟩ (.slice A 64 c)) := by
  have hol := h.blk.lt
  have hk : ∀ (B : Option Addr) (d : Nat) (xs : List UInt8), Rd X5 B 64 d xs → (∀ a, B = some a → a.block ≠ ob) → Rd (X5.setCell ⟨ob, i, none⟩ (.slice A 64 c)) B 64 d xs := fun B d xs hr hB => by
    refine ⟨hr.len, hr.cap, hr.max, hr.nil, fun hn => ?_⟩
    obtain ⟨b, off, rfl, hb, hc⟩ := hr.at_ hn
    exact ⟨b, off, rfl, by simpa using hb, fun j hj => (World.cell?_of_block (a := ⟨b, off + j, none⟩) (Below.heap_setCell X5 ⟨ob, i, none⟩ _ b (hB _ rfl))).trans (hc j hj)⟩
  refine ⟨(h.bel.trans (hb.mono h.bel.size)).setCell hob _, ?_, by simp [h.len], fun j hj => ?_⟩
  · have := (h.blk.below hb hol).put i (.slice A 64 c)
    simpa using this
  · rcases Nat.lt_or_ge j i with h1 | h1
    · obtain ⟨B, d, e1, e2, e3⟩ := h.row j h1
      refine ⟨B, d, by rw [List.getElem?_set_ne (by omega)]; exact e1, hk B d _ (e2.below hb) (fun a e => (e3 a e).2), e3⟩
    · obtain rfl : j = i := by omega
      exact ⟨A, c, by rw [List.getElem?_set_self (by rw [h.len]; exact hi)], hk A c _ hr (fun a e => by have := ha a e; omega), fun a e => by have := ha a e; have := h.bel.size; omega⟩
set_option maxHeartbeats 8000000 in
theorem sure_any (N : Nat) (w : World) (g : Nat) (D : Dk) (F : Nat → Prop) (t : Kn N w g D F) : Calls Tryd.prog 15 #[.pointer (some ⟨g, 0, none⟩)] w fun e w' =>
    ∃ A c F', e = .returned (.slice A D.sure.length c) ∧ Rs w' (fun b => w.heap.size ≤ b ∧ ¬ F' b) A D.sure.length c D.sure ∧ Kn N w' g D F' ∧ (∀ b, F' b → F b ∨ w.heap.size ≤ b) ∧ Mv N F w w' := by
  have T := Lib.hid t
  obtain ⟨ok, V, hb, r⟩ := t
  obtain ⟨k, hk⟩ : ∃ k, k = D.sure.length := ⟨_, rfl⟩
  have k256 : k ≤ 256 := by rw [hk]; exact ok.most
  have hmk := run_make_rows k k256
  rw [← hk] at hb
  have c0 : w.cell? ⟨g, 0, none⟩ = some (.slice (some ⟨V.sb, 0, none⟩) k k) := hb.cell 0
  have C0 := Lib.hid (show ∀ X, Below w.heap.size w X → X.cell? ⟨g, 0, none⟩ = some (.slice (some ⟨V.sb, 0, none⟩) k k) from fun X hX => (hb.below hX hb.lt).cell 0)
  have RS := Lib.hid (show ∀ X m, Below w.heap.size w X → m < k → Rd X (some ⟨V.sb, m * 64, none⟩) 64 64 (D.sure.getD m []) from fun X m hX hm => (rd_sector r.sure ok.rows (by omega) rfl).below hX)
  have GL := Lib.hid (r.gN g r.fg)
  have HK := Lib.hid hk
  have CL := Lib.hid (fun A n c xs X h h2 => clone_bs A n c xs X h h2)
  obtain ⟨ob, hob⟩ : ∃ ob, ob = w.heap.size := ⟨_, rfl⟩
  have HOB := Lib.hid hob
  have G0 := Lib.hid (show Gs w ob k 0 D.sure (List.replicate k (Value.slice none 0 0)) (w.alloc (.cells (List.replicate k (Value.slice none 0 0)).toArray 36)) from ⟨(Below.refl _ _).alloc (Nat.le_refl _) _, Bk.newAt _ _ _ _ hob.symm, by simp, fun j h => absurd h (by omega)⟩)
  have K256 := Lib.hid k256
  clear hb r ok hk k256
  generalize List.replicate k (Value.slice none 0 0) = Z at *
  go_enter Tryd.func15, Tryd.ntmps15
  go_upto_region 3 with (fail)
  go_loopw [13] (fun iv wr => ∃ (i : Nat) (vs : List Value), i ≤ k ∧ iv = .int .i64 (i : Int) ∧ Gs w ob k i D.sure vs wr)
    (fun iv _ => k - (intOf iv).toNat)
  case atStart => exact ⟨0, Z, Nat.zero_le _, rfl, G0.out⟩
  case round =>
    obtain ⟨i, vs, hik, rfl, hG⟩ := hrel
    have GR := Lib.hid hG
    have c1 : wr.cell? ⟨g, 0, none⟩ = some (.slice (some ⟨V.sb, 0, none⟩) k k) := C0.out wr hG.bel
    clear hG c0 hmk
    by_cases hlt : i < k
    · have t0 : (i : Int) < (k : Int) := by omega
      have HLT := Lib.hid hlt
      have e1 : wrap64 ((i : Int) + 1) = (i : Int) + 1 := by unfold wrap64; have := K256.out; omega
      obtain ⟨u5, hu5⟩ : ∃ u, vs.toArray[i]? = some u := ⟨vs[i]'(by rw [GR.out.len]; exact hlt), by rw [List.getElem?_toArray, List.getElem?_eq_getElem]⟩
      have HU5 := Lib.hid hu5
      clear hu5 hlt
      go_upto_region 6 with (first
        | (go_at_call 35; ((with_reducible refine (CL.out _ _ _ _ _ (RS.out _ i GR.out.bel HLT.out) (by decide)).mono ?_); rintro e w5 ⟨A5, c5, rfl, o5, b5⟩; have O5 := Lib.hid o5; have B5 := Lib.hid b5; have K5 := Lib.hid (GR.out.blk.below b5 GR.out.blk.lt); have k5 : w5.cell? ⟨w.heap.size, i, none⟩ = some u5 := (by rw [← HOB.out]; exact (K5.out.cell i).trans HU5.out); have z5 : w5.frozen? ⟨w.heap.size, i, none⟩ = false := (by rw [← HOB.out]; exact K5.out.frozen i); clear o5 b5)))
      go_wp2_with (fail)
      go_roundw
      case rel =>
        refine ⟨i + 1, vs.set i (.slice A5 64 c5), HLT.out, by go_num, ?_⟩
        rw [← HOB.out]
        exact GR.out.step HLT.out (by rw [HOB.out]; exact Nat.le_refl _) B5.out (Rd.own O5.out) (fun a e => (O5.out.lt a.block (by rw [e]; rfl)).1)
      case measure =>
        have h := HLT.out
        rw [e1]
        show k - (intOf (.int .i64 ((i : Int) + 1))).toNat < k - (intOf (.int .i64 (i : Int))).toNat
        have h1 : (intOf (.int .i64 ((i : Int) + 1))).toNat = i + 1 := by simp only [intOf]; omega
        have h2 : (intOf (.int .i64 (i : Int))).toNat = i := by simp only [intOf]; omega
        rw [h1, h2]
        omega
    · obtain rfl : i = k := by omega
      have t0 : ¬ (i : Int) < (i : Int) := by omega
      go_wp2_with (fail)
      go_ret
      rw [← HK.out]
      refine ⟨some ⟨w.heap.size, 0, none⟩, i, rfl, F, ?_, T.out.below GR.out.bel, fun b h => .inl h, Mv.of (by have := GL.out; omega) GR.out.bel⟩
      have hl := GR.out.blk.lt
      refine ⟨HK.out.symm, Nat.le_refl _, by simp only [maxLen]; have := K256.out; omega, fun e => (by cases e), fun hn => ⟨w.heap.size, 0, rfl, (by rw [← HOB.out]; exact hl), ⟨Nat.le_refl _, fun h => Nat.lt_irrefl _ (T.out.lt _ h).2⟩, fun j hj => ?_⟩⟩
      obtain ⟨A, c, e1, e2, e3⟩ := GR.out.row j hj
      refine ⟨A, 64, c, ?_, e2, fun a _ h => ⟨(e3 a h).1, fun hF => by have := (T.out.lt _ hF).2; have := (e3 a h).1; omega⟩⟩
      rw [← HOB.out, Nat.zero_add]
      exact (GR.out.blk.cell j).trans (by rw [List.getElem?_toArray]; exact e1)
end Go.Proofs.YtdbamdbdogdpjaaDoor.S19

/-
  What the landed there, and the closure of its round, do. No statement is proved here.
-/
namespace Go.Proofs.YtdbamdbdogdpjaaDoor.S19
set_option linter.unusedSimpArgs false
set_option linter.unusedVariables false
set_option maxRecDepth 8192
open Go.RowKit

/-- From which to which of its bytes a write is there. -/
def thF (c : Nat) : Nat := if c % 4 = 3 then c / 4 else 0
def thT (c : Nat) : Nat := if c % 4 = 1 then 64 else if c % 4 = 2 then c / 4 else if c % 4 = 3 then 64 else 0
theorem th_le {c : Nat} (h : c < 256) : thF c ≤ thT c ∧ thT c ≤ 64 := by
  unfold thF thT
  split <;> split <;> (try split) <;> (try split) <;> omega
theorem tdiv4 (c : Nat) : (c : Int).tdiv 4 = ((c / 4 : Nat) : Int) := by rw [Int.tdiv_eq_ediv_of_nonneg (by omega)]; rfl
theorem tmod4 (c : Nat) : (c : Int).tmod 4 = ((c % 4 : Nat) : Int) := by rw [Int.tmod_eq_emod_of_nonneg (by omega)]; rfl
/-- How far the choices are counted. -/
def cntC (n k : Nat) : Nat := if n = 0 then 0 else k
end Go.Proofs.YtdbamdbdogdpjaaDoor.S19

/-
  A part of a sector is written over by what was pending: in plain words, and as the landed Up does it. No statement is proved here.
-/
namespace Go.Proofs.YtdbamdbdogdpjaaDoor.S19
set_option linter.unusedSimpArgs false
set_option linter.unusedVariables false
set_option maxRecDepth 8192
open Go.RowKit

theorem tears_iff {c i : Nat} (hi : i < 64) : tears c i ↔ thF c ≤ i ∧ i < thT c := by
  unfold tears thF thT
  have hr : c % 4 = 0 ∨ c % 4 = 1 ∨ c % 4 = 2 ∨ c % 4 = 3 := by omega
  rcases hr with hr | hr | hr | hr <;> simp [hr] <;> omega
theorem torn_cut {c : Nat} (hc : c < 256) {old now : List UInt8} (lo : old.length = 64) (ln : now.length = 64) : old.take (thF c) ++ (now.drop (thF c)).take (thT c - thF c) ++ old.drop (thT c) = Dk.torn c old now := by
  obtain ⟨h1, h2⟩ := th_le hc
  rw [← tornP_full]
  apply List.ext_getElem (by simp [tornP, lo, ln]; omega)
  intro i a1 a2
  have hi : i < 64 := by simpa [tornP] using a2
  have e := tears_iff (c := c) hi
  have e2 : (tornP c old now 64)[i]'a2 = if tears c i then now.getD i 0 else old.getD i 0 := by simp [tornP, hi]
  refine Eq.trans ?_ e2.symm
  simp only [List.getElem_append, List.length_take, List.length_append, List.length_drop, lo, ln, List.getElem_take, List.getElem_drop]
  by_cases q1 : i < thF c
  · have q2 : ¬ tears c i := fun h => by have := e.1 h; omega
    have q3 : i < min (thF c) 64 := by omega
    have q4 : i < min (thF c) 64 + min (thT c - thF c) (64 - thF c) := by omega
    simp [q2, q3, q4, List.getD, lo, hi]
  · by_cases q2 : i < thT c
    · have q3 : tears c i := e.2 ⟨by omega, q2⟩
      have q4 : i < min (thF c) 64 + min (thT c - thF c) (64 - thF c) := by omega
      have q5 : ¬ i < min (thF c) 64 := by omega
      have q6 : thF c + (i - min (thF c) 64) = i := by omega
      simp [q3, q4, q5, q6, List.getD, ln, hi]
    · have q3 : ¬ tears c i := fun h => by have := e.1 h; omega
      have q4 : ¬ i < min (thF c) 64 + min (thT c - thF c) (64 - thF c) := by omega
      have q6 : thT c + (i - (min (thF c) 64 + min (thT c - thF c) (64 - thF c))) = i := by omega
      simp [q3, q4, q6, List.getD, lo, hi]
theorem copy_part (W : World) (ty : TypeId) (sb wb m f t : Nat) (z : Int) (T T' : TypeId) (s : List (List UInt8)) (b : List UInt8) (hs : Bk W sb T (rowsV s).toArray) (hw : Bk W wb T' (Value.int .i64 z :: bv b).toArray) (hr : ∀ x ∈ s, x.length = 64) (hb : b.length = 64) (hm : m < s.length) (h1 : f ≤ t) (h2 : t ≤ 64) :
    (Builtin.copy_ #[36, 36] ty #[.slice (some ⟨sb, m * 64 + f, none⟩) (t - f) (64 - f), .slice (some ⟨wb, 1 + f, none⟩) (t - f) (64 - f)]).run Tryd.prog W =
      .ok (goInt ((t - f : Nat) : Int)) (W.setRow sb (rowsV (s.set m ((s.getD m []).take f ++ (b.drop f).take (t - f) ++ (s.getD m []).drop t))).toArray) := by
  have hx := hr _ (getD_mem hm)
  have hl := rowsV_len hr
  have lc : (bv ((b.drop f).take (t - f))).length = t - f := by rw [bv_length, List.length_take, List.length_drop, hb]; omega
  have h := run_copy_row (P := Tryd.prog) W 36 36 ty 5 sb (m * 64 + f) (t - f) (64 - f) ⟨wb, 1 + f, none⟩ (t - f) (64 - f) (rowsV s).toArray T (bv ((b.drop f).take (t - f))) Tryd.underlying36 (by kernel_rfl) hs (by rw [lc]; simp) (fun j v hj => by
    have e : (⟨wb, 1 + f, none⟩ : Addr).add j = ⟨wb, 1 + f + j, none⟩ := by unfold Addr.add; split <;> simp_all
    have hj2 : j < t - f := by
      rcases Nat.lt_or_ge j (t - f) with h | h
      · exact h
      · rw [List.getElem?_eq_none (by omega)] at hj; cases hj
    rw [e, hw.cell, List.getElem?_toArray, show 1 + f + j = (f + j) + 1 by omega, List.getElem?_cons_succ]
    rw [bv_at _ j (by simp [hb]; omega)] at hj
    rw [bv_at _ (f + j) (by omega), ← hj]
    simp) (by simp [lc, hl]; omega) (bv_one _)
  rw [h, lc]
  congr 2
  have hL := take_rows hr m (Nat.le_of_lt hm)
  have e := rowsV_split hm
  rw [rowsV_set hm]
  generalize s.getD m [] = x at hx e ⊢
  simp only [List.toList_toArray, lc]
  rw [e]
  congr 1
  rw [show m * 64 + f = 64 * m + f by omega, show 64 * m + f + (t - f) = 64 * m + t by omega]
  generalize rowsV (s.take m) = L at hL ⊢
  generalize rowsV (s.drop (m + 1)) = R
  rw [List.append_assoc L (bv x) R, ← hL, List.take_length_add_append, List.drop_length_add_append, List.take_append_of_le_length (by rw [bv_length]; omega), List.drop_append_of_le_length (by rw [bv_length]; omega)]
  rw [show (bv x).take f = bv (x.take f) by simp [bv, List.map_take], show (bv x).drop t = bv (x.drop t) by simp [bv, List.map_drop]]
  simp [bv_append, List.append_assoc]
/-- What is pending lies in cells, one write behind the other. -/
theorem pend_range {w : World} {B : Nat} {v : Value} {p : List (Nat × List UInt8)} (h : w.ownsRow B 87 65 v p.length (pendV p)) (hp : ∀ q ∈ p, q.2.length = 64) {k : Nat} (hk : k < p.length) :
    ∃ b c, v = .slice (some ⟨b, 0, none⟩) p.length c ∧ w.rangeAt b (k * 65) (Value.int .i64 (p[k].1 : Int) :: bv p[k].2) := by
  rcases h.2 with ⟨_, h0⟩ | ⟨b, cap, cur, rfl, _⟩
  · omega
  · refine ⟨b, cap, rfl, fun j v hj => ?_⟩
    have hq := hp _ (List.getElem_mem hk)
    have hj2 : j < 65 := by
      have := (List.getElem?_eq_some_iff.1 hj).1
      simp [bv_length, hq] at this
      exact this
    rw [h.cellAt (k * 65 + j) (by
      have : k * 65 + 65 ≤ p.length * 65 := by rw [show k * 65 + 65 = (k + 1) * 65 by omega]; exact Nat.mul_le_mul_right 65 hk
      omega), pend_split hk, List.append_assoc, List.getElem?_append_right (by rw [take_pend hp k (Nat.le_of_lt hk)]; omega), take_pend hp k (Nat.le_of_lt hk), show k * 65 + j - 65 * k = j by omega, List.getElem?_append_left (by simp [bv_length, hq]; omega)]
    exact hj
/-- A sector that is sure has turned. -/
theorem In.sureSet {N : Nat} {w : World} {g : Nat} {sure now : List (List UInt8)} {pend : List (Nat × List UInt8)} {fails : List Int} {F : Nat → Prop} {V : KnV} (r : In N w g sure now pend fails F V) (s' : List (List UInt8)) :
    In N (w.setRow V.sb (rowsV s').toArray) g s' now pend fails F V := by
  have hs : (w.setRow V.sb (rowsV s').toArray).heap.size = w.heap.size := by simp [World.setRow]
  have hk : ∀ b, b ≠ V.sb → (w.setRow V.sb (rowsV s').toArray).heap[b]? = w.heap[b]? := fun b hb => setRow_other w V.sb b _ hb
  exact ⟨r.sure.row _, (hk _ r.d3.symm).trans r.now, own_keepH r.pend fun b hb _ => hk _ (r.dP b hb).2.1, r.fl.keep (by omega) fun a h1 h2 _ => hk _ (r.dF a h1 h2).2.1, r.few, r.mem, r.srt, r.fg, r.fs, r.fnn, r.fp, r.ff, fun b hb => by rw [hs]; exact r.gN b hb, r.d1, r.d2, r.d3, r.dP, r.dF⟩
end Go.Proofs.YtdbamdbdogdpjaaDoor.S19

/-
  What the landed Up does. No statement is proved here.
-/
namespace Go.Proofs.YtdbamdbdogdpjaaDoor.S19
set_option linter.unusedSimpArgs false
set_option linter.unusedVariables false
set_option maxRecDepth 8192
open Go.RowKit

/-- What holds while what is pending is gone through. -/
structure UpI (N : Nat) (w : World) (g kk : Nat) (D : Dk) (F : Nat → Prop) (V : KnV) (px p1 i1 : Nat) (A' : Option Addr) (n' c' : Nat) (ch : List UInt8) (A : Option Addr) (n c : Nat) (st : Int) (k : Nat) (X : World) : Prop where
  blk : Bk X g 61 (knA V kk D.cnt D.stop D.off)
  r : In N X g (Dk.tear ch 0 (D.pend.take k) D.sure) (Dk.laid D.pend D.sure) D.pend D.fails F V
  mv : Mv N F w X
  bx : Bk X px 59 #[.slice A n c, .int .i64 st]
  b1 : Bk X p1 36 #[.slice A' n' c']
  b2 : Bk X i1 3 #[.int .i64 (cntC n' k : Int)]
/-- What reads is written over by what is sure. -/
theorem In.upped {N : Nat} {w : World} {g : Nat} {sure now : List (List UInt8)} {pend : List (Nat × List UInt8)} {fails : List Int} {F : Nat → Prop} {V : KnV} (r : In N w g sure now pend fails F V) :
    In N (w.setRow V.nb (rowsV sure).toArray) g sure sure [] fails F { V with vP := .slice none 0 0 } := by
  have hs : (w.setRow V.nb (rowsV sure).toArray).heap.size = w.heap.size := by simp [World.setRow]
  have hk : ∀ b, b ≠ V.nb → (w.setRow V.nb (rowsV sure).toArray).heap[b]? = w.heap[b]? := fun b hb => setRow_other w V.nb b _ hb
  exact ⟨(hk _ r.d3).trans r.sure, r.now.row _, ⟨rfl, .inl ⟨rfl, rfl⟩⟩, r.fl.keep (by omega) fun a h1 h2 _ => hk _ (r.dF a h1 h2).2.2.1, r.few, r.mem, r.srt, r.fg, r.fs, r.fnn, fun b h => absurd h (by simp [Value.ownBlock]), r.ff, fun b hb => by rw [hs]; exact r.gN b hb, r.d1, r.d2, r.d3, fun b h => absurd h (by simp [Value.ownBlock]), fun a h1 h2 => ⟨(r.dF a h1 h2).1, (r.dF a h1 h2).2.1, (r.dF a h1 h2).2.2.1, by simp [Value.ownBlock]⟩⟩
theorem own_max {w : World} {B e sz n : Nat} {v : Value} {xs : List Value} (h : w.ownsRow B e sz v n xs) : n ≤ maxLen := by
  rcases h.2 with ⟨_, rfl⟩ | ⟨_, cap, _, _, _, _, h1, h2, _⟩
  · exact Nat.zero_le _
  · omega
end Go.Proofs.YtdbamdbdogdpjaaDoor.S19

/-
  What the landed disk.New does. No statement is proved here.
-/
namespace Go.Proofs.YtdbamdbdogdpjaaDoor.S19
set_option linter.unusedSimpArgs false
set_option linter.unusedVariables false
set_option maxRecDepth 8192
open Go.RowKit

theorem Tryd.infoSec : (Tryd.prog.info? 78).map (fun i => (i.zero, i.size, i.bytes)) = some (some (.agg (Array.replicate 64 (.int .u8 0))), 64, 64) := by kernel_rfl
theorem made_sectors (n : Nat) : madeCells (Value.agg (Array.replicate 64 (.int .u8 0))).cells (n * 64) = (rowsV (List.replicate n (List.replicate 64 0))).toArray := by
  rw [rowsV_zero]
  apply Array.ext'
  simp only [madeCells, Value.cells]
  rw [List.eq_replicate_iff]
  refine ⟨by simp; omega, fun b hb => ?_⟩
  simp at hb
  obtain ⟨x, hx, rfl⟩ := hb
  have : x % 64 < 64 := Nat.mod_lt _ (by decide)
  simp [this]
theorem run_make_sec (n : Nat) (hn : n ≤ 256) (w : World) : (Instr.makeSlice 55 (.int .i64 (n : Int)) (.int .i64 (n : Int))).run Tryd.prog w =
    .ok (.slice (some ⟨w.heap.size, 0, none⟩) n n) (w.alloc (.cells (rowsV (List.replicate n (List.replicate 64 0))).toArray 78)) := by
  obtain ⟨i0, hi, hz0, hz1, hz2⟩ := info_parts Tryd.infoSec
  have hr := run_makeSlice (P := Tryd.prog) (w := w) 55 78 i0 _ Tryd.underlying55 hi hz0 .i64 .i64 (n : Int) (n : Int) (by omega) (Int.le_refl _) (by rw [hz1]; simp; omega) (by rw [hz2]; omega) (by omega)
  simp only [Int.toNat_natCast] at hr
  rw [hz1, made_sectors] at hr
  exact hr
theorem new_fin (N : Nat) (w X : World) (k sb nb g g3 : Nat) (hN : N ≤ w.heap.size) (h1 : 1 ≤ k) (h2 : k ≤ 256) (hb : Below w.heap.size w X) (b1 : w.heap.size ≤ g3) (b2 : g3 < sb) (b3 : g3 < nb) (b4 : sb ≠ nb) (b5 : sb < g) (b6 : nb < g)
    (hs : Bk X sb 78 (rowsV (List.replicate k (List.replicate 64 0))).toArray) (hn : Bk X nb 78 (rowsV (List.replicate k (List.replicate 64 0))).toArray)
    (hg : Bk X g 61 #[.slice (some ⟨sb, 0, none⟩) k k, .slice (some ⟨nb, 0, none⟩) k k, .slice none 0 0, .int .i64 0, .slice none 0 0, .int .i64 0, .bool false]) :
    ∃ g' F, Ending.returned (Value.tuple #[.pointer (some ⟨g, 0, none⟩), .int .i64 0]) = .returned (.tuple #[.pointer (some ⟨g', 0, none⟩), .int .i64 0]) ∧ Kn N (X.setCell ⟨g3, 0, none⟩ (.int .i64 0)) g' (Dk.new k) F ∧ (∀ b, F b → w.heap.size ≤ b) ∧ Below w.heap.size w (X.setCell ⟨g3, 0, none⟩ (.int .i64 0)) := by
  have g1 := hg.lt
  refine ⟨g, fun b => b = g ∨ b = sb ∨ b = nb, rfl, ⟨Dk.new_ok h1 h2, ⟨sb, nb, .slice none 0 0, none, 0, 0, []⟩, ?_, ?_⟩, ?_, hb.setCell b1 _⟩
  · have e : (Dk.new k).sure.length = k := by simp [Dk.new]
    rw [e]
    exact hg.far (show g ≠ g3 by omega) _
  · refine ⟨hs.far (show sb ≠ g3 by omega) _, hn.far (show nb ≠ g3 by omega) _, ⟨rfl, .inl ⟨rfl, rfl⟩⟩, RI.nil_ _ _, Nat.zero_le _, fun z => Iff.rfl, List.Pairwise.nil, .inl rfl, .inr (.inl rfl), .inr (.inr rfl), fun b h => absurd h (by simp [Value.ownBlock]), fun a h => absurd h (Nat.lt_irrefl 0), fun b h => ?_, (show g ≠ sb by omega), (show g ≠ nb by omega), b4, fun b h => absurd h (by simp [Value.ownBlock]), fun a h => absurd h (Nat.lt_irrefl 0)⟩
    have : (X.setCell ⟨g3, 0, none⟩ (.int .i64 0)).heap.size = X.heap.size := by simp
    rw [this]
    omega
  · intro b h
    omega
set_option maxHeartbeats 4000000 in
theorem new_any (N : Nat) (w : World) (k : Nat) (hN : N ≤ w.heap.size) (h1 : 1 ≤ k) (h2 : k ≤ 256) :
    Calls Tryd.prog 8 #[.int .i64 (k : Int)] w fun e w' => ∃ g F, e = .returned (.tuple #[.pointer (some ⟨g, 0, none⟩), .int .i64 0]) ∧ Kn N w' g (Dk.new k) F ∧ (∀ b, F b → w.heap.size ≤ b) ∧ Below w.heap.size w w' := by
  have hmf : ∀ (fn : Fn) (first cap : Array Value) (w : World), (Instr.makeFunc fn first cap).run Tryd.prog w = .ok (.func fn first cap) w := fun _ _ _ _ => rfl
  have HN := Lib.hid (fun X => LV.need_yes 1 X)
  have u1 : (1 : Int) ≤ (k : Int) := by omega
  have u2 : (k : Int) ≤ 256 := by omega
  have hmk := run_make_sec k h2
  obtain ⟨Z, hZ⟩ : ∃ Z, Z = (rowsV (List.replicate k (List.replicate 64 0))).toArray := ⟨_, rfl⟩
  rw [← hZ] at hmk
  have HZ := Lib.hid hZ
  clear hZ
  go_enter_defers Tryd.func8, Tryd.ntmps8
  go_upto_region 3 with (go_at_call 25; ((with_reducible refine (HN.out _).mono ?_); rintro e w1 ⟨rfl, rfl⟩))
  (go_region_held3 (fun _ => True) (trivial) (fail))
  all_goals
    go_wp2_with (fail)
    refine dnew_ret rfl (y := 0) (Bk.drew (((Bk.newAt _ _ _ w.heap.size rfl).alloc _).alloc _ |>.alloc _)) rfl ?_
    first
      | exact new_fin N w _ k (w.heap.size + 1) (w.heap.size + 1 + 1) (w.heap.size + 1 + 1 + 1) w.heap.size hN h1 h2 (((((Below.refl _ _).alloc (Nat.le_refl _) _).alloc (by simp) _).alloc (by simp; omega) _).alloc (by simp; omega) _).drew (Nat.le_refl _) (by omega) (by omega) (by omega) (by omega) (by omega) (by rw [← HZ.out]; exact Bk.drew (((Bk.newAt _ _ _ _ (by simp)).alloc _).alloc _)) (by rw [← HZ.out]; exact Bk.drew ((Bk.newAt _ _ _ _ (by simp)).alloc _)) (Bk.drew (Bk.newAt _ _ _ _ (by simp)))
      | exact new_fin N w _ k (w.heap.size + 1 + 1) (w.heap.size + 1) (w.heap.size + 1 + 1 + 1) w.heap.size hN h1 h2 (((((Below.refl _ _).alloc (Nat.le_refl _) _).alloc (by simp) _).alloc (by simp; omega) _).alloc (by simp; omega) _).drew (Nat.le_refl _) (by omega) (by omega) (by omega) (by omega) (by omega) (by rw [← HZ.out]; exact Bk.drew ((Bk.newAt _ _ _ _ (by simp)).alloc _)) (by rw [← HZ.out]; exact Bk.drew (((Bk.newAt _ _ _ _ (by simp)).alloc _).alloc _)) (Bk.drew (Bk.newAt _ _ _ _ (by simp)))
set_option maxHeartbeats 1000000 in
theorem newNot_any (w : World) (k : Int) (hk : k < 1 ∨ 256 < k) :
    Calls Tryd.prog 8 #[.int .i64 k] w fun e w' => ∃ v, e = .returned (.tuple #[v, .int .i64 1]) ∧ Below w.heap.size w w' := by
  have hmf : ∀ (fn : Fn) (first cap : Array Value) (w : World), (Instr.makeFunc fn first cap).run Tryd.prog w = .ok (.func fn first cap) w := fun _ _ _ _ => rfl
  have HN := Lib.hid (fun X => LV.need_no 1 X)
  by_cases u1 : 1 ≤ k
  · have u2 : ¬ k ≤ 256 := by omega
    clear hk
    go_enter_defers Tryd.func8, Tryd.ntmps8
    go_wp2_with (go_at_call 25; ((with_reducible refine (HN.out _).mono ?_); rintro e w1 ⟨rfl, rfl⟩))
    exact dnew_bad rfl (y := 0) (Bk.newAt _ _ _ w.heap.size rfl) rfl fun w1 hb => ⟨_, rfl, (((Below.refl _ _).alloc (Nat.le_refl _) _).trans (hb.mono (by simp))).setCell (Nat.le_refl _) _⟩
  · clear hk
    go_enter_defers Tryd.func8, Tryd.ntmps8
    go_wp2_with (go_at_call 25; ((with_reducible refine (HN.out _).mono ?_); rintro e w1 ⟨rfl, rfl⟩))
    exact dnew_bad rfl (y := 0) (Bk.newAt _ _ _ w.heap.size rfl) rfl fun w1 hb => ⟨_, rfl, (((Below.refl _ _).alloc (Nat.le_refl _) _).trans (hb.mono (by simp))).setCell (Nat.le_refl _) _⟩
end Go.Proofs.YtdbamdbdogdpjaaDoor.S19

/-
  The contracts of the landed package disk as one.
-/
namespace Go.Proofs.YtdbamdbdogdpjaaDoor.S19
open Go.RowKit
/-- What the calls of the landed disk do. -/
def D0 : DC where
  ok := fun _ => True
  bel := fun _ _ => trivial
  Is := Kn
  okD := fun t => t.ok
  lt := fun t => t.lt
  keep := fun t hs hk => t.keep hs fun b hF hlt => hk b (.inr hF) hlt
  new := fun N w k _ hN h1 h2 => new_any N w k hN h1 h2
  newNot := fun w k _ hk _ _ => newNot_any w k hk
  read := fun N w g D F i _ t => read_any N w g D F i t
  write := fun N w g D F i A n c b _ t hr hap hc => write_any N w g D F i A n c b t hr hap hc
  flush := fun N w g D F _ t hc => flush_any N w g D F t hc
  stop := fun N w g D F _ t => stop_any N w g D F t
  sure := fun N w g D F _ t => sure_any N w g D F t
  count := fun N w g D F _ t => count_any N w g D F t
end Go.Proofs.YtdbamdbdogdpjaaDoor.S19

/-
  What the landed slots.New does. No statement is proved here.
-/
namespace Go.Proofs.YtdbamdbdogdpjaaDoor.S20
set_option linter.unusedSimpArgs false
set_option linter.unusedVariables false
set_option maxRecDepth 8192
open Go.RowKit S19

theorem snew_fin (N : Nat) (w w1 X : World) (g g3 s : Nat) (D : Dk) (F F1 : Nat → Prop) (first n : Nat) (hN : N ≤ w.heap.size) (hg3 : w.heap.size = g3) (k1 : Kn N w1 g D F1) (f1 : ∀ b, F1 b → F b ∨ g3 + 1 ≤ b) (m1 : Mv N F w w1) (hF : ¬ F g3) (hs : w1.heap.size = s)
    (hX : Below w1.heap.size w1 X) (hK : Bk X s 67 #[.pointer (some ⟨g, 0, none⟩), .int .i64 (first : Int), .int .i64 (n : Int), .int .u64 0, .slice none 0 0, .int .i64 0]) (h3 : g3 < w1.heap.size) :
    ∃ s' S F', Ending.returned (Value.tuple #[.pointer (some ⟨s, 0, none⟩), .int .i64 0]) = .returned (.tuple #[.pointer (some ⟨s', 0, none⟩), .int .i64 0]) ∧ Sz N (X.setCell ⟨g3, 0, none⟩ (.int .i64 0)) s' g (Sl.new first n) S ∧ Kn N (X.setCell ⟨g3, 0, none⟩ (.int .i64 0)) g D F' ∧ (∀ b, S b → w.heap.size ≤ b) ∧ (∀ b, F' b → F b ∨ w.heap.size ≤ b) ∧ (∀ b, F' b → ¬ S b) ∧ Mv N F w (X.setCell ⟨g3, 0, none⟩ (.int .i64 0)) := by
  have hsz := m1.size
  have h31 : ¬ F1 g3 := fun h => (f1 _ h).elim hF (by omega)
  refine ⟨s, fun b => b = s, F1, rfl, ⟨⟨none, 0, hK.far (show s ≠ g3 by omega) _, Rd.nil_ _, fun a h => absurd h (by show ¬ 0 < 0; omega)⟩, rfl, fun b e => ?_, by show 0 ≤ _; omega⟩, ?_, fun b e => ?_, fun b e => (f1 b e).imp id (by omega), fun b h e => ?_, ?_⟩
  · subst e
    exact ⟨by omega, by simpa using hK.lt⟩
  · exact (k1.below hX).keep (by simp) fun b hb _ => Below.heap_setCell _ ⟨g3, 0, none⟩ _ b fun e => h31 (by rw [e] at hb; exact hb)
  · subst e; omega
  · have := (k1.lt b h).2
    omega
  · have m2 : Mv N F w1 X := Mv.of (by omega) hX
    have m3 : Mv N (fun b => b = g3) X (X.setCell ⟨g3, 0, none⟩ (.int .i64 0)) := ⟨(Below.refl _ _).setCell (show N ≤ (⟨g3, 0, none⟩ : Addr).block from by show N ≤ g3; omega) _, fun b _ h => Below.heap_setCell _ ⟨g3, 0, none⟩ _ b h⟩
    exact (m1.trans m2 fun b h => .inl h).trans m3 fun b h => .inr (by omega)
set_option maxHeartbeats 4000000 in
theorem snew_any (N : Nat) (w : World) (g : Nat) (D : Dk) (F : Nat → Prop) (first n : Nat) (tk : Kn N w g D F) (hm : may D.sure.length first n = true) : Calls Tryd.prog 9 #[.pointer (some ⟨g, 0, none⟩), .int .i64 (first : Int), .int .i64 (n : Int)] w fun e w' =>
    ∃ s S F', e = .returned (.tuple #[.pointer (some ⟨s, 0, none⟩), .int .i64 0]) ∧ Sz N w' s g (Sl.new first n) S ∧ Kn N w' g D F' ∧ (∀ b, S b → w.heap.size ≤ b) ∧ (∀ b, F' b → F b ∨ w.heap.size ≤ b) ∧ (∀ b, F' b → ¬ S b) ∧ Mv N F w w' := by
  have hmf : ∀ (fn : Fn) (first cap : Array Value) (w : World), (Instr.makeFunc fn first cap).run Tryd.prog w = .ok (.func fn first cap) w := fun _ _ _ _ => rfl
  have HN := Lib.hid (fun X => LV.need_yes 1 X)
  have hm' := of_decide_eq_true hm
  have hmost := tk.ok.most
  obtain ⟨g3, hg3⟩ : ∃ g3, w.heap.size = g3 := ⟨_, rfl⟩
  obtain ⟨w0, hw0⟩ : ∃ w0, w.alloc (.cells #[.int .i64 0] 24) = w0 := ⟨_, rfl⟩
  have B0 := Lib.hid (show Below w.heap.size w w0 by rw [← hw0]; exact (Below.refl _ _).alloc (Nat.le_refl _) _)
  have S0 := Lib.hid (show w0.heap.size = g3 + 1 by rw [← hw0, ← hg3]; simp)
  have K3 := Lib.hid (show Bk w0 g3 24 #[.int .i64 0] by rw [← hw0]; exact Bk.newAt _ _ _ _ hg3)
  have hNN : N ≤ w.heap.size := by
    obtain ⟨ok, V, hb, r⟩ := tk
    have := r.gN g r.fg
    omega
  have hF3 : ¬ F g3 := fun h => by have := (tk.lt _ h).2; omega
  obtain ⟨k, hk⟩ : ∃ k, k = D.sure.length := ⟨_, rfl⟩
  have SU := Lib.hid (show Calls Tryd.prog 15 #[.pointer (some ⟨g, 0, none⟩)] w0 fun e w' => ∃ A c F1, e = .returned (.slice A k c) ∧ Kn N w' g D F1 ∧ (∀ b, F1 b → F b ∨ g3 + 1 ≤ b) ∧ Mv N F w0 w' from (sure_any N w0 g D F (tk.below B0.out)).mono fun e w' ⟨A, c, F', h1, _, h2, h3, h4⟩ => ⟨A, c, F', by rw [hk]; exact h1, h2, fun b hb => (h3 b hb).imp id (fun h => by rw [S0.out] at h; exact h), h4⟩)
  obtain ⟨p, hp⟩ : ∃ p, p = 2 * n := ⟨_, rfl⟩
  obtain ⟨q, hq⟩ : ∃ q, q = k - p := ⟨_, rfl⟩
  have u1 : (1 : Int) ≤ (n : Int) := by omega
  have u2 : (n : Int) ≤ 8 := by omega
  have p1 : (2 : Int) * (n : Int) = (p : Int) := by omega
  have q1 : (k : Int) - (p : Int) = (q : Int) := by omega
  have u3 : (first : Int) ≤ (q : Int) := by omega
  have bp : p ≤ 1000000 := by omega
  have bq : q ≤ 1000000 := by omega
  have z1 : wrap64 (p : Int) = (p : Int) := (wrap_nat p bp).1
  have z2 : wrap64 (q : Int) = (q : Int) := (wrap_nat q bq).1
  have HG := Lib.hid hg3
  have FIN := Lib.hid (fun w1 X s F1 k1 f1 m1 hs hX hK h3 => snew_fin N w w1 X g g3 s D F F1 first n hNN hg3 k1 f1 m1 hF3 hs hX hK h3)
  have HNN := Lib.hid hNN
  have HF3 := Lib.hid hF3
  clear hm hm' hmost hk hp hq bp bq tk hNN hF3
  go_enter_defers Tryd.func9, Tryd.ntmps9
  go_wp2_with (first
    | (go_at_call 25; ((with_reducible refine (HN.out _).mono ?_); rintro e w1 ⟨rfl, rfl⟩))
    | (go_at_call 15; ((with_reducible refine SU.out.mono ?_); rintro e w2 ⟨A2, c2, F2, rfl, k2, f2, m2⟩; have K2 := Lib.hid k2; have F2S := Lib.hid f2; have M2 := Lib.hid m2; have K32 := Lib.hid (m2.bk K3.out HF3.out); have M02 := Lib.hid (show Mv N F w w2 from (Mv.of HNN.out B0.out).trans m2 (fun b h => .inl h)); have L2 := Lib.hid (show g3 < w2.heap.size from K32.out.lt); obtain ⟨s, hs⟩ : ∃ s, w2.heap.size = s := ⟨_, rfl⟩; obtain ⟨w3, hw3⟩ : ∃ w3, w2.alloc (.cells #[.pointer (some ⟨g, 0, none⟩), .int .i64 (first : Int), .int .i64 (n : Int), .int .u64 0, .slice none 0 0, .int .i64 0] 67) = w3 := ⟨_, rfl⟩; have K4 := Lib.hid (show Bk w3 s 67 #[.pointer (some ⟨g, 0, none⟩), .int .i64 (first : Int), .int .i64 (n : Int), .int .u64 0, .slice none 0 0, .int .i64 0] by rw [← hw3]; exact Bk.newAt _ _ _ _ hs); have B4 := Lib.hid (show Below w2.heap.size w2 w3 by rw [← hw3]; exact (Below.refl _ _).alloc (Nat.le_refl _) _); have HS := Lib.hid hs; have K34 := Lib.hid (K32.out.below B4.out K32.out.lt); have i0 := cell_of_one K34.out; have i1 := free_of_one K34.out; clear k2 f2 m2)))
  refine snew_ret rfl (y := 0) (K34.out.put 0 _) rfl ?_
  have hX : (w3.setCell ⟨g3, 0, none⟩ (.int .i64 0)).setCell ⟨g3, 0, none⟩ (.int .i64 0) = w3.setCell ⟨g3, 0, none⟩ (.int .i64 0) := set_set _ _ _ _ _
  rw [hX]
  exact FIN.out w2 w3 s F2 K2.out F2S.out M02.out HS.out B4.out K4.out L2.out
end Go.Proofs.YtdbamdbdogdpjaaDoor.S20
