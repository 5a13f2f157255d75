/-
  A part of a sector is written over by what was pending: in plain words, and as the landed Up does it. No statement is proved here.
-/
import Derived.Test.YtammgingmkdfhaaDsD
import Derived.Test.YtammgingmkdfhaaDkF
namespace Go.Proofs.Ytammgingmkdfhaa.S19
set_option linter.unusedSimpArgs false
set_option linter.unusedVariables false
set_option maxRecDepth 8192
open Go.RowKit

theorem tears_iff {c i : Nat} (hi : i < 64) : tears c i ↔ thF c ≤ i ∧ i < thT c := by
  unfold tears thF thT
  have hr : c % 4 = 0 ∨ c % 4 = 1 ∨ c % 4 = 2 ∨ c % 4 = 3 := by omega
  rcases hr with hr | hr | hr | hr <;> simp [hr] <;> omega
theorem torn_cut {c : Nat} (hc : c < 256) {old now : List UInt8} (lo : old.length = 64) (ln : now.length = 64) : old.take (thF c) ++ (now.drop (thF c)).take (thT c - thF c) ++ old.drop (thT c) = Dk.torn c old now := by
  obtain ⟨h1, h2⟩ := th_le hc
  rw [← tornP_full]
  apply List.ext_getElem (by simp [tornP, lo, ln]; omega)
  intro i a1 a2
  have hi : i < 64 := by simpa [tornP] using a2
  have e := tears_iff (c := c) hi
  have e2 : (tornP c old now 64)[i]'a2 = if tears c i then now.getD i 0 else old.getD i 0 := by simp [tornP, hi]
  refine Eq.trans ?_ e2.symm
  simp only [List.getElem_append, List.length_take, List.length_append, List.length_drop, lo, ln, List.getElem_take, List.getElem_drop]
  by_cases q1 : i < thF c
  · have q2 : ¬ tears c i := fun h => by have := e.1 h; omega
    have q3 : i < min (thF c) 64 := by omega
    have q4 : i < min (thF c) 64 + min (thT c - thF c) (64 - thF c) := by omega
    simp [q2, q3, q4, List.getD, lo, hi]
  · by_cases q2 : i < thT c
    · have q3 : tears c i := e.2 ⟨by omega, q2⟩
      have q4 : i < min (thF c) 64 + min (thT c - thF c) (64 - thF c) := by omega
      have q5 : ¬ i < min (thF c) 64 := by omega
      have q6 : thF c + (i - min (thF c) 64) = i := by omega
      simp [q3, q4, q5, q6, List.getD, ln, hi]
    · have q3 : ¬ tears c i := fun h => by have := e.1 h; omega
      have q4 : ¬ i < min (thF c) 64 + min (thT c - thF c) (64 - thF c) := by omega
      have q6 : thT c + (i - (min (thF c) 64 + min (thT c - thF c) (64 - thF c))) = i := by omega
      simp [q3, q4, q6, List.getD, lo, hi]
theorem copy_part (W : World) (ty : TypeId) (sb wb m f t : Nat) (z : Int) (T T' : TypeId) (s : List (List UInt8)) (b : List UInt8) (hs : Bk W sb T (rowsV s).toArray) (hw : Bk W wb T' (Value.int .i64 z :: bv b).toArray) (hr : ∀ x ∈ s, x.length = 64) (hb : b.length = 64) (hm : m < s.length) (h1 : f ≤ t) (h2 : t ≤ 64) :
    (Builtin.copy_ #[30, 30] ty #[.slice (some ⟨sb, m * 64 + f, none⟩) (t - f) (64 - f), .slice (some ⟨wb, 1 + f, none⟩) (t - f) (64 - f)]).run Try.prog W =
      .ok (goInt ((t - f : Nat) : Int)) (W.setRow sb (rowsV (s.set m ((s.getD m []).take f ++ (b.drop f).take (t - f) ++ (s.getD m []).drop t))).toArray) := by
  have hx := hr _ (getD_mem hm)
  have hl := rowsV_len hr
  have lc : (bv ((b.drop f).take (t - f))).length = t - f := by rw [bv_length, List.length_take, List.length_drop, hb]; omega
  have h := run_copy_row (P := Try.prog) W 30 30 ty 5 sb (m * 64 + f) (t - f) (64 - f) ⟨wb, 1 + f, none⟩ (t - f) (64 - f) (rowsV s).toArray T (bv ((b.drop f).take (t - f))) Try.underlying30 (by kernel_rfl) hs (by rw [lc]; simp) (fun j v hj => by
    have e : (⟨wb, 1 + f, none⟩ : Addr).add j = ⟨wb, 1 + f + j, none⟩ := by unfold Addr.add; split <;> simp_all
    have hj2 : j < t - f := by
      rcases Nat.lt_or_ge j (t - f) with h | h
      · exact h
      · rw [List.getElem?_eq_none (by omega)] at hj; cases hj
    rw [e, hw.cell, List.getElem?_toArray, show 1 + f + j = (f + j) + 1 by omega, List.getElem?_cons_succ]
    rw [bv_at _ j (by simp [hb]; omega)] at hj
    rw [bv_at _ (f + j) (by omega), ← hj]
    simp) (by simp [lc, hl]; omega) (bv_one _)
  rw [h, lc]
  congr 2
  have hL := take_rows hr m (Nat.le_of_lt hm)
  have e := rowsV_split hm
  rw [rowsV_set hm]
  generalize s.getD m [] = x at hx e ⊢
  simp only [List.toList_toArray, lc]
  rw [e]
  congr 1
  rw [show m * 64 + f = 64 * m + f by omega, show 64 * m + f + (t - f) = 64 * m + t by omega]
  generalize rowsV (s.take m) = L at hL ⊢
  generalize rowsV (s.drop (m + 1)) = R
  rw [List.append_assoc L (bv x) R, ← hL, List.take_length_add_append, List.drop_length_add_append, List.take_append_of_le_length (by rw [bv_length]; omega), List.drop_append_of_le_length (by rw [bv_length]; omega)]
  rw [show (bv x).take f = bv (x.take f) by simp [bv, List.map_take], show (bv x).drop t = bv (x.drop t) by simp [bv, List.map_drop]]
  simp [bv_append, List.append_assoc]
/-- What is pending lies in cells, one write behind the other. -/
theorem pend_range {w : World} {B : Nat} {v : Value} {p : List (Nat × List UInt8)} (h : w.ownsRow B 71 65 v p.length (pendV p)) (hp : ∀ q ∈ p, q.2.length = 64) {k : Nat} (hk : k < p.length) :
    ∃ b c, v = .slice (some ⟨b, 0, none⟩) p.length c ∧ w.rangeAt b (k * 65) (Value.int .i64 (p[k].1 : Int) :: bv p[k].2) := by
  rcases h.2 with ⟨_, h0⟩ | ⟨b, cap, cur, rfl, _⟩
  · omega
  · refine ⟨b, cap, rfl, fun j v hj => ?_⟩
    have hq := hp _ (List.getElem_mem hk)
    have hj2 : j < 65 := by
      have := (List.getElem?_eq_some_iff.1 hj).1
      simp [bv_length, hq] at this
      exact this
    rw [h.cellAt (k * 65 + j) (by
      have : k * 65 + 65 ≤ p.length * 65 := by rw [show k * 65 + 65 = (k + 1) * 65 by omega]; exact Nat.mul_le_mul_right 65 hk
      omega), pend_split hk, List.append_assoc, List.getElem?_append_right (by rw [take_pend hp k (Nat.le_of_lt hk)]; omega), take_pend hp k (Nat.le_of_lt hk), show k * 65 + j - 65 * k = j by omega, List.getElem?_append_left (by simp [bv_length, hq]; omega)]
    exact hj
/-- A sector that is sure has turned. -/
theorem In.sureSet {N : Nat} {w : World} {g : Nat} {sure now : List (List UInt8)} {pend : List (Nat × List UInt8)} {fails : List Int} {F : Nat → Prop} {V : KnV} (r : In N w g sure now pend fails F V) (s' : List (List UInt8)) :
    In N (w.setRow V.sb (rowsV s').toArray) g s' now pend fails F V := by
  have hs : (w.setRow V.sb (rowsV s').toArray).heap.size = w.heap.size := by simp [World.setRow]
  have hk : ∀ b, b ≠ V.sb → (w.setRow V.sb (rowsV s').toArray).heap[b]? = w.heap[b]? := fun b hb => setRow_other w V.sb b _ hb
  exact ⟨r.sure.row _, (hk _ r.d3.symm).trans r.now, own_keepH r.pend fun b hb _ => hk _ (r.dP b hb).2.1, r.fl.keep (by omega) fun a h1 h2 _ => hk _ (r.dF a h1 h2).2.1, r.few, r.mem, r.srt, r.fg, r.fs, r.fnn, r.fp, r.ff, fun b hb => by rw [hs]; exact r.gN b hb, r.d1, r.d2, r.d3, r.dP, r.dF⟩
end Go.Proofs.Ytammgingmkdfhaa.S19
