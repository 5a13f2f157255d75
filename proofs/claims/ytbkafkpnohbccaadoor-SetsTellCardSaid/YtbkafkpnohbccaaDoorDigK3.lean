/-
  What the landed digits' calls do over their iterator: Of (by the library's Collect, AppendSeq). No statement is proved here.
-/
import Derived.Test.YtbkafkpnohbccaaDoorDigK2
import Derived.Test.YtbkafkpnohbccaaDoorRfb
namespace Go.Proofs.YtbkafkpnohbccaaDoor.S7
set_option linter.unusedSimpArgs false
set_option linter.unusedVariables false
open Go.RowKit Go.Shelf
attribute [local go_sem] Oper.semAt_some

/-- Of no width nothing comes. -/
theorem each0_in (m : Nat) (hm1 : 1 ≤ m) (l B1 B2 : Nat) (w : Int) (W : World) (hok : WOk W) (hm : mayB w = false) (hB2 : Boxed W B2 3 (.int .i64 w)) :
    CallsIn Fence.wide m Tryd.prog 39 #[.func (.yield l) #[] #[], .pointer (some ⟨B2, 0, none⟩), .pointer (some ⟨B1, 0, none⟩)] W fun e W' => (∃ u, e = .returned u) ∧ W = W' := by
  have hc := hB2.cell
  have HM := Lib.hid (may_any w W hok)
  rw [hm] at HM
  clear hok hm hB2
  refine callsIn_of_wp Tryd.func39 rfl trivial ?_ rfl
  simp only [Tryd.ntmps39, List.size_toArray, List.length_cons, List.length_nil, Nat.reduceAdd, Nat.reduceSub, Array.replicate_succ, Array.replicate_zero, List.push_toArray, List.append_toArray, List.nil_append, List.cons_append]
  gi_wp2_with (refine ⟨trivial, ?_⟩; gi_at_call 20; refine (callsIn_wide.2 HM.out).mono ?_; rintro e w1 ⟨rfl, rfl⟩)
  try simp only [Exit.inBlock, Exit.then]
  refine bodyPost_ret (results_none rfl _ _ _) rfl ?_
  exact ⟨⟨_, rfl⟩, rfl⟩
set_option maxHeartbeats 1000000 in
/-- What is captured is boxed; the function value captures the boxes. -/
theorem each_any (A : Option Addr) (n c : Nat) (v : Int) (w : World) :
    Calls Tryd.prog 37 #[.slice A n c, .int .i64 v] w fun e w' => e = .returned (.func (.func 39) #[] #[.pointer (some ⟨w.heap.size + 1, 0, none⟩), .pointer (some ⟨w.heap.size, 0, none⟩)]) ∧ w' = (w.alloc (.cells #[.slice A n c] 47)).alloc (.cells #[.int .i64 v] 3) := by
  go_enter Tryd.func37, Tryd.ntmps37
  go_wp2
  go_ret
  exact ⟨rfl, rfl⟩
/-- A digit of a width. -/
abbrev DgtW (w : Int) := { x : Nat // mayB w = true ∧ x < 2 ^ w.toNat }
/-- The function value hands over all digits, or those up to where a round has said 'no more'. -/
theorem each_stops (m : Nat) (hm : 1 ≤ m) (w0 : World) (A : Option Addr) (n c : Nat) (xs : List UInt8) (w : Int) (hok : WOk w0) (hr : Rd w0 A n c xs) (B1 B2 : Nat) (W0 : World) (hb : Below w0.heap.size w0 W0) (h1 : Boxed W0 B1 47 (.slice A n c)) (h2 : Boxed W0 B2 3 (.int .i64 w)) :
    SeqStopsK Fence.wide m Tryd.prog 39 #[.pointer (some ⟨B2, 0, none⟩), .pointer (some ⟨B1, 0, none⟩)] (fun x : DgtW w => #[Value.int .i64 (x.1 : Int)]) (KpC w0.heap.size B2) (fun ys => ys.map (·.1) = ofW w xs) (fun pre => pre.map (·.1) <+: ofW w xs) (ofW w xs).length W0 := fun l J Jx W hW hJ _ hY h0 => by
  by_cases hc : mayB w = true
  rotate_left
  · replace hc : mayB w = false := by simpa using hc
    have e : ofW w xs = [] := by rw [ofW, hc, if_neg (by simp)]
    refine (each0_in m hm l B1 B2 w W (hok.below (hb.trans (hW.mono hb.size))) hc (boxed_below hW h2.lt h2)).mono ?_
    rintro e' W' ⟨h1, rfl⟩
    exact ⟨h1, .inl ⟨[], by show ([] : List (DgtW w)).map (·.1) = ofW w xs; rw [e]; rfl, h0⟩⟩
  · obtain ⟨v, rfl, hv⟩ := wid_of hc
    have e : ofW (v : Int) xs = ofL v xs := by rw [ofW, hc, if_pos rfl, Int.toNat_natCast]
    rw [e] at hY ⊢
    refine (each1_in m hm l B1 B2 A n c xs v hv w0 hok hr (fun pre X => ∃ ys : List (DgtW v), ys.map (·.1) = pre ∧ J ys X) (fun pre X => ∃ ys : List (DgtW v), ys.map (·.1) = pre ∧ Jx ys X) (fun pre X ⟨ys, e, h⟩ => ⟨ys, e, hJ ys X X.drew none h ⟨rfl, rfl, rfl, Nat.le_refl _, fun _ _ _ => rfl⟩ (fun r e => by cases e)⟩)
      (fun pre x X hx ⟨ys, e, h⟩ hl => ?_) W (hb.trans (hW.mono hb.size)) (boxed_below hW h1.lt h1) (boxed_below hW h2.lt h2) ⟨[], rfl, h0⟩).mono ?_
    · have hy := hY ys ⟨x, hc, by rw [Int.toNat_natCast]; exact hx⟩ X h (by rw [← e, List.length_map] at hl; exact hl)
      obtain ⟨fn, tmps, assign, body, h1, h2⟩ := hy
      refine ⟨fn, tmps, assign, body, h1, h2.mono ?_⟩
      rintro e' X' (⟨a, b, c⟩ | ⟨a, b⟩)
      · exact .inl ⟨a, ⟨_, by simp [e], b⟩, c⟩
      · exact .inr ⟨a, ⟨_, by simp [e], b⟩⟩
    · rintro e W' ⟨he, ⟨zs, rfl, ys, h2, h3⟩ | ⟨pre, h4, ys, h5, h6⟩⟩
      · exact ⟨he, .inl ⟨ys, h2, h3⟩⟩
      · exact ⟨he, .inr ⟨ys, (by show ys.map (·.1) <+: ofL v xs; rw [h5]; exact h4), h6⟩⟩
/-- The digits that came, as values. -/
def rowD (w : Int) (pre : List (DgtW w)) : List Value := iv (pre.map (·.1))
theorem rowD_snoc (w : Int) (pre : List (DgtW w)) (x : DgtW w) : rowD w (pre ++ [x]) = rowD w pre ++ [.int .i64 (x.1 : Int)] := by simp [rowD, iv]
theorem ofW_len (w : Int) (xs : List UInt8) : (ofW w xs).length ≤ xs.length * 8 := by
  unfold ofW
  split
  · rw [ofL_length]
    exact Nat.mul_le_mul_left _ (Nat.div_le_self _ _)
  · simp

set_option maxRecDepth 100000 in
set_option maxHeartbeats 2000000 in
theorem append_any (A : Option Addr) (n c : Nat) (xs : List UInt8) (v : Int) (w0 w : World) (hok : WOk w0) (hr : Rd w0 A n c xs) (hn : n ≤ 1000000) (B1 B2 : Nat) (hb : Below w0.heap.size w0 w) (h1 : Boxed w B1 47 (.slice A n c)) (h2 : Boxed w B2 3 (.int .i64 v)) (hw0 : w0.heap.size ≤ B2) :
    Calls Tryd.prog 40 #[.slice none 0 0, .func (.func 39) #[] #[.pointer (some ⟨B2, 0, none⟩), .pointer (some ⟨B1, 0, none⟩)]] w (NewI w.heap.size w (ofW v xs)) := by
  refine (callsIn_wide (n := 3)).1 ?_
  have hbp := h2.lt
  obtain ⟨i0, hi, hz0, hz1, hz2⟩ := info_parts Tryd.infoI
  have HLN := Lib.hid (show (ofW v xs).length ≤ 8000000 by
    have := ofW_len v xs
    rw [hr.len] at this
    omega)
  have HOK := Lib.hid hok
  have HR := Lib.hid hr
  obtain ⟨D, hD⟩ : ∃ D, D = ofW v xs := ⟨_, rfl⟩
  have HD := Lib.hid hD
  rw [← hD] at HLN ⊢
  have bO := Boxed.new w 45 (.slice none 0 0)
  have b1 := h1.alloc (.cells #[.slice none 0 0] 45)
  have b2 := h2.alloc (.cells #[.slice none 0 0] 45)
  have hB0 : Below w.heap.size w (w.alloc (.cells #[.slice none 0 0] 45)) := (Below.refl _ w).alloc (Nat.le_refl _) _
  have hB00 : Below w0.heap.size w0 (w.alloc (.cells #[.slice none 0 0] 45)) := hb.trans (hB0.mono hb.size)
  have hs0 := hb.size
  have HX := Lib.hid (show Boxed (w.alloc (.cells #[.slice none 0 0] 45)) w.heap.size 45 (.slice none 0 0) ∧ Boxed (w.alloc (.cells #[.slice none 0 0] 45)) B1 47 (.slice A n c) ∧ Boxed (w.alloc (.cells #[.slice none 0 0] 45)) B2 3 (.int .i64 v) ∧ Below w.heap.size w (w.alloc (.cells #[.slice none 0 0] 45)) ∧ Below w0.heap.size w0 (w.alloc (.cells #[.slice none 0 0] 45)) ∧ (w.alloc (.cells #[.slice none 0 0] 45)).heap.size = w.heap.size + 1 from ⟨bO, b1, b2, hB0, hB00, by simp⟩)
  clear hok hr hD h1 h2 hb bO b1 b2 hB0 hB00
  refine callsIn_of_wp_marks Tryd.func40 rfl trivial ?_ rfl
  simp only [Tryd.ntmps40, List.size_toArray, List.length_cons, List.length_nil, Nat.reduceAdd, Nat.reduceSub, Array.replicate_succ, Array.replicate_zero, List.push_toArray, List.append_toArray, List.nil_append, List.cons_append]
  gi_wp2
  obtain ⟨wL, hL⟩ : ∃ wL, w.alloc (.cells #[.slice none 0 0] 45) = wL := ⟨_, rfl⟩
  rw [hL] at HX ⊢
  clear hL
  obtain ⟨bO, b1, b2, hB0, hB00, hsz⟩ := HX.out
  clear HX
  refine wpIn_rangeFunc_ownG rfl (by omega) (gf := 39) (lb := #[.pointer (some ⟨B2, 0, none⟩), .pointer (some ⟨B1, 0, none⟩)]) rfl trivial (enters_of Tryd.func39 (by kernel_rfl) rfl)
    (each_stops (3 - 1) (by omega) w0 A n c xs v HOK.out HR.out B1 B2 wL hB00 b1 b2) kpC_t (kpC_b (by omega)) (Below.refl _ _) (fun _ => rfl)
    (fun pre W => (∃ u, Boxed W w.heap.size 45 u ∧ W.ownsRow wL.heap.size 3 1 u pre.length (rowD v pre) ∧ True) ∧ Below w.heap.size w W ∧ wL.heap.size ≤ W.heap.size)
    (fun _ _ _ => False)
    (OwnFrom.and (Own.from (holdsRow_own wL.heap.size w.heap.size 45 3 1 (fun pre => pre.length) (fun pre : List (DgtW v) => rowD v pre) (fun pre u => True)) _) (OwnFrom.and (ownFrom_below (Nat.le_refl _) (by omega)) (fun _ _ _ _ h hg _ => Nat.le_trans h hg.size)))
    (fun _ _ _ _ _ hs _ _ => hs)
    ⟨⟨_, bO, World.ownsRow_nil _ _ _ _, trivial⟩, hB0, Nat.le_refl _⟩
    (fun x => { tmps := #[.slice none 0 0, .func (.func 39) #[] #[.pointer (some ⟨B2, 0, none⟩), .pointer (some ⟨B1, 0, none⟩)], .pointer (some ⟨w.heap.size, 0, none⟩), undef, .slice none 0 0, .int .i64 (x.1 : Int), .func (.func 39) #[] #[.pointer (some ⟨B2, 0, none⟩), .pointer (some ⟨B1, 0, none⟩)], .int .i64 (x.1 : Int), undef, undef, undef, undef, undef], defers := [] }) ?assign ?body ?done ?stop
  case assign =>
    intro l x W K hK
    gi_wp2
    exact hK
  case body =>
    rintro l pre ⟨x, hx⟩ W ⟨⟨u, hu, hrow, _⟩, hB, hWs⟩ hlt
    have hc := hu.cell
    have hpl : pre.length < 8000000 := by have := HLN.out; rw [← HD.out] at hlt; omega
    gi_wp2_with (gi_at_builtin; refine wpListIn_append_own _ rfl _ _ 45 rfl wL.heap.size 3 i0 (.int .i64 0) 1 8 Tryd.underlying45 hi hz0 hz1 hz2 rfl (by decide) _ _ _ rfl (hrow.alloc _) ⟨W.heap.size, 0, none⟩ 1 1 [.int .i64 (x : Int)] rfl rfl (cell_one_new _ _ _) (by simp [Value.oneCell']) (by simp only [maxLen]; omega) (by omega) (by simp; omega) ?_; intro v' w1 hown' hgrow _; obtain ⟨g', cap', rfl⟩ := ownsRow_succ hown'; obtain ⟨hv1, hv2, hr2, hk2, hb2, hb3⟩ := appended2 hu hrow hWs (by omega) hown' hgrow; have hc1 := hv1.cell; have hf1 := hv1.frozen)
    exact ⟨hk2.from _, ⟨hb2 _ (by omega), fun o ho _ => hb3 _ (by omega) (by omega) o ho⟩, ⟨_, hv2, by rw [rowD_snoc, List.length_append, ← hsz]; exact hr2⟩, hB.trans (hb2 _ (Nat.le_refl _)), by have := (hb2 _ (Nat.le_refl _)).size; omega⟩
  case done =>
    rintro D' ys W hD' hys ⟨⟨u, hu, hrow, _⟩, hB, _⟩ hK
    rw [rowD, hys, ← HD.out] at hrow
    have hc := hu.cell
    gi_wp2
    refine ⟨by simp, .inl ⟨_, _, rfl, run_takeDeferred hK, ?_⟩⟩
    exact ⟨_, results_tmp rfl _ _ _, NewI.mk (own_basei (ownsRow_putObj hrow _ hK rfl) (by omega)) (hB.trans (belowK_b (w := w) (Nat.le_refl _) W D' _ _ (by omega) hK rfl rfl))⟩
  case stop =>
    rintro D c pre W _ _ h _
    exact h.elim
end Go.Proofs.YtbkafkpnohbccaaDoor.S7
