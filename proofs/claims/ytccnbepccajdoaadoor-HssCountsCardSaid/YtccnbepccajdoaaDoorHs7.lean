/-
  What the library's Backward does over pairs. No statement is proved here.
-/
import Derived.RangeFuncBox
import Derived.RangeFuncNested
import Derived.RangeFuncBound
import Derived.RangeFuncCalls
import Derived.RangeFuncLeaves
import Derived.Shelf.Abstract
import Derived.Shelf.RegionOpen
import Derived.WalkKit
import Derived.OwnWalkIn
import Derived.TacticsInMore
import Derived.LoopNIn
import Derived.LoopIn
import Derived.Maps.AppendAt
import Derived.Outline
import Derived.Test.YtccnbepccajdoaaDoorHs6
import Derived.Test.YtccnbepccajdoaaDoorHp2
namespace Go.Proofs.YtccnbepccajdoaaDoor.S13
set_option linter.unusedSimpArgs false
set_option linter.unusedVariables false
open Go.RowKit Go.Shelf S7 S8
attribute [local go_sem] Oper.semAt_some

/-- What a round keeps: what lay below n, and a variable's box. -/
def KpC (n B : Nat) (X Y : World) : Prop := Below n X Y ∧ ∀ o, X.heap[B]? = some o → o.isCells = true → Y.heap[B]? = some o
theorem kpC_t {n B : Nat} {X Y Z : World} (h : KpC n B X Y) (k : KpC n B Y Z) : KpC n B X Z := ⟨h.1.trans k.1, fun o ho hc => k.2 o (h.2 o ho hc) hc⟩
theorem kpC_b {n B : Nat} {w : World} (hn : n ≤ w.heap.size) (W : World) (l : Nat) (o o' : Obj) (hl : w.heap.size ≤ l) (h : W.heap[l]? = some o) (hc : o.isCells = false) (hw : o.isWalk = false) : KpC n B W (W.putObj l o') :=
  ⟨belowK_b hn W l o o' hl h hc hw, fun o2 h2 c2 => by
    have hne : B ≠ l := fun e => by rw [e, h] at h2; cases h2; rw [hc] at c2; cases c2
    rw [World.putObj_heap_other hne]; exact h2⟩
theorem kpC_box {n B : Nat} {X Y : World} {t : TypeId} {v : Value} (h : KpC n B X Y) (hb : Boxed X B t v) : Boxed Y B t v := h.2 _ hb rfl
theorem boxed_below {n B : Nat} {X Y : World} {t : TypeId} {v : Value} (h : Below n X Y) (hB : B < n) (hb : Boxed X B t v) : Boxed Y B t v := (h.block B hB).trans hb
abbrev prV (p : Pr) : Value := .agg #[.int .u32 (p.1 : Int), .int .u32 (p.2 : Int)]

theorem back_any (A : Option Addr) (n c : Nat) (w : World) :
    Calls Tryd.prog 17 #[.slice A n c] w fun e w' => e = .returned (.func (.func 28) #[] #[.pointer (some ⟨w.heap.size, 0, none⟩)]) ∧ w' = w.alloc (.cells #[.slice A n c] 22) := by
  go_enter Tryd.func17, Tryd.ntmps17
  go_wp2
  go_ret
  exact ⟨rfl, rfl⟩
set_option maxRecDepth 100000 in
set_option maxHeartbeats 1000000 in
theorem back_in (m : Nat) (hm : 1 ≤ m) (l B1 : Nat) (A : Option Addr) (n c : Nat) (L : List Pr) (w0 : World) (hr : Rp w0 A n c L) (J Jx : List Nat → World → Prop)
    (hY : ∀ pre (i : Nat) X, i < n → J pre X → pre.length < n → YieldAt Fence.wide (m - 1) Tryd.prog l #[.int .i64 (i : Int), prV (at_ L i)] X fun e X' =>
      (e = .returned (.bool true) ∧ J (pre ++ [i]) X' ∧ KpC w0.heap.size B1 X X') ∨ (e = .returned (.bool false) ∧ Jx (pre ++ [i]) X'))
    (W : World) (hb0 : Below w0.heap.size w0 W) (hB1 : Boxed W B1 22 (.slice A n c)) (h0 : J [] W) :
    CallsIn Fence.wide m Tryd.prog 28 #[.func (.yield l) #[] #[], .pointer (some ⟨B1, 0, none⟩)] W fun e W' => (∃ u, e = .returned u) ∧
      ((∃ ys, ys = rv n n ∧ J ys W') ∨ (∃ pre, Jx pre W')) := by
  have lm : n ≤ maxLen := Nat.le_trans hr.cap hr.max
  unfold maxLen at lm
  have HR := Lib.hid hr
  have HY := Lib.hid hY
  have HB0 := Lib.hid hb0
  have HB1 := Lib.hid hB1
  have hc1 := hB1.cell
  have HJ0 := Lib.hid h0
  clear hr hY hb0 hB1 h0
  refine callsIn_of_wp Tryd.func28 rfl trivial ?_ rfl
  simp only [Tryd.ntmps28, List.size_toArray, List.length_cons, List.length_nil, Nat.reduceAdd, Nat.reduceSub, Array.replicate_succ, Array.replicate_zero, List.push_toArray, List.append_toArray, List.nil_append, List.cons_append]
  gi_wp2
  gi_loopw [3] (fun i wr => ∃ k : Nat, k ≤ n ∧ i = .int .i64 ((n : Int) - 1 - (k : Int)) ∧ J (rv n k) wr ∧ Boxed wr B1 22 (.slice A n c) ∧ Below w0.heap.size w0 wr) (fun i _ => (intOf i + 1).toNat)
  case atStart => exact ⟨0, Nat.zero_le _, by simp, HJ0.out, HB1.out, HB0.out⟩
  case round =>
    obtain ⟨k, hk, rfl, hJ, hbx, hbl⟩ := hrel
    by_cases hlt : k < n
    · obtain ⟨i, hi⟩ : ∃ i : Nat, i = n - 1 - k := ⟨_, rfl⟩
      have i1 : (n : Int) - 1 - (k : Int) = (i : Int) := by omega
      have i2 : i < n := by omega
      have HI := Lib.hid hi
      rw [i1]
      obtain ⟨b, off, rfl, hb, hcell⟩ := (HR.out.below hbl).at_ (by omega)
      obtain ⟨e0, e1⟩ := hcell i i2
      obtain ⟨fn, tmps, assign, body, hy, hR⟩ := HY.out _ i _ i2 hJ (by rw [rv_length]; exact hlt)
      have hcw := hbx.cell
      replace hR := hR.mono (R' := fun e W' => ∃ r : Bool, e = .returned (.bool r) ∧ Hid ((r = true ∧ J (rv n k ++ [i]) W' ∧ KpC w0.heap.size B1 wr W') ∨ (r = false ∧ Jx (rv n k ++ [i]) W'))) (fun e W' h => by
        rcases h with ⟨h1, h2, h3⟩ | ⟨h1, h2⟩
        · exact ⟨true, h1, Lib.hid (.inl ⟨rfl, h2, h3⟩)⟩
        · exact ⟨false, h1, Lib.hid (.inr ⟨rfl, h2⟩)⟩)
      have HBX := Lib.hid hbx
      have HBL := Lib.hid hbl
      clear hcell hi i1 hbx hbl hJ
      gi_wp2_with (refine hR.mono ?_; rintro e W3 ⟨r, rfl, h3⟩)
      · have hr : (!r) = true := by assumption
        rcases h3.out with ⟨rfl, _, _⟩ | ⟨rfl, hx⟩
        · cases hr
        · refine bodyPost_ret (results_none rfl _ _ _) rfl ?_
          exact ⟨⟨_, rfl⟩, .inr ⟨_, hx⟩⟩
      · have hr : (!r) = false := by assumption
        rcases h3.out with ⟨rfl, hj, hkp⟩ | ⟨rfl, _⟩
        · have HI' := HI.out
          refine ⟨⟨k + 1, by omega, by congr 1; omega, by rw [rv_succ, ← HI']; exact hj, kpC_box hkp HBX.out, HBL.out.trans hkp.1⟩, by simp [intOf]⟩
        · cases hr
    · obtain rfl : k = n := by omega
      have i1 : (k : Int) - 1 - (k : Int) = -1 := by omega
      rw [i1]
      have HJJ := Lib.hid hJ
      clear hJ hbx hbl i1
      gi_wp2
      go_end0
      exact ⟨⟨_, rfl⟩, .inl ⟨_, rfl, HJJ.out⟩⟩
/-- A level. -/
abbrev Lev (n : Nat) := { i : Nat // i < n }
theorem back_stops (m : Nat) (hm : 1 ≤ m) (A : Option Addr) (n c : Nat) (L : List Pr) (w0 : World) (hr : Rp w0 A n c L) (B1 : Nat) (W0 : World) (hb : Below w0.heap.size w0 W0) (h1 : Boxed W0 B1 22 (.slice A n c)) :
    SeqStopsK Fence.wide m Tryd.prog 28 #[.pointer (some ⟨B1, 0, none⟩)] (fun x : Lev n => #[.int .i64 (x.1 : Int), prV (at_ L x.1)]) (KpC w0.heap.size B1) (fun ys => ys.map (·.1) = rv n n) (fun _ => True) n W0 := fun l J Jx W hW hJ _ hY h0 => by
  refine (back_in m hm l B1 A n c L w0 hr (fun pre X => ∃ ys : List (Lev n), ys.map (·.1) = pre ∧ J ys X) (fun pre X => ∃ ys : List (Lev n), Jx ys X) (fun pre i X hi ⟨ys, e, h⟩ hl => ?_) W (hb.trans (hW.mono hb.size)) (boxed_below hW h1.lt h1) ⟨[], rfl, h0⟩).mono ?_
  · have hy := hY ys ⟨i, hi⟩ X h (by rw [← e, List.length_map] at hl; exact hl)
    obtain ⟨fn, tmps, assign, body, h1, h2⟩ := hy
    refine ⟨fn, tmps, assign, body, h1, h2.mono ?_⟩
    rintro e' X' (⟨a, b, c⟩ | ⟨a, b⟩)
    · exact .inl ⟨a, ⟨_, by simp [e], b⟩, c⟩
    · exact .inr ⟨a, ⟨_, b⟩⟩
  · rintro e W' ⟨he, ⟨zs, rfl, ys, h2, h3⟩ | ⟨pre, ys, h6⟩⟩
    · exact ⟨he, .inl ⟨ys, h2, h3⟩⟩
    · exact ⟨he, .inr ⟨ys, trivial, h6⟩⟩
end Go.Proofs.YtccnbepccajdoaaDoor.S13
