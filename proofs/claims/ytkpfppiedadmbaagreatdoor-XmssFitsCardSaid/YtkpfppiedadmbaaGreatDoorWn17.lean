/-
  Texts put together: DigK2, Rfb, DigK3, DigK4. No statement is proved here.
-/
import Derived.RangeFuncBox
import Derived.RangeFuncNested
import Derived.RangeFuncBound
import Derived.RangeFuncCalls
import Derived.RangeFuncLeaves
import Derived.Shelf.Abstract
import Derived.Shelf.RegionOpen
import Derived.WalkKit
import Derived.OwnWalkIn
import Derived.TacticsInMore
import Derived.LoopNIn
import Derived.LoopIn
import Derived.Maps.AppendAt
import Derived.Outline
import Derived.Test.YtkpfppiedadmbaaGreatDoorWn16
import Derived.Test.YtkpfppiedadmbaaGreatDoorRows

/-
  What the landed digits' iterator does: each (its closure calls May, greatest, and the yield). No statement is proved here.
-/
namespace Go.Proofs.YtkpfppiedadmbaaGreatDoor.S7
set_option linter.unusedSimpArgs false
set_option linter.unusedVariables false
set_option maxRecDepth 1024
open Go.RowKit Go.Shelf
attribute [local go_sem] Oper.semAt_some

theorem ofInt_i64 (a : Nat) (ha : a < 65536) : (BitVec.ofInt 64 (a : Int)).toNat = a := by
  rw [BitVec.ofInt_natCast, BitVec.toNat_ofNat]; exact Nat.mod_eq_of_lt (by omega)
theorem i64_and_nat (a b : Nat) (ha : a < 65536) (hb : b < 65536) : bits .and .i64 (a : Int) (b : Int) = ((a &&& b : Nat) : Int) := by
  have hx : a &&& b < 2 ^ 16 := Nat.and_lt_two_pow _ (by omega)
  show IntKind.i64.wrap ((BitVec.ofInt 64 (a : Int) &&& BitVec.ofInt 64 (b : Int)).toNat : Int) = _
  rw [BitVec.toNat_and, ofInt_i64 a ha, ofInt_i64 b hb, IntKind.wrap_i64]
  omega
/-- What a round keeps: what lay below n, and a variable's box. -/
def KpC (n B : Nat) (X Y : World) : Prop := Below n X Y ∧ ∀ o, X.heap[B]? = some o → o.isCells = true → Y.heap[B]? = some o
theorem kpC_t {n B : Nat} {X Y Z : World} (h : KpC n B X Y) (k : KpC n B Y Z) : KpC n B X Z := ⟨h.1.trans k.1, fun o ho hc => k.2 o (h.2 o ho hc) hc⟩
theorem kpC_b {n B : Nat} {w : World} (hn : n ≤ w.heap.size) (W : World) (l : Nat) (o o' : Obj) (hl : w.heap.size ≤ l) (h : W.heap[l]? = some o) (hc : o.isCells = false) (hw : o.isWalk = false) : KpC n B W (W.putObj l o') :=
  ⟨belowK_b hn W l o o' hl h hc hw, fun o2 h2 c2 => by
    have hne : B ≠ l := fun e => by rw [e, h] at h2; cases h2; rw [hc] at c2; cases c2
    rw [World.putObj_heap_other hne]; exact h2⟩
theorem kpC_box {n B : Nat} {X Y : World} {t : TypeId} {v : Value} (h : KpC n B X Y) (hb : Boxed X B t v) : Boxed Y B t v := h.2 _ hb rfl
theorem boxed_below {n B : Nat} {X Y : World} {t : TypeId} {v : Value} (h : Below n X Y) (hB : B < n) (hb : Boxed X B t v) : Boxed Y B t v := (h.block B hB).trans hb
/-- The digits as they come. -/
theorem ofL_upto (w : Nat) (hw : wid w) (xs : List UInt8) (i k : Nat) (hi : i < xs.length) (hk : k < 8 / w) : (ofL w xs).take (i * (8 / w) + (k + 1)) = (ofL w xs).take (i * (8 / w) + k) ++ [dg w (xs.getD i 0).toNat k] := by
  rw [← Nat.add_assoc, List.take_add_one, ofL_pos w hw xs i k hi hk]
  rfl

set_option maxRecDepth 100000 in
set_option maxHeartbeats 1000000 in
theorem each1_in (m : Nat) (hm : 1 ≤ m) (l B1 B2 : Nat) (A : Option Addr) (n c : Nat) (xs : List UInt8) (v : Nat) (hv : wid v) (w0 : World) (hok : WOk w0) (hr : Rd w0 A n c xs) (J Jx : List Nat → World → Prop)
    (hJd : ∀ pre X, J pre X → J pre X.drew)
    (hY : ∀ pre (x : Nat) X, x < 2 ^ v → J pre X → pre.length < (ofL v xs).length → YieldAt Fence.wide (m - 1) Tryz.prog l #[.int .i64 (x : Int)] X fun e X' =>
      (e = .returned (.bool true) ∧ J (pre ++ [x]) X' ∧ KpC w0.heap.size B2 X X') ∨ (e = .returned (.bool false) ∧ Jx (pre ++ [x]) X'))
    (W : World) (hb0 : Below w0.heap.size w0 W) (hB1 : Boxed W B1 24 (.slice A n c)) (hB2 : Boxed W B2 3 (.int .i64 (v : Int))) (h0 : J [] W) :
    CallsIn Fence.wide m Tryz.prog 120 #[.func (.yield l) #[] #[], .pointer (some ⟨B2, 0, none⟩), .pointer (some ⟨B1, 0, none⟩)] W fun e W' => (∃ u, e = .returned u) ∧
      ((∃ ys, ys = ofL v xs ∧ J ys W') ∨ (∃ pre, pre <+: ofL v xs ∧ Jx pre W')) := by
  have lm : n ≤ maxLen := Nat.le_trans hr.cap hr.max
  unfold maxLen at lm
  obtain ⟨h8, hv1, hv8⟩ := wid_div hv
  obtain ⟨E, hE⟩ : ∃ E, E = 8 / v := ⟨_, rfl⟩
  have HV := Lib.hid hv
  have HL := Lib.hid hr.len
  have HR := Lib.hid hr
  have HE := Lib.hid hE
  have h8' : v * E = 8 := by rw [hE]; exact h8
  have H8 := Lib.hid h8'
  have HUP := Lib.hid (fun i k (hi : i < n) (hk : k < E) => ofL_upto v hv xs i k (by rw [HL.out]; exact hi) (by rw [← hE]; exact hk))
  rw [← hE] at HUP
  obtain ⟨D, hD⟩ : ∃ D, D = ofL v xs := ⟨_, rfl⟩
  have HD := Lib.hid (show D.length = n * E by rw [hD, ofL_length, HL.out, hE])
  rw [← hD] at HUP hY ⊢
  have HY := Lib.hid hY
  have HJ := Lib.hid hJd
  have HB0 := Lib.hid hb0
  have HB2 := Lib.hid hB2
  have hc1 := hB1.cell
  have hwB := hB2.cell
  have HM := Lib.hid (may_any (v : Int) W (hok.below hb0))
  rw [may_wid hv] at HM
  have HGR := Lib.hid (fun X => great_any v hv X)
  obtain ⟨P, hP⟩ : ∃ P, P = 2 ^ v := ⟨_, rfl⟩
  rw [← hP] at HGR
  have HP := Lib.hid hP
  clear hv hr hE h8 h8' hD hY hJd hb0 hB1 hB2 hok hP
  refine callsIn_of_wp Tryz.func120 rfl trivial ?_ rfl
  simp only [Tryz.ntmps120, List.size_toArray, List.length_cons, List.length_nil, Nat.reduceAdd, Nat.reduceSub, Array.replicate_succ, Array.replicate_zero, List.push_toArray, List.append_toArray, List.nil_append, List.cons_append]
  gi_wp2_with (refine ⟨trivial, ?_⟩; gi_at_call 106; refine (callsIn_wide.2 HM.out).mono ?_; rintro e w1 ⟨rfl, rfl⟩)
  gi_loopw [12] (fun i wr => ∃ j : Nat, j ≤ n ∧ i = .int .i64 (j : Int) ∧ J (D.take (j * E)) wr ∧ Boxed wr B2 3 (.int .i64 (v : Int)) ∧ Below w0.heap.size w0 wr) (fun i _ => n - (intOf i).toNat)
  case atStart => exact ⟨0, Nat.zero_le _, rfl, by simpa using h0, HB2.out, HB0.out⟩
  case round =>
    obtain ⟨j, hj, rfl, hJ, hbx, hbl⟩ := hrel
    by_cases hlt : j < n
    · have i1 : (j : Int) < (n : Int) := by omega
      obtain ⟨b, off, rfl, hb, hcell⟩ := (HR.out.below hbl).at_ (by omega)
      have hcj := hcell j hlt
      obtain ⟨x, hx⟩ : ∃ x, x = (xs.getD j 0).toNat := ⟨_, rfl⟩
      have hx256 : x < 256 := by rw [hx]; exact UInt8.toNat_lt _
      have HUJ := Lib.hid (fun k hk => HUP.out j k hlt hk)
      rw [← hx] at HUJ hcj
      have hcw := hbx.cell
      have HBX := Lib.hid hbx
      have HBL := Lib.hid hbl
      have HJJ := Lib.hid hJ
      clear hcell hx hbx hbl hJ
      gi_wp2
      obtain ⟨wo, rfl⟩ : ∃ wo : World, wo = wr := ⟨_, rfl⟩
      gi_loopw [6] (fun s wr => ∃ k : Nat, k ≤ E ∧ s = .int .i64 (8 - (v * (k + 1) : Nat) : Int) ∧ J (D.take (j * E + k)) wr ∧ Boxed wr B2 3 (.int .i64 (v : Int)) ∧ Below w0.heap.size w0 wr) (fun s _ => (intOf s + v).toNat)
      case atStart => exact ⟨0, Nat.zero_le _, by simp, HJJ.out, HBX.out, HBL.out⟩
      case round =>
        obtain ⟨k, hk, rfl, hJ, hbx, hbl⟩ := hrel
        obtain ⟨G, hG⟩ : ∃ G, G = v * (k + 1) := ⟨_, rfl⟩
        rw [← hG]
        by_cases hlt2 : k < E
        · have hG8 : G ≤ 8 := by
            rw [hG]
            have := Nat.mul_le_mul_left v (show k + 1 ≤ E by omega)
            rw [H8.out] at this
            exact this
          have hG1 : v ≤ G := by rw [hG]; exact Nat.le_mul_of_pos_right _ (by omega)
          obtain ⟨S, hS⟩ : ∃ S, S = 8 - G := ⟨_, rfl⟩
          have s1 : 8 - (G : Int) = (S : Int) := by omega
          rw [s1]
          obtain ⟨fn, tmps, assign, body, hy, hR⟩ := HY.out _ (dg v x k) _ (dg_lt v x k) (HJ.out _ _ hJ) (by
            rw [List.length_take, HD.out]
            have h1 : (j + 1) * E ≤ n * E := Nat.mul_le_mul_right _ hlt
            rw [Nat.succ_mul] at h1
            omega)
          have hcw2 := hbx.cell
          obtain ⟨Y, hY⟩ : ∃ Y, Y = x / 2 ^ S := ⟨_, rfl⟩
          have hYx : Y ≤ x := by rw [hY]; exact Nat.div_le_self _ _
          have y1 : (x : Int) / 2 ^ S = (Y : Int) := by rw [hY]; simp
          have hP := HP.out
          have hP0 : 2 ≤ P := by rw [hP]; rcases HV.out with h | h | h | h <;> subst h <;> decide
          have hP1 : P ≤ 256 := by rw [hP]; rcases HV.out with h | h | h | h <;> subst h <;> decide
          have hmix : Tryz.prog.follows .mixedOrders = true := by kernel_rfl
          have HDG := Lib.hid (show dg v x k = Y &&& (P - 1) by rw [hP, Nat.and_two_pow_sub_one_eq_mod, hY, hS, hG]; rfl)
          obtain ⟨Z, hZ⟩ : ∃ Z, Z = dg v x k := ⟨_, rfl⟩
          rw [← hZ] at hy hR HDG
          have hUK := HUJ.out k hlt2
          rw [← hZ] at hUK
          have HUK := Lib.hid hUK
          have HSN := Lib.hid (show (S : Int) - (v : Int) = 8 - ((v * (k + 1 + 1) : Nat) : Int) by rw [Nat.mul_succ, ← hG]; omega)
          clear hUK hZ
          clear hY hP hS hG
          gi_wp2
          have w1 : IntKind.i64.wrap (Y : Int) = (Y : Int) := by rw [IntKind.wrap_i64]; omega
          have w4 : bits .and .i64 (Y : Int) ((P - 1 : Nat) : Int) = (Z : Int) := by rw [i64_and_nat _ _ (by omega) (by omega), HDG.out]
          replace hR := hR.mono (R' := fun e W' => ∃ r : Bool, e = .returned (.bool r) ∧ Hid ((r = true ∧ J (D.take (j * E + k) ++ [Z]) W' ∧ KpC w0.heap.size B2 wr.drew W') ∨ (r = false ∧ Jx (D.take (j * E + k) ++ [Z]) W'))) (fun e W' h => by
            rcases h with ⟨h1, h2, h3⟩ | ⟨h1, h2⟩
            · exact ⟨true, h1, Lib.hid (.inl ⟨rfl, h2, h3⟩)⟩
            · exact ⟨false, h1, Lib.hid (.inr ⟨rfl, h2⟩)⟩)
          gi_region_with_o (first | (refine ⟨trivial, ?_⟩; refine (callsIn_wide.2 (HGR.out _)).mono ?_; rintro e w1 ⟨rfl, rfl⟩) | (refine hR.mono ?_; rintro e W3 ⟨r, rfl, h3⟩))
          clear w1 w4
          rcases h3.out with ⟨rfl, hJ3, hk3⟩ | ⟨rfl, hJx3⟩
          · have hbx3 : Boxed W3 B2 3 (.int .i64 (v : Int)) := kpC_box hk3 (show Boxed wr.drew B2 3 (.int .i64 (v : Int)) from hbx)
            have hcw3 := hbx3.cell
            have HBX3 := Lib.hid hbx3
            have HB3 := Lib.hid (show Below w0.heap.size w0 W3 from hbl.drew.trans hk3.1)
            have HJ3 := Lib.hid hJ3
            clear hJ3 hk3 hbx3 hbl hbx hJ h3 hy hR hcw2
            gi_wp2
            go_roundw
            case rel => exact ⟨k + 1, by omega, by rw [HSN.out], by rw [HUK.out]; exact HJ3.out, HBX3.out, HB3.out⟩
            case measure => simp [intOf]; omega
          · have HJ3 := Lib.hid hJx3
            clear hJx3 hbl hbx hJ h3 hy hR
            gi_wp2
            refine bodyPost_ret (results_none rfl _ _ _) rfl ?_
            exact ⟨⟨_, rfl⟩, .inr ⟨_, by rw [← HUK.out]; exact List.take_prefix _ _, HJ3.out⟩⟩
        · obtain rfl : k = E := by omega
          have hG8 : G = 8 + v := by rw [hG, Nat.mul_succ, H8.out]
          have s1 : 8 - (G : Int) = -(v : Int) := by omega
          have HJN := Lib.hid (show J (D.take ((j + 1) * k)) wr by rw [Nat.succ_mul]; exact hJ)
          have HBX3 := Lib.hid hbx
          have HB3 := Lib.hid hbl
          have v0 : ¬ (0 : Int) ≤ -(v : Int) := by omega
          rw [s1]
          clear hJ hbx hbl hG hG8 s1
          gi_wp2
          go_roundw
          case rel => exact ⟨j + 1, by omega, by go_num, HJN.out, HBX3.out, HB3.out⟩
          case measure => simp [intOf]; omega
    · obtain rfl : j = n := by omega
      have i1 : ¬ (j : Int) < (j : Int) := by omega
      have ht : D.take (j * E) = D := List.take_of_length_le (by rw [HD.out]; exact Nat.le_refl _)
      rw [ht] at hJ
      have HJJ := Lib.hid hJ
      clear ht hJ hbx hbl
      gi_wp2
      go_end0
      exact ⟨⟨_, rfl⟩, .inl HJJ.out⟩
end Go.Proofs.YtkpfppiedadmbaaGreatDoor.S7

/-
  A loop over an iterator whose body appends to a boxed slice, where the row lies beyond every box. No statement is proved here.
-/
namespace Go.Proofs.YtkpfppiedadmbaaGreatDoor
set_option linter.unusedSimpArgs false
set_option linter.unusedVariables false
set_option maxRecDepth 1024
open Go Go.RowKit

theorem row_far {W : World} {R B e size k : Nat} {v : Value} {xs : List Value} (hB : B < R) (hr : W.ownsRow R e size v k xs) : some B ≠ v.ownBlock := by
  rcases hr.2 with ⟨rfl, _⟩ | ⟨g, cap, cur, rfl, hg, _⟩
  · simp [Value.ownBlock]
  · intro e'
    obtain rfl : B = g := by simpa [Value.ownBlock] using e'
    omega
theorem appended2 {W w1 : World} {R B : Nat} {t e : TypeId} {size : Nat} {v v' : Value} {k m : Nat} {xs ys : List Value} {tmp : Obj}
    (hv : Boxed W B t v) (hrow : W.ownsRow R e size v k xs) (hR : R ≤ W.heap.size) (hB : B < R)
    (hown' : w1.ownsRow R e size v' m ys) (hgrow : (W.alloc tmp).grownBy w1 v.ownBlock) :
    Boxed w1 B t v ∧ Boxed (w1.setCell ⟨B, 0, none⟩ v') B t v' ∧ (w1.setCell ⟨B, 0, none⟩ v').ownsRow R e size v' m ys ∧ KeepsOthers W (w1.setCell ⟨B, 0, none⟩ v') ∧
      (∀ n₀, n₀ ≤ B → Below n₀ W (w1.setCell ⟨B, 0, none⟩ v')) ∧ (∀ B2, B2 < R → B2 ≠ B → ∀ o, W.heap[B2]? = some o → (w1.setCell ⟨B, 0, none⟩ v').heap[B2]? = some o) := by
  have hv1 : Boxed w1 B t v := (hv.alloc tmp).kept hgrow (row_far hB hrow)
  refine ⟨hv1, hv1.set v', hown'.kept (grownBy_setCell' w1 B v') (.inr (row_far hB hown').symm), ?_, ?_, ?_⟩
  · refine ((KeepsOthers.alloc W tmp).trans (KeepsOthers.of_grownBy hgrow fun j o ej hj => ?_)).trans (KeepsOthers.setCell _ _ _)
    rcases (hrow.alloc tmp).2 with ⟨rfl, _⟩ | ⟨g, cap, cur, rfl, _, hgb, _⟩
    · simp [Value.ownBlock] at ej
    · obtain rfl : g = j := by simpa [Value.ownBlock] using ej
      rw [hgb] at hj; cases hj; rfl
  · intro n₀ hn
    refine (((Below.refl n₀ W).alloc (by omega) tmp).grown hgrow (by simp; omega) fun j ej => ?_).setCell (p := ⟨B, 0, none⟩) hn v'
    rcases hrow.2 with ⟨rfl, _⟩ | ⟨g, cap, cur, rfl, hb, _, _⟩
    · simp [Value.ownBlock] at ej
    · obtain rfl : g = j := by simpa [Value.ownBlock] using ej
      omega
  · intro B2 h2 hne o ho
    have hlt : B2 < W.heap.size := by omega
    have h1 : (W.alloc tmp).heap[B2]? = some o := (Below.heap_alloc W tmp B2 hlt).trans ho
    have h3 : w1.heap[B2]? = some o := by
      refine (hgrow.block B2 (by simp; omega) ?_).trans h1
      exact row_far h2 hrow
    exact (Below.heap_setCell _ _ _ B2 hne).trans h3
end Go.Proofs.YtkpfppiedadmbaaGreatDoor

/-
  What the landed digits' calls do over their iterator: Of (by the library's Collect, AppendSeq). No statement is proved here.
-/
namespace Go.Proofs.YtkpfppiedadmbaaGreatDoor.S7
set_option linter.unusedSimpArgs false
set_option linter.unusedVariables false
set_option maxRecDepth 1024
open Go.RowKit Go.Shelf
attribute [local go_sem] Oper.semAt_some

/-- Of no width nothing comes. -/
theorem each0_in (m : Nat) (hm1 : 1 ≤ m) (l B1 B2 : Nat) (w : Int) (W : World) (hok : WOk W) (hm : mayB w = false) (hB2 : Boxed W B2 3 (.int .i64 w)) :
    CallsIn Fence.wide m Tryz.prog 120 #[.func (.yield l) #[] #[], .pointer (some ⟨B2, 0, none⟩), .pointer (some ⟨B1, 0, none⟩)] W fun e W' => (∃ u, e = .returned u) ∧ W = W' := by
  have hc := hB2.cell
  have HM := Lib.hid (may_any w W hok)
  rw [hm] at HM
  clear hok hm hB2
  refine callsIn_of_wp Tryz.func120 rfl trivial ?_ rfl
  simp only [Tryz.ntmps120, List.size_toArray, List.length_cons, List.length_nil, Nat.reduceAdd, Nat.reduceSub, Array.replicate_succ, Array.replicate_zero, List.push_toArray, List.append_toArray, List.nil_append, List.cons_append]
  gi_wp2_with (refine ⟨trivial, ?_⟩; gi_at_call 106; refine (callsIn_wide.2 HM.out).mono ?_; rintro e w1 ⟨rfl, rfl⟩)
  try simp only [Exit.inBlock, Exit.then]
  refine bodyPost_ret (results_none rfl _ _ _) rfl ?_
  exact ⟨⟨_, rfl⟩, rfl⟩
set_option maxHeartbeats 1000000 in
/-- What is captured is boxed; the function value captures the boxes. -/
theorem each_any (A : Option Addr) (n c : Nat) (v : Int) (w : World) :
    Calls Tryz.prog 109 #[.slice A n c, .int .i64 v] w fun e w' => e = .returned (.func (.func 120) #[] #[.pointer (some ⟨w.heap.size + 1, 0, none⟩), .pointer (some ⟨w.heap.size, 0, none⟩)]) ∧ w' = (w.alloc (.cells #[.slice A n c] 24)).alloc (.cells #[.int .i64 v] 3) := by
  go_enter Tryz.func109, Tryz.ntmps109
  go_wp2
  go_ret
  exact ⟨rfl, rfl⟩
/-- A digit of a width. -/
abbrev DgtW (w : Int) := { x : Nat // mayB w = true ∧ x < 2 ^ w.toNat }
/-- The function value hands over all digits, or those up to where a round has said 'no more'. -/
theorem each_stops (m : Nat) (hm : 1 ≤ m) (w0 : World) (A : Option Addr) (n c : Nat) (xs : List UInt8) (w : Int) (hok : WOk w0) (hr : Rd w0 A n c xs) (B1 B2 : Nat) (W0 : World) (hb : Below w0.heap.size w0 W0) (h1 : Boxed W0 B1 24 (.slice A n c)) (h2 : Boxed W0 B2 3 (.int .i64 w)) :
    SeqStopsK Fence.wide m Tryz.prog 120 #[.pointer (some ⟨B2, 0, none⟩), .pointer (some ⟨B1, 0, none⟩)] (fun x : DgtW w => #[Value.int .i64 (x.1 : Int)]) (KpC w0.heap.size B2) (fun ys => ys.map (·.1) = ofW w xs) (fun pre => pre.map (·.1) <+: ofW w xs) (ofW w xs).length W0 := fun l J Jx W hW hJ _ hY h0 => by
  by_cases hc : mayB w = true
  rotate_left
  · replace hc : mayB w = false := by simpa using hc
    have e : ofW w xs = [] := by rw [ofW, hc, if_neg (by simp)]
    refine (each0_in m hm l B1 B2 w W (hok.below (hb.trans (hW.mono hb.size))) hc (boxed_below hW h2.lt h2)).mono ?_
    rintro e' W' ⟨h1, rfl⟩
    exact ⟨h1, .inl ⟨[], by show ([] : List (DgtW w)).map (·.1) = ofW w xs; rw [e]; rfl, h0⟩⟩
  · obtain ⟨v, rfl, hv⟩ := wid_of hc
    have e : ofW (v : Int) xs = ofL v xs := by rw [ofW, hc, if_pos rfl, Int.toNat_natCast]
    rw [e] at hY ⊢
    refine (each1_in m hm l B1 B2 A n c xs v hv w0 hok hr (fun pre X => ∃ ys : List (DgtW v), ys.map (·.1) = pre ∧ J ys X) (fun pre X => ∃ ys : List (DgtW v), ys.map (·.1) = pre ∧ Jx ys X) (fun pre X ⟨ys, e, h⟩ => ⟨ys, e, hJ ys X X.drew none h ⟨rfl, rfl, rfl, Nat.le_refl _, fun _ _ _ => rfl⟩ (fun r e => by cases e)⟩)
      (fun pre x X hx ⟨ys, e, h⟩ hl => ?_) W (hb.trans (hW.mono hb.size)) (boxed_below hW h1.lt h1) (boxed_below hW h2.lt h2) ⟨[], rfl, h0⟩).mono ?_
    · have hy := hY ys ⟨x, hc, by rw [Int.toNat_natCast]; exact hx⟩ X h (by rw [← e, List.length_map] at hl; exact hl)
      obtain ⟨fn, tmps, assign, body, h1, h2⟩ := hy
      refine ⟨fn, tmps, assign, body, h1, h2.mono ?_⟩
      rintro e' X' (⟨a, b, c⟩ | ⟨a, b⟩)
      · exact .inl ⟨a, ⟨_, by simp [e], b⟩, c⟩
      · exact .inr ⟨a, ⟨_, by simp [e], b⟩⟩
    · rintro e W' ⟨he, ⟨zs, rfl, ys, h2, h3⟩ | ⟨pre, h4, ys, h5, h6⟩⟩
      · exact ⟨he, .inl ⟨ys, h2, h3⟩⟩
      · exact ⟨he, .inr ⟨ys, (by show ys.map (·.1) <+: ofL v xs; rw [h5]; exact h4), h6⟩⟩
/-- The digits that came, as values. -/
def rowD (w : Int) (pre : List (DgtW w)) : List Value := iv (pre.map (·.1))
theorem rowD_snoc (w : Int) (pre : List (DgtW w)) (x : DgtW w) : rowD w (pre ++ [x]) = rowD w pre ++ [.int .i64 (x.1 : Int)] := by simp [rowD, iv]
theorem ofW_len (w : Int) (xs : List UInt8) : (ofW w xs).length ≤ xs.length * 8 := by
  unfold ofW
  split
  · rw [ofL_length]
    exact Nat.mul_le_mul_left _ (Nat.div_le_self _ _)
  · simp

set_option maxRecDepth 100000 in
set_option maxHeartbeats 2000000 in
theorem append_any (A : Option Addr) (n c : Nat) (xs : List UInt8) (v : Int) (w0 w : World) (hok : WOk w0) (hr : Rd w0 A n c xs) (hn : n ≤ 1000000) (B1 B2 : Nat) (hb : Below w0.heap.size w0 w) (h1 : Boxed w B1 24 (.slice A n c)) (h2 : Boxed w B2 3 (.int .i64 v)) (hw0 : w0.heap.size ≤ B2) :
    Calls Tryz.prog 121 #[.slice none 0 0, .func (.func 120) #[] #[.pointer (some ⟨B2, 0, none⟩), .pointer (some ⟨B1, 0, none⟩)]] w (NewI w.heap.size w (ofW v xs)) := by
  refine (callsIn_wide (n := 3)).1 ?_
  have hbp := h2.lt
  obtain ⟨i0, hi, hz0, hz1, hz2⟩ := info_parts Tryz.infoI
  have HLN := Lib.hid (show (ofW v xs).length ≤ 8000000 by
    have := ofW_len v xs
    rw [hr.len] at this
    omega)
  have HOK := Lib.hid hok
  have HR := Lib.hid hr
  obtain ⟨D, hD⟩ : ∃ D, D = ofW v xs := ⟨_, rfl⟩
  have HD := Lib.hid hD
  rw [← hD] at HLN ⊢
  have bO := Boxed.new w 86 (.slice none 0 0)
  have b1 := h1.alloc (.cells #[.slice none 0 0] 86)
  have b2 := h2.alloc (.cells #[.slice none 0 0] 86)
  have hB0 : Below w.heap.size w (w.alloc (.cells #[.slice none 0 0] 86)) := (Below.refl _ w).alloc (Nat.le_refl _) _
  have hB00 : Below w0.heap.size w0 (w.alloc (.cells #[.slice none 0 0] 86)) := hb.trans (hB0.mono hb.size)
  have hs0 := hb.size
  have HX := Lib.hid (show Boxed (w.alloc (.cells #[.slice none 0 0] 86)) w.heap.size 86 (.slice none 0 0) ∧ Boxed (w.alloc (.cells #[.slice none 0 0] 86)) B1 24 (.slice A n c) ∧ Boxed (w.alloc (.cells #[.slice none 0 0] 86)) B2 3 (.int .i64 v) ∧ Below w.heap.size w (w.alloc (.cells #[.slice none 0 0] 86)) ∧ Below w0.heap.size w0 (w.alloc (.cells #[.slice none 0 0] 86)) ∧ (w.alloc (.cells #[.slice none 0 0] 86)).heap.size = w.heap.size + 1 from ⟨bO, b1, b2, hB0, hB00, by simp⟩)
  clear hok hr hD h1 h2 hb bO b1 b2 hB0 hB00
  refine callsIn_of_wp_marks Tryz.func121 rfl trivial ?_ rfl
  simp only [Tryz.ntmps121, List.size_toArray, List.length_cons, List.length_nil, Nat.reduceAdd, Nat.reduceSub, Array.replicate_succ, Array.replicate_zero, List.push_toArray, List.append_toArray, List.nil_append, List.cons_append]
  gi_wp2
  obtain ⟨wL, hL⟩ : ∃ wL, w.alloc (.cells #[.slice none 0 0] 86) = wL := ⟨_, rfl⟩
  rw [hL] at HX ⊢
  clear hL
  obtain ⟨bO, b1, b2, hB0, hB00, hsz⟩ := HX.out
  clear HX
  refine wpIn_rangeFunc_ownG rfl (by omega) (gf := 120) (lb := #[.pointer (some ⟨B2, 0, none⟩), .pointer (some ⟨B1, 0, none⟩)]) rfl trivial (enters_of Tryz.func120 (by kernel_rfl) rfl)
    (each_stops (3 - 1) (by omega) w0 A n c xs v HOK.out HR.out B1 B2 wL hB00 b1 b2) kpC_t (kpC_b (by omega)) (Below.refl _ _) (fun _ => rfl)
    (fun pre W => (∃ u, Boxed W w.heap.size 86 u ∧ W.ownsRow wL.heap.size 3 1 u pre.length (rowD v pre) ∧ True) ∧ Below w.heap.size w W ∧ wL.heap.size ≤ W.heap.size)
    (fun _ _ _ => False)
    (OwnFrom.and (Own.from (holdsRow_own wL.heap.size w.heap.size 86 3 1 (fun pre => pre.length) (fun pre : List (DgtW v) => rowD v pre) (fun pre u => True)) _) (OwnFrom.and (ownFrom_below (Nat.le_refl _) (by omega)) (fun _ _ _ _ h hg _ => Nat.le_trans h hg.size)))
    (fun _ _ _ _ _ hs _ _ => hs)
    ⟨⟨_, bO, World.ownsRow_nil _ _ _ _, trivial⟩, hB0, Nat.le_refl _⟩
    (fun x => { tmps := #[.slice none 0 0, .func (.func 120) #[] #[.pointer (some ⟨B2, 0, none⟩), .pointer (some ⟨B1, 0, none⟩)], .pointer (some ⟨w.heap.size, 0, none⟩), undef, .slice none 0 0, .int .i64 (x.1 : Int), .func (.func 120) #[] #[.pointer (some ⟨B2, 0, none⟩), .pointer (some ⟨B1, 0, none⟩)], .int .i64 (x.1 : Int), undef, undef, undef, undef, undef], defers := [] }) ?assign ?body ?done ?stop
  case assign =>
    intro l x W K hK
    gi_wp2
    exact hK
  case body =>
    rintro l pre ⟨x, hx⟩ W ⟨⟨u, hu, hrow, _⟩, hB, hWs⟩ hlt
    have hc := hu.cell
    have hpl : pre.length < 8000000 := by have := HLN.out; rw [← HD.out] at hlt; omega
    gi_wp2_with (gi_at_builtin; refine wpListIn_append_own _ rfl _ _ 86 rfl wL.heap.size 3 i0 (.int .i64 0) 1 8 Tryz.underlying86 hi hz0 hz1 hz2 rfl (by decide) _ _ _ rfl (hrow.alloc _) ⟨W.heap.size, 0, none⟩ 1 1 [.int .i64 (x : Int)] rfl rfl (cell_one_new _ _ _) (by simp [Value.oneCell']) (by simp only [maxLen]; omega) (by omega) (by simp; omega) ?_; intro v' w1 hown' hgrow _; obtain ⟨g', cap', rfl⟩ := ownsRow_succ hown'; obtain ⟨hv1, hv2, hr2, hk2, hb2, hb3⟩ := appended2 hu hrow hWs (by omega) hown' hgrow; have hc1 := hv1.cell; have hf1 := hv1.frozen)
    exact ⟨hk2.from _, ⟨hb2 _ (by omega), fun o ho _ => hb3 _ (by omega) (by omega) o ho⟩, ⟨_, hv2, by rw [rowD_snoc, List.length_append, ← hsz]; exact hr2⟩, hB.trans (hb2 _ (Nat.le_refl _)), by have := (hb2 _ (Nat.le_refl _)).size; omega⟩
  case done =>
    rintro D' ys W hD' hys ⟨⟨u, hu, hrow, _⟩, hB, _⟩ hK
    rw [rowD, hys, ← HD.out] at hrow
    have hc := hu.cell
    gi_wp2
    refine ⟨by simp, .inl ⟨_, _, rfl, run_takeDeferred hK, ?_⟩⟩
    exact ⟨_, results_tmp rfl _ _ _, NewI.mk (own_basei (ownsRow_putObj hrow _ hK rfl) (by omega)) (hB.trans (belowK_b (w := w) (Nat.le_refl _) W D' _ _ (by omega) hK rfl rfl))⟩
  case stop =>
    rintro D c pre W _ _ h _
    exact h.elim
end Go.Proofs.YtkpfppiedadmbaaGreatDoor.S7

/-
  What the landed digits' calls do over their iterator: Of, Lack. No statement is proved here.
-/
namespace Go.Proofs.YtkpfppiedadmbaaGreatDoor.S7
set_option linter.unusedSimpArgs false
set_option linter.unusedVariables false
set_option maxRecDepth 1024
open Go.RowKit Go.Shelf
attribute [local go_sem] Oper.semAt_some

theorem two_boxes (w : World) (A : Option Addr) (n c : Nat) (v : Int) :
    Boxed ((w.alloc (.cells #[.slice A n c] 24)).alloc (.cells #[.int .i64 v] 3)) w.heap.size 24 (.slice A n c) ∧ Boxed ((w.alloc (.cells #[.slice A n c] 24)).alloc (.cells #[.int .i64 v] 3)) (w.heap.size + 1) 3 (.int .i64 v) ∧
      Below w.heap.size w ((w.alloc (.cells #[.slice A n c] 24)).alloc (.cells #[.int .i64 v] 3)) := by
  refine ⟨(Boxed.new w _ _).alloc _, ?_, ((Below.refl _ w).alloc (Nat.le_refl _) _).alloc (by simp) _⟩
  have := Boxed.new (w.alloc (.cells #[.slice A n c] 24)) 3 (.int .i64 v)
  rwa [World.size_alloc] at this
theorem NewI.from {w W : World} {xs : List Nat} {e : Ending} {w' : World} (hb : Below w.heap.size w W) (h : NewI W.heap.size W xs e w') : NewI w.heap.size w xs e w' := by
  obtain ⟨A, n, c, he, ho, hbb⟩ := h
  exact ⟨A, n, c, he, own_basei ho hb.size, hb.trans (hbb.mono hb.size)⟩
theorem of_new (A : Option Addr) (n c : Nat) (xs : List UInt8) (v : Int) (w : World) (hok : WOk w) (hr : Rd w A n c xs) (hn : n ≤ 1000000) :
    Calls Tryz.prog 84 #[.slice A n c, .int .i64 v] w (NewI w.heap.size w (ofW v xs)) := by
  obtain ⟨b1, b2, hb⟩ := two_boxes w A n c v
  have HA := Lib.hid (append_any A n c xs v w _ hok hr hn w.heap.size (w.heap.size + 1) hb b1 b2 (by omega))
  have HB := Lib.hid hb
  obtain ⟨W1, hW1⟩ : ∃ W1, (w.alloc (.cells #[.slice A n c] 24)).alloc (.cells #[.int .i64 v] 3) = W1 := ⟨_, rfl⟩
  have HE := Lib.hid (fun W => each_any A n c v W)
  have HW := Lib.hid hW1
  rw [hW1] at HA HB
  clear b1 b2 hb hok hr hW1
  have HC := Lib.hid (show Calls Tryz.prog 110 #[.func (.func 120) #[] #[.pointer (some ⟨w.heap.size + 1, 0, none⟩), .pointer (some ⟨w.heap.size, 0, none⟩)]] W1 (NewI W1.heap.size W1 (ofW v xs)) from by
    go_enter Tryz.func110, Tryz.ntmps110
    go_wp2_with (go_at_call 121; ((with_reducible refine HA.out.mono ?_); rintro e w2 ⟨A2, n2, c2, rfl, o2, d2⟩))
    go_ret
    exact ⟨A2, n2, c2, rfl, o2, d2⟩)
  clear HA
  go_enter Tryz.func84, Tryz.ntmps84
  go_wp2_with (first
    | (go_at_call 109; ((with_reducible refine (HE.out _).mono ?_); rintro e w2 ⟨rfl, h2⟩; rw [HW.out] at h2; subst h2))
    | (go_at_call 110; ((with_reducible refine HC.out.mono ?_); rintro e w2 ⟨A2, n2, c2, rfl, o2, d2⟩)))
  go_ret
  exact NewI.from HB.out ⟨A2, n2, c2, rfl, o2, d2⟩

theorem lk_map_snoc (w : Int) (pre : List (DgtW w)) (x : DgtW w) : lk w.toNat ((pre ++ [x]).map (·.1)) = lk w.toNat (pre.map (·.1)) + (2 ^ w.toNat - 1 - x.1) := by
  rw [List.map_append, lk_append]
  simp [lk]
/-- What the digits that came lack. -/
def lkD (w : Int) (pre : List (DgtW w)) : Value := .int .i64 ((lk w.toNat (pre.map (·.1)) : Nat) : Int)

set_option maxRecDepth 100000 in
set_option maxHeartbeats 2000000 in
theorem lack_any (A : Option Addr) (n c : Nat) (xs : List UInt8) (v : Int) (w : World) (hok : WOk w) (hr : Rd w A n c xs) (hn : n ≤ 1000000) :
    Calls Tryz.prog 83 #[.slice A n c, .int .i64 v] w fun e w' => e = .returned (.int .i64 ((lk v.toNat (ofW v xs) : Nat) : Int)) ∧ Below w.heap.size w w' := by
  refine (callsIn_wide (n := 3)).1 ?_
  have HOK := Lib.hid hok
  have HR := Lib.hid hr
  have HE := Lib.hid (fun W => each_any A n c v W)
  have HLN := Lib.hid (show (ofW v xs).length ≤ 8000000 by
    have := ofW_len v xs
    rw [hr.len] at this
    omega)
  obtain ⟨D, hD⟩ : ∃ D, D = ofW v xs := ⟨_, rfl⟩
  have HD := Lib.hid hD
  rw [← hD] at HLN ⊢
  clear hr hok hD
  have hmix : Tryz.prog.follows .mixedOrders = true := by kernel_rfl
  refine callsIn_of_wp_marks Tryz.func83 rfl trivial ?_ rfl
  simp only [Tryz.ntmps83, List.size_toArray, List.length_cons, List.length_nil, Nat.reduceAdd, Nat.reduceSub, Array.replicate_succ, Array.replicate_zero, List.push_toArray, List.append_toArray, List.nil_append, List.cons_append]
  gi_wp2_with (refine ⟨trivial, ?_⟩; gi_at_call 109; refine (callsIn_wide.2 (HE.out _)).mono ?_; rintro e w1 ⟨rfl, rfl⟩)
  have bV := Boxed.new w 3 (.int .i64 v)
  have bS := Boxed.new (w.alloc (.cells #[.int .i64 v] 3)) 3 (.int .i64 0)
  have b1 := Boxed.new ((w.alloc (.cells #[.int .i64 v] 3)).alloc (.cells #[.int .i64 0] 3)) 24 (.slice A n c)
  have b2 := Boxed.new (((w.alloc (.cells #[.int .i64 v] 3)).alloc (.cells #[.int .i64 0] 3)).alloc (.cells #[.slice A n c] 24)) 3 (.int .i64 v)
  simp only [World.size_alloc] at bS b1 b2
  have bV := ((bV.alloc (.cells #[.int .i64 0] 3)).alloc (.cells #[.slice A n c] 24)).alloc (.cells #[.int .i64 v] 3)
  have bS := (bS.alloc (.cells #[.slice A n c] 24)).alloc (.cells #[.int .i64 v] 3)
  have b1 := b1.alloc (.cells #[.int .i64 v] 3)
  have hB0 : Below w.heap.size w ((((w.alloc (.cells #[.int .i64 v] 3)).alloc (.cells #[.int .i64 0] 3)).alloc (.cells #[.slice A n c] 24)).alloc (.cells #[.int .i64 v] 3)) := ((((Below.refl _ w).alloc (Nat.le_refl _) _).alloc (by simp) _).alloc (by simp; omega) _).alloc (by simp; omega) _
  obtain ⟨wL, hL⟩ : ∃ wL, (((w.alloc (.cells #[.int .i64 v] 3)).alloc (.cells #[.int .i64 0] 3)).alloc (.cells #[.slice A n c] 24)).alloc (.cells #[.int .i64 v] 3) = wL := ⟨_, rfl⟩
  have hsz : wL.heap.size = w.heap.size + 4 := by rw [← hL]; simp
  rw [hL] at hB0 bV bS b1 b2 ⊢
  clear hL
  refine wpIn_rangeFunc_ownG rfl (by omega) (gf := 120) (lb := #[.pointer (some ⟨w.heap.size + 1 + 1 + 1, 0, none⟩), .pointer (some ⟨w.heap.size + 1 + 1, 0, none⟩)]) rfl trivial (enters_of Tryz.func120 (by kernel_rfl) rfl)
    (each_stops (3 - 1) (by omega) w A n c xs v HOK.out HR.out (w.heap.size + 1 + 1) (w.heap.size + 1 + 1 + 1) wL hB0 b1 b2) kpC_t (kpC_b (by omega)) (Below.refl _ _) (fun _ => rfl)
    (fun pre W => (Boxed W (w.heap.size + 1) 3 (lkD v pre) ∧ Boxed W w.heap.size 3 (.int .i64 v)) ∧ Below w.heap.size w W)
    (fun _ _ _ => False)
    (OwnFrom.and (OwnFrom.and (Own.from (boxed_own _ _ (fun pre : List (DgtW v) => lkD v pre)) _) (Own.from (boxed_own _ _ (fun pre : List (DgtW v) => .int .i64 v)) _)) (ownFrom_below (Nat.le_refl _) (by omega)))
    (fun _ _ _ _ _ hs _ _ => hs)
    ⟨⟨bS, bV⟩, hB0⟩
    (fun x => { tmps := #[.slice A n c, .int .i64 v, undef, .pointer (some ⟨w.heap.size, 0, none⟩), .int .i64 0, .pointer (some ⟨w.heap.size + 1, 0, none⟩), .int .i64 (x.1 : Int), .slice A n c, .int .i64 v, .func (.func 120) #[] #[.pointer (some ⟨w.heap.size + 1 + 1 + 1, 0, none⟩), .pointer (some ⟨w.heap.size + 1 + 1, 0, none⟩)], .int .i64 (x.1 : Int), undef, undef, undef, undef, undef, undef, undef], defers := [] }) ?assign ?body ?done ?stop
  case assign =>
    intro l x W K hK
    gi_wp2
    exact hK
  case body =>
    rintro l pre ⟨x, hm, hx⟩ W ⟨⟨hu, hv2⟩, hB⟩ hlt
    have hpl : pre.length < 8000000 := by have := HLN.out; rw [← HD.out] at hlt; omega
    obtain ⟨vn, rfl, hv⟩ := wid_of hm
    have HGR := Lib.hid (fun X => great_any vn hv X)
    obtain ⟨P, hP⟩ : ∃ P, P = 2 ^ vn := ⟨_, rfl⟩
    have hP1 : P ≤ 256 := by rw [hP]; rcases hv with h | h | h | h <;> subst h <;> decide
    have hxP : x < P := by rw [hP]; rw [Int.toNat_natCast] at hx; exact hx
    obtain ⟨L, hL⟩ : ∃ L, L = lk ((vn : Int).toNat) (pre.map (·.1)) := ⟨_, rfl⟩
    have hLb : L ≤ 256 * 8000000 := by
      have h2 := lk_le ((vn : Int).toNat) (pre.map (·.1))
      rw [← hL, List.length_map, Int.toNat_natCast, ← hP] at h2
      have h3 : (P - 1) * pre.length ≤ 256 * 8000000 := Nat.mul_le_mul (by omega) (by omega)
      omega
    have HN := Lib.hid (show lkD vn (pre ++ [(⟨x, hm, hx⟩ : DgtW vn)]) = .int .i64 ((L + (P - 1 - x) : Nat) : Int) by
      rw [lkD, lk_map_snoc, ← hL]
      show Value.int .i64 ((L + (2 ^ ((vn : Int).toNat) - 1 - x) : Nat) : Int) = _
      rw [Int.toNat_natCast, ← hP])
    have HF := Lib.hid (show ((L + (P - 1 - x) : Nat) : Int) = (L : Int) + (((P - 1 : Nat) : Int) - (x : Int)) by omega)
    rw [← hP] at HGR
    have hu : Boxed W (w.heap.size + 1) 3 (.int .i64 (L : Int)) := by rw [hL]; exact hu
    have hc := hu.cell
    have hf := hu.frozen
    have hcv := hv2.cell
    have HU := Lib.hid hu
    have HV2 := Lib.hid hv2
    obtain ⟨G, hG⟩ : ∃ G : Nat, G = P - 1 := ⟨_, rfl⟩
    rw [← hG] at HGR HF HN
    have w3 : IntKind.i64.wrap ((G : Int) - (x : Int)) = (G : Int) - (x : Int) := by rw [IntKind.wrap_i64]; omega
    have w4 : IntKind.i64.wrap ((L : Int) + ((G : Int) - (x : Int))) = (L : Int) + ((G : Int) - (x : Int)) := by rw [IntKind.wrap_i64]; omega
    clear hu hv2 hP hL hG
    gi_wp2
    obtain ⟨V, hV⟩ : ∃ V, V = Value.int .i64 ((L : Int) + ((G : Int) - (x : Int))) := ⟨_, rfl⟩
    have HEND := Lib.hid (show KeepsFrom wL.heap.size W (W.setCell ⟨w.heap.size + 1, 0, none⟩ V).drew ∧ KpC w.heap.size (w.heap.size + 1 + 1 + 1) W (W.setCell ⟨w.heap.size + 1, 0, none⟩ V).drew ∧
        (Boxed (W.setCell ⟨w.heap.size + 1, 0, none⟩ V).drew (w.heap.size + 1) 3 (lkD vn (pre ++ [(⟨x, hm, hx⟩ : DgtW vn)])) ∧ Boxed (W.setCell ⟨w.heap.size + 1, 0, none⟩ V).drew w.heap.size 3 (.int .i64 (vn : Int))) ∧ Below w.heap.size w (W.setCell ⟨w.heap.size + 1, 0, none⟩ V).drew from by
      have hb := ((Below.refl w.heap.size W).setCell (p := ⟨w.heap.size + 1, 0, none⟩) (by simp) V).drew
      refine ⟨((KeepsOthers.setCell W _ V).trans (KeepsOthers.drew _)).from _, ⟨hb, fun o ho _ => (Below.heap_setCell _ _ _ _ (by simp; omega)).trans ho⟩, ⟨?_, (Below.heap_setCell _ _ _ _ (by simp)).trans HV2.out⟩, hB.trans hb⟩
      rw [HN.out, HF.out, ← hV]
      exact HU.out.set V)
    rw [hV] at HEND
    clear hV
    gi_region_with_o (refine ⟨trivial, ?_⟩; refine (callsIn_wide.2 (HGR.out _)).mono ?_; rintro e w1 ⟨rfl, rfl⟩)
    all_goals exact HEND.out
  case done =>
    rintro D' ys W hD' hys ⟨⟨hu, hv2⟩, hB⟩ hK
    rw [lkD, hys, ← HD.out] at hu
    have hc := hu.cell
    gi_wp2
    refine ⟨by simp, .inl ⟨_, _, rfl, run_takeDeferred hK, ?_⟩⟩
    exact ⟨_, results_tmp rfl _ _ _, rfl, hB.trans (belowK_b (w := w) (Nat.le_refl _) W D' _ _ (by omega) hK rfl rfl)⟩
  case stop =>
    rintro D c pre W _ _ h _
    exact h.elim
end Go.Proofs.YtkpfppiedadmbaaGreatDoor.S7
