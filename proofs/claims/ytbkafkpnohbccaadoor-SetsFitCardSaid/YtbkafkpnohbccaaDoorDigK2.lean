/-
  What the landed digits' iterator does: each (its closure calls May, greatest, and the yield). No statement is proved here.
-/
import Derived.RangeFuncBox
import Derived.RangeFuncNested
import Derived.RangeFuncBound
import Derived.RangeFuncCalls
import Derived.RangeFuncLeaves
import Derived.Shelf.Abstract
import Derived.Shelf.RegionOpen
import Derived.WalkKit
import Derived.OwnWalkIn
import Derived.TacticsInMore
import Derived.LoopNIn
import Derived.LoopIn
import Derived.Maps.AppendAt
import Derived.Outline
import Derived.Test.YtbkafkpnohbccaaDoorDigK1
import Derived.Test.YtbkafkpnohbccaaDoorDigP
namespace Go.Proofs.YtbkafkpnohbccaaDoor.S7
set_option linter.unusedSimpArgs false
set_option linter.unusedVariables false
open Go.RowKit Go.Shelf
attribute [local go_sem] Oper.semAt_some

theorem ofInt_i64 (a : Nat) (ha : a < 65536) : (BitVec.ofInt 64 (a : Int)).toNat = a := by
  rw [BitVec.ofInt_natCast, BitVec.toNat_ofNat]; exact Nat.mod_eq_of_lt (by omega)
theorem i64_and_nat (a b : Nat) (ha : a < 65536) (hb : b < 65536) : bits .and .i64 (a : Int) (b : Int) = ((a &&& b : Nat) : Int) := by
  have hx : a &&& b < 2 ^ 16 := Nat.and_lt_two_pow _ (by omega)
  show IntKind.i64.wrap ((BitVec.ofInt 64 (a : Int) &&& BitVec.ofInt 64 (b : Int)).toNat : Int) = _
  rw [BitVec.toNat_and, ofInt_i64 a ha, ofInt_i64 b hb, IntKind.wrap_i64]
  omega
/-- What a round keeps: what lay below n, and a variable's box. -/
def KpC (n B : Nat) (X Y : World) : Prop := Below n X Y ∧ ∀ o, X.heap[B]? = some o → o.isCells = true → Y.heap[B]? = some o
theorem kpC_t {n B : Nat} {X Y Z : World} (h : KpC n B X Y) (k : KpC n B Y Z) : KpC n B X Z := ⟨h.1.trans k.1, fun o ho hc => k.2 o (h.2 o ho hc) hc⟩
theorem kpC_b {n B : Nat} {w : World} (hn : n ≤ w.heap.size) (W : World) (l : Nat) (o o' : Obj) (hl : w.heap.size ≤ l) (h : W.heap[l]? = some o) (hc : o.isCells = false) (hw : o.isWalk = false) : KpC n B W (W.putObj l o') :=
  ⟨belowK_b hn W l o o' hl h hc hw, fun o2 h2 c2 => by
    have hne : B ≠ l := fun e => by rw [e, h] at h2; cases h2; rw [hc] at c2; cases c2
    rw [World.putObj_heap_other hne]; exact h2⟩
theorem kpC_box {n B : Nat} {X Y : World} {t : TypeId} {v : Value} (h : KpC n B X Y) (hb : Boxed X B t v) : Boxed Y B t v := h.2 _ hb rfl
theorem boxed_below {n B : Nat} {X Y : World} {t : TypeId} {v : Value} (h : Below n X Y) (hB : B < n) (hb : Boxed X B t v) : Boxed Y B t v := (h.block B hB).trans hb
/-- The digits as they come. -/
theorem ofL_upto (w : Nat) (hw : wid w) (xs : List UInt8) (i k : Nat) (hi : i < xs.length) (hk : k < 8 / w) : (ofL w xs).take (i * (8 / w) + (k + 1)) = (ofL w xs).take (i * (8 / w) + k) ++ [dg w (xs.getD i 0).toNat k] := by
  rw [← Nat.add_assoc, List.take_add_one, ofL_pos w hw xs i k hi hk]
  rfl

set_option maxRecDepth 100000 in
set_option maxHeartbeats 1000000 in
theorem each1_in (m : Nat) (hm : 1 ≤ m) (l B1 B2 : Nat) (A : Option Addr) (n c : Nat) (xs : List UInt8) (v : Nat) (hv : wid v) (w0 : World) (hok : WOk w0) (hr : Rd w0 A n c xs) (J Jx : List Nat → World → Prop)
    (hJd : ∀ pre X, J pre X → J pre X.drew)
    (hY : ∀ pre (x : Nat) X, x < 2 ^ v → J pre X → pre.length < (ofL v xs).length → YieldAt Fence.wide (m - 1) Tryd.prog l #[.int .i64 (x : Int)] X fun e X' =>
      (e = .returned (.bool true) ∧ J (pre ++ [x]) X' ∧ KpC w0.heap.size B2 X X') ∨ (e = .returned (.bool false) ∧ Jx (pre ++ [x]) X'))
    (W : World) (hb0 : Below w0.heap.size w0 W) (hB1 : Boxed W B1 47 (.slice A n c)) (hB2 : Boxed W B2 3 (.int .i64 (v : Int))) (h0 : J [] W) :
    CallsIn Fence.wide m Tryd.prog 39 #[.func (.yield l) #[] #[], .pointer (some ⟨B2, 0, none⟩), .pointer (some ⟨B1, 0, none⟩)] W fun e W' => (∃ u, e = .returned u) ∧
      ((∃ ys, ys = ofL v xs ∧ J ys W') ∨ (∃ pre, pre <+: ofL v xs ∧ Jx pre W')) := by
  have lm : n ≤ maxLen := Nat.le_trans hr.cap hr.max
  unfold maxLen at lm
  obtain ⟨h8, hv1, hv8⟩ := wid_div hv
  obtain ⟨E, hE⟩ : ∃ E, E = 8 / v := ⟨_, rfl⟩
  have HV := Lib.hid hv
  have HL := Lib.hid hr.len
  have HR := Lib.hid hr
  have HE := Lib.hid hE
  have h8' : v * E = 8 := by rw [hE]; exact h8
  have H8 := Lib.hid h8'
  have HUP := Lib.hid (fun i k (hi : i < n) (hk : k < E) => ofL_upto v hv xs i k (by rw [HL.out]; exact hi) (by rw [← hE]; exact hk))
  rw [← hE] at HUP
  obtain ⟨D, hD⟩ : ∃ D, D = ofL v xs := ⟨_, rfl⟩
  have HD := Lib.hid (show D.length = n * E by rw [hD, ofL_length, HL.out, hE])
  rw [← hD] at HUP hY ⊢
  have HY := Lib.hid hY
  have HJ := Lib.hid hJd
  have HB0 := Lib.hid hb0
  have HB2 := Lib.hid hB2
  have hc1 := hB1.cell
  have hwB := hB2.cell
  have HM := Lib.hid (may_any (v : Int) W (hok.below hb0))
  rw [may_wid hv] at HM
  have HGR := Lib.hid (fun X => great_any v hv X)
  obtain ⟨P, hP⟩ : ∃ P, P = 2 ^ v := ⟨_, rfl⟩
  rw [← hP] at HGR
  have HP := Lib.hid hP
  clear hv hr hE h8 h8' hD hY hJd hb0 hB1 hB2 hok hP
  refine callsIn_of_wp Tryd.func39 rfl trivial ?_ rfl
  simp only [Tryd.ntmps39, List.size_toArray, List.length_cons, List.length_nil, Nat.reduceAdd, Nat.reduceSub, Array.replicate_succ, Array.replicate_zero, List.push_toArray, List.append_toArray, List.nil_append, List.cons_append]
  gi_wp2_with (refine ⟨trivial, ?_⟩; gi_at_call 20; refine (callsIn_wide.2 HM.out).mono ?_; rintro e w1 ⟨rfl, rfl⟩)
  gi_loopw [12] (fun i wr => ∃ j : Nat, j ≤ n ∧ i = .int .i64 (j : Int) ∧ J (D.take (j * E)) wr ∧ Boxed wr B2 3 (.int .i64 (v : Int)) ∧ Below w0.heap.size w0 wr) (fun i _ => n - (intOf i).toNat)
  case atStart => exact ⟨0, Nat.zero_le _, rfl, by simpa using h0, HB2.out, HB0.out⟩
  case round =>
    obtain ⟨j, hj, rfl, hJ, hbx, hbl⟩ := hrel
    by_cases hlt : j < n
    · have i1 : (j : Int) < (n : Int) := by omega
      obtain ⟨b, off, rfl, hb, hcell⟩ := (HR.out.below hbl).at_ (by omega)
      have hcj := hcell j hlt
      obtain ⟨x, hx⟩ : ∃ x, x = (xs.getD j 0).toNat := ⟨_, rfl⟩
      have hx256 : x < 256 := by rw [hx]; exact UInt8.toNat_lt _
      have HUJ := Lib.hid (fun k hk => HUP.out j k hlt hk)
      rw [← hx] at HUJ hcj
      have hcw := hbx.cell
      have HBX := Lib.hid hbx
      have HBL := Lib.hid hbl
      have HJJ := Lib.hid hJ
      clear hcell hx hbx hbl hJ
      gi_wp2
      obtain ⟨wo, rfl⟩ : ∃ wo : World, wo = wr := ⟨_, rfl⟩
      gi_loopw [6] (fun s wr => ∃ k : Nat, k ≤ E ∧ s = .int .i64 (8 - (v * (k + 1) : Nat) : Int) ∧ J (D.take (j * E + k)) wr ∧ Boxed wr B2 3 (.int .i64 (v : Int)) ∧ Below w0.heap.size w0 wr) (fun s _ => (intOf s + v).toNat)
      case atStart => exact ⟨0, Nat.zero_le _, by simp, HJJ.out, HBX.out, HBL.out⟩
      case round =>
        obtain ⟨k, hk, rfl, hJ, hbx, hbl⟩ := hrel
        obtain ⟨G, hG⟩ : ∃ G, G = v * (k + 1) := ⟨_, rfl⟩
        rw [← hG]
        by_cases hlt2 : k < E
        · have hG8 : G ≤ 8 := by
            rw [hG]
            have := Nat.mul_le_mul_left v (show k + 1 ≤ E by omega)
            rw [H8.out] at this
            exact this
          have hG1 : v ≤ G := by rw [hG]; exact Nat.le_mul_of_pos_right _ (by omega)
          obtain ⟨S, hS⟩ : ∃ S, S = 8 - G := ⟨_, rfl⟩
          have s1 : 8 - (G : Int) = (S : Int) := by omega
          rw [s1]
          obtain ⟨fn, tmps, assign, body, hy, hR⟩ := HY.out _ (dg v x k) _ (dg_lt v x k) (HJ.out _ _ hJ) (by
            rw [List.length_take, HD.out]
            have h1 : (j + 1) * E ≤ n * E := Nat.mul_le_mul_right _ hlt
            rw [Nat.succ_mul] at h1
            omega)
          have hcw2 := hbx.cell
          obtain ⟨Y, hY⟩ : ∃ Y, Y = x / 2 ^ S := ⟨_, rfl⟩
          have hYx : Y ≤ x := by rw [hY]; exact Nat.div_le_self _ _
          have y1 : (x : Int) / 2 ^ S = (Y : Int) := by rw [hY]; simp
          have hP := HP.out
          have hP0 : 2 ≤ P := by rw [hP]; rcases HV.out with h | h | h | h <;> subst h <;> decide
          have hP1 : P ≤ 256 := by rw [hP]; rcases HV.out with h | h | h | h <;> subst h <;> decide
          have hmix : Tryd.prog.follows .mixedOrders = true := by kernel_rfl
          have HDG := Lib.hid (show dg v x k = Y &&& (P - 1) by rw [hP, Nat.and_two_pow_sub_one_eq_mod, hY, hS, hG]; rfl)
          obtain ⟨Z, hZ⟩ : ∃ Z, Z = dg v x k := ⟨_, rfl⟩
          rw [← hZ] at hy hR HDG
          have hUK := HUJ.out k hlt2
          rw [← hZ] at hUK
          have HUK := Lib.hid hUK
          have HSN := Lib.hid (show (S : Int) - (v : Int) = 8 - ((v * (k + 1 + 1) : Nat) : Int) by rw [Nat.mul_succ, ← hG]; omega)
          clear hUK hZ
          clear hY hP hS hG
          gi_wp2
          have w1 : IntKind.i64.wrap (Y : Int) = (Y : Int) := by rw [IntKind.wrap_i64]; omega
          have w4 : bits .and .i64 (Y : Int) ((P - 1 : Nat) : Int) = (Z : Int) := by rw [i64_and_nat _ _ (by omega) (by omega), HDG.out]
          replace hR := hR.mono (R' := fun e W' => ∃ r : Bool, e = .returned (.bool r) ∧ Hid ((r = true ∧ J (D.take (j * E + k) ++ [Z]) W' ∧ KpC w0.heap.size B2 wr.drew W') ∨ (r = false ∧ Jx (D.take (j * E + k) ++ [Z]) W'))) (fun e W' h => by
            rcases h with ⟨h1, h2, h3⟩ | ⟨h1, h2⟩
            · exact ⟨true, h1, Lib.hid (.inl ⟨rfl, h2, h3⟩)⟩
            · exact ⟨false, h1, Lib.hid (.inr ⟨rfl, h2⟩)⟩)
          gi_region_with_o (first | (refine ⟨trivial, ?_⟩; refine (callsIn_wide.2 (HGR.out _)).mono ?_; rintro e w1 ⟨rfl, rfl⟩) | (refine hR.mono ?_; rintro e W3 ⟨r, rfl, h3⟩))
          clear w1 w4
          rcases h3.out with ⟨rfl, hJ3, hk3⟩ | ⟨rfl, hJx3⟩
          · have hbx3 : Boxed W3 B2 3 (.int .i64 (v : Int)) := kpC_box hk3 (show Boxed wr.drew B2 3 (.int .i64 (v : Int)) from hbx)
            have hcw3 := hbx3.cell
            have HBX3 := Lib.hid hbx3
            have HB3 := Lib.hid (show Below w0.heap.size w0 W3 from hbl.drew.trans hk3.1)
            have HJ3 := Lib.hid hJ3
            clear hJ3 hk3 hbx3 hbl hbx hJ h3 hy hR hcw2
            gi_wp2
            go_roundw
            case rel => exact ⟨k + 1, by omega, by rw [HSN.out], by rw [HUK.out]; exact HJ3.out, HBX3.out, HB3.out⟩
            case measure => simp [intOf]; omega
          · have HJ3 := Lib.hid hJx3
            clear hJx3 hbl hbx hJ h3 hy hR
            gi_wp2
            refine bodyPost_ret (results_none rfl _ _ _) rfl ?_
            exact ⟨⟨_, rfl⟩, .inr ⟨_, by rw [← HUK.out]; exact List.take_prefix _ _, HJ3.out⟩⟩
        · obtain rfl : k = E := by omega
          have hG8 : G = 8 + v := by rw [hG, Nat.mul_succ, H8.out]
          have s1 : 8 - (G : Int) = -(v : Int) := by omega
          have HJN := Lib.hid (show J (D.take ((j + 1) * k)) wr by rw [Nat.succ_mul]; exact hJ)
          have HBX3 := Lib.hid hbx
          have HB3 := Lib.hid hbl
          have v0 : ¬ (0 : Int) ≤ -(v : Int) := by omega
          rw [s1]
          clear hJ hbx hbl hG hG8 s1
          gi_wp2
          go_roundw
          case rel => exact ⟨j + 1, by omega, by go_num, HJN.out, HBX3.out, HB3.out⟩
          case measure => simp [intOf]; omega
    · obtain rfl : j = n := by omega
      have i1 : ¬ (j : Int) < (j : Int) := by omega
      have ht : D.take (j * E) = D := List.take_of_length_le (by rw [HD.out]; exact Nat.le_refl _)
      rw [ht] at hJ
      have HJJ := Lib.hid hJ
      clear ht hJ hbx hbl
      gi_wp2
      go_end0
      exact ⟨⟨_, rfl⟩, .inl HJJ.out⟩
end Go.Proofs.YtbkafkpnohbccaaDoor.S7
