/-
  Texts put together: Rv5, OctX, OctS, ReA, ReB, Lv. No statement is proved here.
-/
import Derived.Test.YtnoflgkjdibblaaGreatDoorWa17
import Derived.Test.YtnoflgkjdibblaaGreatDoorWa08
import Derived.Test.YtnoflgkjdibblaaGreatDoorWa02
import Derived.RegionTactic
import Derived.ChangeAlike
import Derived.Test.YtnoflgkjdibblaaGreatDoorWa05
import Derived.Test.YtnoflgkjdibblaaGreatDoorWa16
import Derived.Test.YtnoflgkjdibblaaGreatDoorWa13
import Derived.Test.YtnoflgkjdibblaaGreatDoorWa01
import Derived.Recover
import Derived.Laws.Panics
import Derived.Laws.PanicsMore
import Derived.Deep.RegionWith
import Derived.Deep.RegionLaw

/-
  The document's own Bytes of layer 21. No statement is proved here. (Written by genrv5.py.)
-/
namespace Go.Proofs.YtnoflgkjdibblaaGreatDoor.S21
set_option linter.unusedSimpArgs false
set_option linter.unusedVariables false
set_option maxRecDepth 4096
open Go.RowKit

theorem RdBs.built5 (w : World) (T : TypeId) {A1 A2 A3 A4 A5 : Option Addr} {n1 n2 n3 n4 n5 c1 c2 c3 c4 c5 : Nat} {x1 x2 x3 x4 x5 : List UInt8} (h1 : Rd w A1 n1 c1 x1) (h2 : Rd w A2 n2 c2 x2) (h3 : Rd w A3 n3 c3 x3) (h4 : Rd w A4 n4 c4 x4) (h5 : Rd w A5 n5 c5 x5) :
    RdBs (w.alloc (.cells #[.slice A1 n1 c1, .slice A2 n2 c2, .slice A3 n3 c3, .slice A4 n4 c4, .slice A5 n5 c5] T)) (some ⟨w.heap.size, 0, none⟩) 5 5 [x1, x2, x3, x4, x5] :=
  RdBs.built w _ T [x1, x2, x3, x4, x5] (by simp [maxLen]) fun j hj => by
    match j, hj with
    | 0, _ => exact ⟨A1, n1, c1, rfl, h1⟩
    | 1, _ => exact ⟨A2, n2, c2, rfl, h2⟩
    | 2, _ => exact ⟨A3, n3, c3, rfl, h3⟩
    | 3, _ => exact ⟨A4, n4, c4, rfl, h4⟩
    | 4, _ => exact ⟨A5, n5, c5, rfl, h5⟩
/-- The counter as bytes, but for its last number. -/
def flat0 (x : Cn) (h : List UInt8) : List UInt8 := [putL x.tot 8, putL x.bat 8, putL x.res 8, [0], h].flatten
theorem flat0_len (x : Cn) (h : List UInt8) : (flat0 x h).length = 25 + h.length := by simp [flat0, putL_length]; omega
theorem flat0_row (x : Cn) (h : List UInt8) : (if x.gone = true then (flat0 x h).set 24 1 else flat0 x h) = x.row h := by
  have e : flat0 x h = (putL x.tot 8 ++ putL x.bat 8 ++ putL x.res 8) ++ (0 :: h) := by simp [flat0]
  have l : (putL x.tot 8 ++ putL x.bat 8 ++ putL x.res 8).length = 24 := by simp [putL_length]
  rw [e, Cn.row]
  unfold Cn.flag
  cases x.gone
  · simp
  · simp only [reduceIte]
    rw [List.set_append_right _ _ (by omega), l]
    simp
abbrev cnA (t b r nx : Nat) (gn : Bool) : Array Value := #[.int .u64 (t : Int), .int .u64 (b : Int), .int .u64 (r : Int), .int .u64 (nx : Int), .bool gn]
/-- The facts of Bytes. -/
def rbF (w : World) (g t b r : Nat) (A : Option Addr) (n c : Nat) (x1 x2 x3 h : List UInt8) : Nat → SG.Fact := fun i => (([SG.Fact.eq (.pointer (some ⟨g, 0, none⟩)), SG.Fact.eq (.int .u64 (t : Int)), SG.Fact.rd 8 x1, SG.Fact.eq (.pointer (some ⟨g, 1, none⟩)), SG.Fact.eq (.int .u64 (b : Int)), SG.Fact.rd 8 x2, SG.Fact.eq (.pointer (some ⟨g, 2, none⟩)), SG.Fact.eq (.int .u64 (r : Int)), SG.Fact.rd 8 x3, SG.Fact.bk 1 5 #[.int .u8 0], SG.Fact.eq (.slice A n c), SG.Fact.rows 5 [x1, x2, x3, [0], h], SG.Fact.new w [x1, x2, x3, [0], h].flatten, SG.Fact.new w [x1, x2, x3, [0], h].flatten] : List SG.Fact))[i]?.getD SG.Fact.any
set_option maxHeartbeats 8000000 in
theorem rbytes21_any (x : Cn) (A : Option Addr) (n c : Nat) (h : List UInt8) (w : World) (hx : x.Fit) (hr : Rd w A n c h) (hn : n ≤ 100000) :
    Calls Tryz.prog 39 #[.agg x.cells, .slice A n c] w fun e w' => ∃ A' c', e = .returned (.tuple #[.slice A' (x.bytesB h).length c', .int .i64 (x.bytesC h : Int)]) ∧ w'.ownsRow w.heap.size 5 1 (.slice A' (x.bytesB h).length c') (x.bytesB h).length (bv (x.bytesB h)) ∧ Below w.heap.size w w' := by
  have hl := hr.len
  obtain ⟨t, b, r, nx, gn⟩ := x
  obtain ⟨g, hg⟩ : ∃ g, g = w.heap.size := ⟨_, rfl⟩
  obtain ⟨w0, hw0⟩ : ∃ w0, w.alloc (.cells (cnA t b r nx gn) 46) = w0 := ⟨_, rfl⟩
  have G0 := Lib.hid (show Bk w0 g 46 (cnA t b r nx gn) by rw [← hw0, hg]; exact Bk.new _ _ _)
  have B0 := Lib.hid (show Below w.heap.size w w0 by rw [← hw0]; exact (Below.refl _ _).alloc (Nat.le_refl _) _)
  have HW0 := Lib.hid hw0
  have HG := Lib.hid hg
  have k0 : w0.cell? ⟨g, 0, none⟩ = some (.int .u64 (t : Int)) := G0.out.cell 0
  have k1 : w0.cell? ⟨g, 1, none⟩ = some (.int .u64 (b : Int)) := G0.out.cell 1
  have k2 : w0.cell? ⟨g, 2, none⟩ = some (.int .u64 (r : Int)) := G0.out.cell 2
  have k3 : w0.cell? ⟨g, 3, none⟩ = some (.int .u64 (nx : Int)) := G0.out.cell 3
  have k4 : w0.cell? ⟨g, 4, none⟩ = some (.bool gn) := G0.out.cell 4
  clear hw0 hg
  have MY := Lib.hid (fun X => rmay21_any ⟨t, b, r, nx, gn⟩ A n c X)
  unfold Cn.cells at MY ⊢
  simp only at MY ⊢
  by_cases hm : Cn.May ⟨t, b, r, nx, gn⟩ n
  · rw [show Cn.bytesB ⟨t, b, r, nx, gn⟩ h = Cn.row ⟨t, b, r, nx, gn⟩ h by simp [Cn.bytesB, hl, hm], show Cn.bytesC ⟨t, b, r, nx, gn⟩ h = 0 by simp [Cn.bytesC, hl, hm]]
    rw [show decide (Cn.May ⟨t, b, r, nx, gn⟩ n) = true from decide_eq_true hm] at MY
    have RW := Lib.hid (flat0_row ⟨t, b, r, nx, gn⟩ h)
    have FL := Lib.hid (flat0_len ⟨t, b, r, nx, gn⟩ h)
    have RL := Lib.hid (Cn.row_len ⟨t, b, r, nx, gn⟩ h)
    have HLN := Lib.hid hl
    obtain ⟨x1, hx1⟩ : ∃ x1, x1 = putL t 8 := ⟨_, rfl⟩
    obtain ⟨x2, hx2⟩ : ∃ x2, x2 = putL b 8 := ⟨_, rfl⟩
    obtain ⟨x3, hx3⟩ : ∃ x3, x3 = putL r 8 := ⟨_, rfl⟩
    have FF := Lib.hid (show flat0 ⟨t, b, r, nx, gn⟩ h = [x1, x2, x3, [0], h].flatten by rw [hx1, hx2, hx3]; rfl)
    have N1 := Lib.hid (show ∀ X, Calls Tryz.prog 68 #[.int .u64 (t : Int), .int .i64 8] X (New X.heap.size X x1) from fun X => by rw [hx1]; exact rput_any t 8 X (by omega) hx.tot)
    have N2 := Lib.hid (show ∀ X, Calls Tryz.prog 68 #[.int .u64 (b : Int), .int .i64 8] X (New X.heap.size X x2) from fun X => by rw [hx2]; exact rput_any b 8 X (by omega) hx.bat)
    have N3 := Lib.hid (show ∀ X, Calls Tryz.prog 68 #[.int .u64 (r : Int), .int .i64 8] X (New X.heap.size X x3) from fun X => by rw [hx3]; exact rput_any r 8 X (by omega) hx.res)
    have L1 := Lib.hid (show x1.length = 8 by rw [hx1]; exact putL_length _ _)
    have L2 := Lib.hid (show x2.length = 8 by rw [hx2]; exact putL_length _ _)
    have L3 := Lib.hid (show x3.length = 8 by rw [hx3]; exact putL_length _ _)
    have HL := Lib.hid (show [x1, x2, x3, [0], h].flatten.length ≤ 140737488355328 by simp; have := L1.out; have := L2.out; have := L3.out; omega)
    have HR := Lib.hid hr
    have HN := Lib.hid hn
    generalize Cn.row ⟨t, b, r, nx, gn⟩ h = RR at *
    clear hx1 hx2 hx3 hx hr hl hm hn
    go_enter Tryz.func39, Tryz.ntmps39
    go_upto_region 1 with (fail)
    rw [HW0.out, ← HG.out]
    go_upto_region 3 with (first
      | (go_at_call 37; ((with_reducible refine (MY.out _).mono ?_); rintro e w1 ⟨rfl, b1⟩; have B1 := Lib.hid b1; clear b1)))
    have G1 := Lib.hid (G0.out.below B1.out G0.out.lt)
    have BW := Lib.hid (B0.out.trans (B1.out.mono B0.out.size))
    clear G0 B0 B1 MY k0 k1 k2 k3 k4
    have HBB := Lib.hid (show ∀ X X', (Below w.heap.size w X ∧ Bk X g 46 (cnA t b r nx gn)) → Below X.heap.size X X' → (Below w.heap.size w X' ∧ Bk X' g 46 (cnA t b r nx gn)) from fun X X' h hb => ⟨h.1.trans (hb.mono h.1.size), h.2.below hb h.2.lt⟩)
    refine SG.wp_region_vals (rbF w g t b r A n c x1 x2 x3 h) (fun X => Below w.heap.size w X ∧ Bk X g 46 (cnA t b r nx gn)) 14 (by kernel_rfl) (by kernel_rfl) rfl ⟨BW.out.drew, G1.out.drew⟩ ?_
    refine SG.seq_val (by omega) HBB.out (fun _ => by rfl) ?_ ?_
    · intro g' X hB hd
      clear hd hB
      exact SG.givesQ_run (by go_simp) ⟨Below.refl _ _, rfl⟩
    simp only [Act.put, List.setIfInBounds_toArray, List.set_cons_zero, List.set_cons_succ]
    refine SG.seq_val (by omega) HBB.out (fun _ => by rfl) ?_ ?_
    · intro g' X hB hd
      have e0 : g' 0 = _ := hd 0 (by kernel_rfl)
      have f0 : X.cell? ⟨g, 0, none⟩ = some (.int .u64 (t : Int)) := hB.2.cell 0
      clear hd hB
      exact SG.givesQ_run (by go_simp) ⟨Below.refl _ _, rfl⟩
    simp only [Act.put, List.setIfInBounds_toArray, List.set_cons_zero, List.set_cons_succ]
    refine SG.seq_val (by omega) HBB.out (fun _ => by rfl) ?_ ?_
    · intro g' X hB hd
      have e1 : g' 1 = _ := hd 1 (by kernel_rfl)
      clear hd hB
      refine SG.givesQ_call (f := 68) (args := #[.int .u64 (t : Int), .int .i64 8]) (by go_simp) ((N1.out X).mono ?_)
      intro e X' h3
      obtain ⟨A', c', rfl, r', hb⟩ := new_len h3
      rw [L1.out] at r'
      exact ⟨_, rfl, hb, A', c', by rw [L1.out], r'⟩
    simp only [Act.put, List.setIfInBounds_toArray, List.set_cons_zero, List.set_cons_succ]
    refine SG.seq_val (by omega) HBB.out (fun _ => by rfl) ?_ ?_
    · intro g' X hB hd
      clear hd hB
      exact SG.givesQ_run (by go_simp) ⟨Below.refl _ _, rfl⟩
    simp only [Act.put, List.setIfInBounds_toArray, List.set_cons_zero, List.set_cons_succ]
    refine SG.seq_val (by omega) HBB.out (fun _ => by rfl) ?_ ?_
    · intro g' X hB hd
      have e0 : g' 3 = _ := hd 3 (by kernel_rfl)
      have f0 : X.cell? ⟨g, 1, none⟩ = some (.int .u64 (b : Int)) := hB.2.cell 1
      clear hd hB
      exact SG.givesQ_run (by go_simp) ⟨Below.refl _ _, rfl⟩
    simp only [Act.put, List.setIfInBounds_toArray, List.set_cons_zero, List.set_cons_succ]
    refine SG.seq_val (by omega) HBB.out (fun _ => by rfl) ?_ ?_
    · intro g' X hB hd
      have e1 : g' 4 = _ := hd 4 (by kernel_rfl)
      clear hd hB
      refine SG.givesQ_call (f := 68) (args := #[.int .u64 (b : Int), .int .i64 8]) (by go_simp) ((N2.out X).mono ?_)
      intro e X' h3
      obtain ⟨A', c', rfl, r', hb⟩ := new_len h3
      rw [L2.out] at r'
      exact ⟨_, rfl, hb, A', c', by rw [L2.out], r'⟩
    simp only [Act.put, List.setIfInBounds_toArray, List.set_cons_zero, List.set_cons_succ]
    refine SG.seq_val (by omega) HBB.out (fun _ => by rfl) ?_ ?_
    · intro g' X hB hd
      clear hd hB
      exact SG.givesQ_run (by go_simp) ⟨Below.refl _ _, rfl⟩
    simp only [Act.put, List.setIfInBounds_toArray, List.set_cons_zero, List.set_cons_succ]
    refine SG.seq_val (by omega) HBB.out (fun _ => by rfl) ?_ ?_
    · intro g' X hB hd
      have e0 : g' 6 = _ := hd 6 (by kernel_rfl)
      have f0 : X.cell? ⟨g, 2, none⟩ = some (.int .u64 (r : Int)) := hB.2.cell 2
      clear hd hB
      exact SG.givesQ_run (by go_simp) ⟨Below.refl _ _, rfl⟩
    simp only [Act.put, List.setIfInBounds_toArray, List.set_cons_zero, List.set_cons_succ]
    refine SG.seq_val (by omega) HBB.out (fun _ => by rfl) ?_ ?_
    · intro g' X hB hd
      have e1 : g' 7 = _ := hd 7 (by kernel_rfl)
      clear hd hB
      refine SG.givesQ_call (f := 68) (args := #[.int .u64 (r : Int), .int .i64 8]) (by go_simp) ((N3.out X).mono ?_)
      intro e X' h3
      obtain ⟨A', c', rfl, r', hb⟩ := new_len h3
      rw [L3.out] at r'
      exact ⟨_, rfl, hb, A', c', by rw [L3.out], r'⟩
    simp only [Act.put, List.setIfInBounds_toArray, List.set_cons_zero, List.set_cons_succ]
    refine SG.seq_val (by omega) HBB.out (fun _ => by rfl) ?_ ?_
    · intro g' X hB hd
      clear hd hB
      exact SG.givesQ_run (w' := X.alloc (.cells #[.int .u8 0] 5)) (by go_simp) ⟨(Below.refl _ _).alloc (Nat.le_refl _) _, X.heap.size, rfl, Bk.new _ _ _⟩
    simp only [Act.put, List.setIfInBounds_toArray, List.set_cons_zero, List.set_cons_succ]
    refine SG.seq_val (by omega) HBB.out (fun _ => by rfl) ?_ ?_
    · intro g' X hB hd
      clear hd hB
      exact SG.givesQ_run (by go_simp) ⟨Below.refl _ _, rfl⟩
    simp only [Act.put, List.setIfInBounds_toArray, List.set_cons_zero, List.set_cons_succ]
    refine SG.seq_val (by omega) HBB.out (fun _ => by rfl) ?_ ?_
    · intro g' X hB hd
      obtain ⟨A1, c1, e2, r1⟩ := hd 2 (by kernel_rfl)
      obtain ⟨A2, c2, e5, r2⟩ := hd 5 (by kernel_rfl)
      obtain ⟨A3, c3, e8, r3⟩ := hd 8 (by kernel_rfl)
      obtain ⟨b4, e9, k4⟩ := hd 9 (by kernel_rfl)
      have e10 : g' 10 = _ := hd 10 (by kernel_rfl)
      have r4 : Rd X (some ⟨b4, 0, none⟩) 1 1 [0] := Rd.of_bk k4 rfl (Nat.le_refl _) (by simp [maxLen]) (fun j hj => by obtain rfl : j = 0 := (by omega); rfl)
      have r5 := HR.out.below hB.1
      clear hd hB
      exact SG.givesQ_run (w' := X.alloc (.cells #[.slice A1 8 c1, .slice A2 8 c2, .slice A3 8 c3, .slice (some ⟨b4, 0, none⟩) 1 1, .slice A n c] 23)) (by go_simp) ⟨(Below.refl _ _).alloc (Nat.le_refl _) _, some ⟨X.heap.size, 0, none⟩, 5, rfl, RdBs.built5 X _ r1 r2 r3 r4 r5⟩
    simp only [Act.put, List.setIfInBounds_toArray, List.set_cons_zero, List.set_cons_succ]
    refine SG.seq_val (by omega) HBB.out (fun _ => by rfl) ?_ ?_
    · intro g' X hB hd
      obtain ⟨A', c', e11, r'⟩ := hd 11 (by kernel_rfl)
      have hs := hB.1.size
      clear hd hB
      refine SG.givesQ_call (f := 67) (args := #[.slice A' 5 c']) (by go_simp) ((rcat_any A' 5 c' _ X r' HL.out).mono ?_)
      rintro e X' ⟨A9, n9, c9, rfl, ho, hb⟩
      exact ⟨_, rfl, hb, A9, n9, c9, rfl, own_base ho hs⟩
    simp only [Act.put, List.setIfInBounds_toArray, List.set_cons_zero, List.set_cons_succ]
    refine SG.seq_val (by omega) HBB.out (fun _ => by rfl) ?_ ?_
    · intro g' X hB hd
      obtain ⟨A', n', c', e12, r'⟩ := hd 12 (by kernel_rfl)
      clear hd hB
      exact SG.givesQ_run (u := .slice A' n' c') (by go_simp) ⟨Below.refl _ _, A', n', c', rfl, r'⟩
    simp only [Act.put, List.setIfInBounds_toArray, List.set_cons_zero, List.set_cons_succ]
    refine SG.seq_end fun g' X hB hf => ?_
    obtain ⟨A7, n7, c7, e13, o7⟩ := hf 13 (by simp)
    have HB := Lib.hid hB.1
    have GX := Lib.hid hB.2
    have O7 := Lib.hid o7
    rw [show g' 13 = .slice A7 n7 c7 from e13]
    have hn7 : n7 = 25 + n := by rw [← own_len o7, ← FF.out, FL.out, HLN.out]
    subst hn7
    clear hf hB o7 e13 HBB
    have c4 : X.cell? ⟨g, 4, none⟩ = some (.bool gn) := GX.out.cell 4
    cases gn with
    | false =>
      go_wp2
      go_ret2
      have e := RW.out
      simp only [Bool.false_eq_true, if_false] at e
      rw [← e, FF.out, ← FF.out, FL.out, FF.out, HLN.out]
      exact ⟨A7, c7, rfl, O7.out, HB.out⟩
    | true =>
      obtain ⟨b7, cap7, hv7, _⟩ := O7.out.form (by omega)
      injection hv7 with hA7 _ hc7
      subst hA7 hc7
      have hc := O7.out.cellAt 24 (by omega)
      have hf := O7.out.frozenAt 24
      have hs := O7.out.stored 24 (.int .u8 1)
      have HS := Lib.hid hs
      rw [bv_at _ _ (by rw [← FF.out, FL.out]; omega)] at hc
      clear hs
      go_wp2
      go_ret2
      have e := RW.out
      simp only [if_true] at e
      have h1 := HS.out.1
      rw [show (Value.int .u8 1) = .int .u8 ((1 : UInt8).toNat : Int) from rfl, bv_set, ← FF.out, e] at h1
      have h2 : RR.length = 25 + n := by rw [RL.out, HLN.out]
      rw [h2]
      refine ⟨_, _, rfl, ?_, HB.out.grown HS.out.2 HB.out.size (fun q hq => by injection hq with hq; rw [← hq]; exact (O7.out.lt b7 rfl).1)⟩
      exact h1
  · rw [show Cn.bytesB ⟨t, b, r, nx, gn⟩ h = [] by simp [Cn.bytesB, hl, hm], show Cn.bytesC ⟨t, b, r, nx, gn⟩ h = 1 by simp [Cn.bytesC, hl, hm]]
    rw [show decide (Cn.May ⟨t, b, r, nx, gn⟩ n) = false from decide_eq_false hm] at MY
    clear hx hr hl hm hn
    go_enter Tryz.func39, Tryz.ntmps39
    go_upto_region 1 with (fail)
    rw [HW0.out, ← HG.out]
    go_wp2_with (first
      | (go_at_call 37; ((with_reducible refine (MY.out _).mono ?_); rintro e w1 ⟨rfl, b1⟩; have B1 := Lib.hid b1; clear b1)))
    go_ret2
    exact ⟨none, 0, rfl, ⟨rfl, .inl ⟨rfl, rfl⟩⟩, B0.out.trans (B1.out.mono B0.out.size)⟩
end Go.Proofs.YtnoflgkjdibblaaGreatDoor.S21

/-
  What the calls of package octet do: Fill and Xor.
-/
namespace Go.Proofs.YtnoflgkjdibblaaGreatDoor
set_option linter.unusedSimpArgs false
set_option linter.unusedVariables false
set_option maxRecDepth 1024
open Go.RowKit

theorem fill_step (b : UInt8) (k n : Nat) (h : k < n) : (bv (List.replicate k b ++ List.replicate (n - k) 0)).set k (.int .u8 (b.toNat : Int)) = bv (List.replicate (k + 1) b ++ List.replicate (n - (k + 1)) 0) := by
  obtain ⟨m, hm⟩ : ∃ m, n - k = m + 1 := ⟨n - k - 1, by omega⟩
  have hm' : n - (k + 1) = m := by omega
  rw [bv_set, hm, hm', List.set_append_right _ _ (by simp), List.replicate_succ' (n := k), List.append_assoc]
  simp [List.replicate_succ]

theorem fill_any (b : UInt8) (n : Nat) (w : World) (hn : n ≤ 65536) :
    Calls Tryz.prog 63 #[.int .u8 (b.toNat : Int), .int .i64 (n : Int)] w (New w.heap.size w (List.replicate n b)) := by
  obtain ⟨i0, hi, hz0, hz1, hz2⟩ := info_parts Tryz.infoU8
  go_enter Tryz.func63, Tryz.ntmps63
  go_wp2_with (at_make; refine wpList_make_full _ rfl _ _ 23 rfl w.heap.size 5 i0 (.int .u8 0) 1 Tryz.underlying23 hi hz0 hz1 _ _ _ _ n rfl rfl rfl rfl ?b2 ?b3 (Nat.le_refl _) ?_)
  case b2 => rw [hz2]; omega
  case b3 => unfold maxLen; omega
  intro w0 hown0 hgrow0
  rw [bv_zero] at hown0
  have hb0 : Below w.heap.size w w0 := (Below.refl _ _).grown hgrow0 (Nat.le_refl _) (fun k h => by cases h)
  clear hgrow0
  go_wp2
  go_loopw [17] (fun i wr => ∃ k : Nat, k ≤ n ∧ i = .int .i64 (k : Int) ∧
      wr.ownsRow w.heap.size 5 1 (.slice (some ⟨w.heap.size, 0, none⟩) n n) n (bv (List.replicate k b ++ List.replicate (n - k) 0)) ∧ Below w.heap.size w wr)
    (fun i _ => n - (intOf i).toNat)
  case atStart => exact ⟨0, Nat.zero_le _, rfl, by simpa using hown0, hb0⟩
  case round =>
    obtain ⟨k, hk, rfl, hown, hbel⟩ := hrel
    by_cases hlt : k < n
    · have hc := hown.cellAt k (by omega)
      have hf := hown.frozenAt k
      have hs := hown.stored k
      rw [bv_at _ _ (by simp; omega)] at hc
      go_wp2
      go_roundw
      case rel =>
        exact ⟨k + 1, by omega, by go_num, by rw [← fill_step b k n hlt]; exact (hs _).1, hbel.setCell (Nat.le_refl _) _⟩
      case measure => simp [intOf]; omega
    · obtain rfl : k = n := by omega
      go_wp2
      go_ret
      exact ⟨_, _, _, rfl, by simpa using hown, hbel⟩

theorem fill_none (b n : Int) (w : World) (hn : n < 0 ∨ 65536 < n) :
    Calls Tryz.prog 63 #[.int .u8 b, .int .i64 n] w fun e w' => e = .returned (.slice none 0 0) ∧ w = w' := by
  rcases hn with hn | hn
  · go_enter Tryz.func63, Tryz.ntmps63
    go_wp2
    go_ret
    exact ⟨rfl, rfl⟩
  · have h0 : ¬ n < 0 := by omega
    go_enter Tryz.func63, Tryz.ntmps63
    go_wp2
    go_ret
    exact ⟨rfl, rfl⟩

/-- 'string(b)' of bytes that read. -/
def xorL (xs ys : List UInt8) : List UInt8 := List.zipWith (· ^^^ ·) xs ys
theorem xorL_length (xs ys : List UInt8) : (xorL xs ys).length = min xs.length ys.length := by simp [xorL]

theorem xor_step (xs ys : List UInt8) (k n n' m : Nat) (hx : xs.length = n) (hy : ys.length = n') (hm : m = min n n') (hk : k < m) :
    (bv ((xorL xs ys).take k ++ List.replicate (m - k) 0)).set k (.int .u8 (bits .xor .u8 ((xs[k]?.getD 0).toNat : Int) ((ys[k]?.getD 0).toNat : Int))) = bv ((xorL xs ys).take (k + 1) ++ List.replicate (m - (k + 1)) 0) := by
  have hl := xorL_length xs ys
  have h1 : k < xs.length := by omega
  have h2 : k < ys.length := by omega
  have hv : bits .xor .u8 ((xs[k]?.getD 0).toNat : Int) ((ys[k]?.getD 0).toNat : Int) = (((xs[k] ^^^ ys[k] : UInt8)).toNat : Int) := by
    simp only [List.getElem?_eq_getElem h1, List.getElem?_eq_getElem h2, Option.getD_some]
    rw [u8_xor_nat _ _ (UInt8.toNat_lt _) (UInt8.toNat_lt _), UInt8.toNat_xor]
  have h3 : k < (xorL xs ys).length := by omega
  obtain ⟨q, hq⟩ : ∃ q, m - k = q + 1 := ⟨m - k - 1, by omega⟩
  have hq' : m - (k + 1) = q := by omega
  rw [hv, bv_set, hq, hq', List.set_append_right _ _ (by simp; omega), List.take_succ_eq_append_getElem h3, List.append_assoc]
  have e : k - ((xorL xs ys).take k).length = 0 := by rw [List.length_take]; omega
  rw [e, List.replicate_succ, List.set_cons_zero]
  simp [xorL]

end Go.Proofs.YtnoflgkjdibblaaGreatDoor

/-
  What the landed octet.Same does. No statement is proved here.
-/
namespace Go.Proofs.YtnoflgkjdibblaaGreatDoor
set_option linter.unusedSimpArgs false
set_option linter.unusedVariables false
set_option maxRecDepth 1024
open Go.RowKit

/-- 'string(b)' of bytes that read. -/
theorem Rd.convert {w : World} {A : Option Addr} {n c : Nat} {xs : List UInt8} (h : Rd w A n c xs) :
    (convert 23 9 (.slice A n c)).run Tryz.prog w = .ok (.string ⟨xs.toArray⟩) w := by
  rcases Nat.eq_zero_or_pos n with hn | hn
  · subst hn
    obtain rfl : xs = [] := List.eq_nil_of_length_eq_zero h.len
    rw [run_convert_bytes_string w 23 9 5 _ 0 c Tryz.underlying23 Tryz.underlying5 Tryz.underlying9]
    cases A <;> simp [Conv.bytesToString, loadCells]
    all_goals rfl
  · obtain ⟨b, o, rfl, _, hc⟩ := h.at_ hn
    have e := run_convert_bytes_arg (P := Tryz.prog) w 23 5 Tryz.underlying23 Tryz.underlying5 b o n c (xs.map fun x => (x.toNat : Int)) (by simp [h.len])
      (fun i hi => by
        have hl : i < xs.length := by have := h.len; omega
        rw [hc i hi]; simp [List.getD, hl]) 9 Tryz.underlying9
    rw [e]
    have : strOfNums (xs.map fun x => (x.toNat : Int)) = ⟨xs.toArray⟩ := by
      simp [strOfNums, Function.comp_def]
    rw [this]

theorem equal_any (A A' : Option Addr) (n c n' c' : Nat) (xs ys : List UInt8) (w : World) (h : Rd w A n c xs) (h' : Rd w A' n' c' ys) :
    Calls Tryz.prog 106 #[.slice A n c, .slice A' n' c'] w fun e w' => e = .returned (.bool (sameB xs ys)) ∧ w = w' := by
  have c1 := h.convert
  have c2 := h'.convert
  go_enter Tryz.func106, Tryz.ntmps106
  go_wp2
  go_ret
  exact ⟨rfl, rfl⟩

theorem same_any (A A' : Option Addr) (n c n' c' : Nat) (xs ys : List UInt8) (w : World) (h : Rd w A n c xs) (h' : Rd w A' n' c' ys) :
    Calls Tryz.prog 77 #[.slice A n c, .slice A' n' c'] w fun e w' => e = .returned (.bool (sameB xs ys)) ∧ w = w' := by
  go_enter Tryz.func77, Tryz.ntmps77
  go_wp2_with (go_at_call 106; refine (equal_any A A' n c n' c' xs ys _ h h').mono ?_; rintro e w' ⟨rfl, rfl⟩)
  go_ret
  exact ⟨rfl, rfl⟩
end Go.Proofs.YtnoflgkjdibblaaGreatDoor

/-
  The landed counter: whether it may be, its mark, numbers as bytes; where it lies. No statement is proved here.
-/
namespace Go.Proofs.YtnoflgkjdibblaaGreatDoor.S21
set_option linter.unusedSimpArgs false
set_option linter.unusedVariables false
set_option maxRecDepth 8192
open Go.RowKit S19 S20

/-- A counter and its head, as the landed program holds them together. -/
abbrev ncA (x : Cn) (A : Option Addr) (n c : Nat) : Array Value := #[.int .u64 (x.tot : Int), .int .u64 (x.bat : Int), .int .u64 (x.res : Int), .int .u64 (x.nxt : Int), .bool x.gone, .slice A n c]
set_option maxHeartbeats 4000000 in
theorem lmay_any (x : Cn) (A : Option Addr) (n c : Nat) (w : World) : Calls Tryz.prog 33 #[.agg (ncA x A n c)] w fun e w' => e = .returned (.bool (decide (x.May n))) ∧ Below w.heap.size w w' := by
  obtain ⟨t, b, r, nx, gn⟩ := x
  obtain ⟨m, hm⟩ : ∃ m, m = decide (Cn.May ⟨t, b, r, nx, gn⟩ n) := ⟨_, rfl⟩
  rw [← hm]
  unfold Cn.May at hm
  simp only at hm
  obtain ⟨w1, hw1⟩ : ∃ w1, w1 = w.alloc (.cells #[.int .u64 (t : Int), .int .u64 (b : Int), .int .u64 (r : Int), .int .u64 (nx : Int), .bool gn, .slice A n c] 90) := ⟨_, rfl⟩
  have hbel : Below w.heap.size w w1 := by rw [hw1]; exact (Below.refl _ _).alloc (Nat.le_refl _) _
  have HB := Lib.hid hbel
  have HW := Lib.hid hw1
  clear hbel hw1
  have H : (m = true ∧ (n : Int) ≤ 200 ∧ (1 : Int) ≤ (t : Int) ∧ (t : Int) ≤ 1152921504606846976 ∧ (1 : Int) ≤ (b : Int) ∧ (b : Int) ≤ 65536 ∧ (r : Int) ≤ (t : Int))
      ∨ (m = false ∧ ¬ (n : Int) ≤ 200) ∨ (m = false ∧ (n : Int) ≤ 200 ∧ ¬ (1 : Int) ≤ (t : Int)) ∨ (m = false ∧ (n : Int) ≤ 200 ∧ (1 : Int) ≤ (t : Int) ∧ ¬ (t : Int) ≤ 1152921504606846976)
      ∨ (m = false ∧ (n : Int) ≤ 200 ∧ (1 : Int) ≤ (t : Int) ∧ (t : Int) ≤ 1152921504606846976 ∧ ¬ (1 : Int) ≤ (b : Int))
      ∨ (m = false ∧ (n : Int) ≤ 200 ∧ (1 : Int) ≤ (t : Int) ∧ (t : Int) ≤ 1152921504606846976 ∧ (1 : Int) ≤ (b : Int) ∧ ¬ (b : Int) ≤ 65536)
      ∨ (m = false ∧ (n : Int) ≤ 200 ∧ (1 : Int) ≤ (t : Int) ∧ (t : Int) ≤ 1152921504606846976 ∧ (1 : Int) ≤ (b : Int) ∧ (b : Int) ≤ 65536 ∧ ¬ (r : Int) ≤ (t : Int)) := by
    by_cases q1 : (n : Int) ≤ 200
    · by_cases q2 : (1 : Int) ≤ (t : Int)
      · by_cases q3 : (t : Int) ≤ 1152921504606846976
        · by_cases q4 : (1 : Int) ≤ (b : Int)
          · by_cases q5 : (b : Int) ≤ 65536
            · by_cases q6 : (r : Int) ≤ (t : Int)
              · exact .inl ⟨by rw [hm]; exact decide_eq_true (by omega), q1, q2, q3, q4, q5, q6⟩
              · exact .inr (.inr (.inr (.inr (.inr (.inr ⟨by rw [hm]; exact decide_eq_false (by omega), q1, q2, q3, q4, q5, q6⟩)))))
            · exact .inr (.inr (.inr (.inr (.inr (.inl ⟨by rw [hm]; exact decide_eq_false (by omega), q1, q2, q3, q4, q5⟩)))))
          · exact .inr (.inr (.inr (.inr (.inl ⟨by rw [hm]; exact decide_eq_false (by omega), q1, q2, q3, q4⟩))))
        · exact .inr (.inr (.inr (.inl ⟨by rw [hm]; exact decide_eq_false (by omega), q1, q2, q3⟩)))
      · exact .inr (.inr (.inl ⟨by rw [hm]; exact decide_eq_false (by omega), q1, q2⟩))
    · exact .inr (.inl ⟨by rw [hm]; exact decide_eq_false (by omega), q1⟩)
  clear hm
  rcases H with ⟨rfl, q1, q2, q3, q4, q5, q6⟩ | ⟨rfl, q1⟩ | ⟨rfl, q1, q2⟩ | ⟨rfl, q1, q2, q3⟩ | ⟨rfl, q1, q2, q3, q4⟩ | ⟨rfl, q1, q2, q3, q4, q5⟩ | ⟨rfl, q1, q2, q3, q4, q5, q6⟩
  all_goals
    go_enter Tryz.func33, Tryz.ntmps33
    go_wp2
    go_ret
    rw [← HW.out]
    exact ⟨rfl, HB.out⟩
set_option maxHeartbeats 2000000 in
theorem lmark_any (x : Cn) (A : Option Addr) (n c : Nat) (w : World) : Calls Tryz.prog 64 #[.agg (ncA x A n c)] w fun e w' => e = .returned (.int .u8 (x.flag.toNat : Int)) ∧ Below w.heap.size w w' := by
  obtain ⟨t, b, r, nx, gn⟩ := x
  obtain ⟨w1, hw1⟩ : ∃ w1, w1 = w.alloc (.cells #[.int .u64 (t : Int), .int .u64 (b : Int), .int .u64 (r : Int), .int .u64 (nx : Int), .bool gn, .slice A n c] 90) := ⟨_, rfl⟩
  have hbel : Below w.heap.size w w1 := by rw [hw1]; exact (Below.refl _ _).alloc (Nat.le_refl _) _
  have HB := Lib.hid hbel
  have HW := Lib.hid hw1
  clear hbel hw1
  cases gn
  · rw [show ((Cn.flag ⟨t, b, r, nx, false⟩).toNat : Int) = 0 from rfl]
    go_enter Tryz.func64, Tryz.ntmps64
    go_wp2
    go_ret
    rw [← HW.out]
    exact ⟨rfl, HB.out⟩
  · rw [show ((Cn.flag ⟨t, b, r, nx, true⟩).toNat : Int) = 1 from rfl]
    go_enter Tryz.func64, Tryz.ntmps64
    go_wp2
    go_ret
    rw [← HW.out]
    exact ⟨rfl, HB.out⟩
theorem lnumber_any (v : Nat) (hv : v < 18446744073709551616) (w : World) : Calls Tryz.prog 62 #[.int .u64 (v : Int)] w (New w.heap.size w (putL v 8)) := by
  have P := Lib.hid (show Calls Tryz.prog 86 #[.int .u64 (v : Int), .int .i64 8] w (New w.heap.size w (putL v 8)) from put_any v 8 w (by omega) hv)
  clear hv
  go_enter Tryz.func62, Tryz.ntmps62
  go_wp2_with (go_at_call 86; ((with_reducible refine P.out.mono ?_); rintro e w1 ⟨A1, n1, c1, rfl, o1, b1⟩; have O1 := Lib.hid o1; have B1 := Lib.hid b1; clear o1 b1))
  go_ret
  exact ⟨A1, n1, c1, rfl, O1.out, B1.out⟩
theorem ltold_any (A : Option Addr) (n c : Nat) (xs : List UInt8) (w : World) (hn : n ≤ 8) (h : Rd w A n c xs) : Calls Tryz.prog 105 #[.slice A n c] w fun e w' => e = .returned (.int .u64 (getL xs : Int)) ∧ w = w' := by
  obtain ⟨g, hg⟩ : ∃ g, g = getL xs := ⟨_, rfl⟩
  have P := Lib.hid (show Calls Tryz.prog 109 #[.slice A n c] w fun e w' => e = .returned (.tuple #[.int .u64 (g : Int), .bool true]) ∧ w = w' by rw [hg]; exact get_any A n c xs w hn h)
  rw [← hg]
  clear hn h hg
  go_enter Tryz.func105, Tryz.ntmps105
  go_wp2_with (go_at_call 109; ((with_reducible refine P.out.mono ?_); rintro e w1 ⟨rfl, rfl⟩))
  go_ret
  exact ⟨rfl, rfl⟩
theorem RdBs.built5To (w : World) (b : Nat) (hb : w.heap.size = b) (T : TypeId) {A1 A2 A3 A4 A5 : Option Addr} {n1 n2 n3 n4 n5 c1 c2 c3 c4 c5 : Nat} {x1 x2 x3 x4 x5 : List UInt8} (h1 : Rd w A1 n1 c1 x1) (h2 : Rd w A2 n2 c2 x2) (h3 : Rd w A3 n3 c3 x3) (h4 : Rd w A4 n4 c4 x4) (h5 : Rd w A5 n5 c5 x5) :
    RdBs (w.alloc (.cells #[.slice A1 n1 c1, .slice A2 n2 c2, .slice A3 n3 c3, .slice A4 n4 c4, .slice A5 n5 c5] T)) (some ⟨b, 0, none⟩) 5 5 [x1, x2, x3, x4, x5] := by
  subst hb
  exact RdBs.built5 w T h1 h2 h3 h4 h5
theorem New.bel {B : Nat} {w w' : World} {xs : List UInt8} {e : Ending} (h : New B w xs e w') : Below B w w' := by
  obtain ⟨_, _, _, _, _, hb⟩ := h
  exact hb
/-- Where the landed counter lies. -/
structure Ki (N : Nat) (w : World) (cc s : Nat) (x : Cn) (h : List UInt8) (K : Nat → Prop) : Prop where
  ex : ∃ A c, Bk w cc 95 #[.int .u64 (x.tot : Int), .int .u64 (x.bat : Int), .int .u64 (x.res : Int), .int .u64 (x.nxt : Int), .bool x.gone, .slice A h.length c, .pointer (some ⟨s, 0, none⟩)] ∧ Rd w A h.length c h ∧ ∀ a, 0 < h.length → A = some a → K a.block ∧ a.block ≠ cc
  at_ : K cc
  few : h.length ≤ 100000
  lt : ∀ b, K b → N ≤ b ∧ b < w.heap.size
section
variable {N : Nat} {w w' : World} {cc s : Nat} {x y : Cn} {h : List UInt8} {K : Nat → Prop}
theorem Ki.keep (r : Ki N w cc s x h K) (hs : w.heap.size ≤ w'.heap.size) (hk : ∀ b, K b → b < w.heap.size → w'.heap[b]? = w.heap[b]?) : Ki N w' cc s x h K := by
  obtain ⟨A, c, h1, h2, h3⟩ := r.ex
  refine ⟨⟨A, c, (hk cc r.at_ (r.lt cc r.at_).2).trans h1, ⟨h2.len, h2.cap, h2.max, h2.nil, fun hn => ?_⟩, h3⟩, r.at_, r.few, fun b hb => ⟨(r.lt b hb).1, Nat.lt_of_lt_of_le (r.lt b hb).2 hs⟩⟩
  obtain ⟨b, off, rfl, hl, hc⟩ := h2.at_ hn
  exact ⟨b, off, rfl, Nat.lt_of_lt_of_le hl hs, fun j hj => (World.cell?_of_block (a := ⟨b, off + j, none⟩) (hk b (h3 _ hn rfl).1 hl)).trans (hc j hj)⟩
theorem Ki.grow (r : Ki N w cc s x h K) (hb : Below w.heap.size w w') : Ki N w' cc s x h K := r.keep hb.size fun b _ hl => hb.block b hl
/-- The counter's own cells have turned. -/
theorem Ki.set (r : Ki N w cc s x h K) (hs : w.heap.size ≤ w'.heap.size) (hk : ∀ b, b ≠ cc → b < w.heap.size → w'.heap[b]? = w.heap[b]?) (hc : ∀ A c, Bk w cc 95 #[.int .u64 (x.tot : Int), .int .u64 (x.bat : Int), .int .u64 (x.res : Int), .int .u64 (x.nxt : Int), .bool x.gone, .slice A h.length c, .pointer (some ⟨s, 0, none⟩)] → Bk w' cc 95 #[.int .u64 (y.tot : Int), .int .u64 (y.bat : Int), .int .u64 (y.res : Int), .int .u64 (y.nxt : Int), .bool y.gone, .slice A h.length c, .pointer (some ⟨s, 0, none⟩)]) : Ki N w' cc s y h K := by
  obtain ⟨A, c, h1, h2, h3⟩ := r.ex
  refine ⟨⟨A, c, hc A c h1, ⟨h2.len, h2.cap, h2.max, h2.nil, fun hn => ?_⟩, h3⟩, r.at_, r.few, fun b hb => ⟨(r.lt b hb).1, Nat.lt_of_lt_of_le (r.lt b hb).2 hs⟩⟩
  obtain ⟨b, off, rfl, hl, hc⟩ := h2.at_ hn
  exact ⟨b, off, rfl, Nat.lt_of_lt_of_le hl hs, fun j hj => (World.cell?_of_block (a := ⟨b, off + j, none⟩) (hk b (h3 _ hn rfl).2 hl)).trans (hc j hj)⟩
end
/-- The counter's own cells are written over. -/
abbrev st6 (W : World) (cc : Nat) (y : Cn) (A : Option Addr) (n c : Nat) : World := (((((W.setCell ⟨cc, 0, none⟩ (.int .u64 (y.tot : Int))).setCell ⟨cc, 1, none⟩ (.int .u64 (y.bat : Int))).setCell ⟨cc, 2, none⟩ (.int .u64 (y.res : Int))).setCell ⟨cc, 3, none⟩ (.int .u64 (y.nxt : Int))).setCell ⟨cc, 4, none⟩ (.bool y.gone)).setCell ⟨cc, 5, none⟩ (.slice A n c)
theorem st6_far (W : World) (cc : Nat) (y : Cn) (A : Option Addr) (n c b : Nat) (hb : b ≠ cc) : (st6 W cc y A n c).heap[b]? = W.heap[b]? :=
  (Below.heap_setCell _ ⟨cc, 5, none⟩ _ b hb).trans ((Below.heap_setCell _ ⟨cc, 4, none⟩ _ b hb).trans ((Below.heap_setCell _ ⟨cc, 3, none⟩ _ b hb).trans ((Below.heap_setCell _ ⟨cc, 2, none⟩ _ b hb).trans ((Below.heap_setCell _ ⟨cc, 1, none⟩ _ b hb).trans (Below.heap_setCell _ ⟨cc, 0, none⟩ _ b hb)))))
theorem poke_cc {N cc : Nat} (hN : N ≤ cc) (W : World) (i : Nat) (u : Value) : Mv N (fun b => b = cc) W (W.setCell ⟨cc, i, none⟩ u) := ⟨(Below.refl _ _).setCell (show N ≤ (⟨cc, i, none⟩ : Addr).block from hN) _, fun b _ h => Below.heap_setCell _ ⟨cc, i, none⟩ _ b h⟩
theorem st6_mv {N cc : Nat} (hN : N ≤ cc) (W : World) (y : Cn) (A : Option Addr) (n c : Nat) : Mv N (fun b => b = cc) W (st6 W cc y A n c) :=
  (((((poke_cc hN W 0 _).trans (poke_cc hN _ 1 _) fun b hb => .inl hb).trans (poke_cc hN _ 2 _) fun b hb => .inl hb).trans (poke_cc hN _ 3 _) fun b hb => .inl hb).trans (poke_cc hN _ 4 _) fun b hb => .inl hb).trans (poke_cc hN _ 5 _) fun b hb => .inl hb
end Go.Proofs.YtnoflgkjdibblaaGreatDoor.S21

/-
  The landed counter as bytes. No statement is proved here.
-/
namespace Go.Proofs.YtnoflgkjdibblaaGreatDoor.S21
set_option linter.unusedSimpArgs false
set_option linter.unusedVariables false
set_option maxRecDepth 8192
open Go.RowKit S19 S20

set_option maxHeartbeats 8000000 in
theorem lbytes_any (x : Cn) (hx : x.Fit) (A : Option Addr) (n c : Nat) (h : List UInt8) (w : World) (hr : Rd w A n c h) (hn : n ≤ 100000) : Calls Tryz.prog 36 #[.agg (ncA x A n c)] w (New w.heap.size w (x.row h)) := by
  have hrl := Cn.row_len x h
  have hl := hr.len
  obtain ⟨row, hrow⟩ : ∃ v, v = x.row h := ⟨_, rfl⟩
  obtain ⟨f, hf⟩ : ∃ v, v = x.flag := ⟨_, rfl⟩
  have hfl : [putL x.tot 8, putL x.bat 8, putL x.res 8, [f], h].flatten = row := by rw [hrow, hf]; simp [Cn.row]
  have MK := Lib.hid (show ∀ X, Calls Tryz.prog 64 #[.agg (ncA x A n c)] X fun e w' => e = .returned (.int .u8 (f.toNat : Int)) ∧ Below X.heap.size X w' from fun X => by rw [hf]; exact lmark_any x A n c X)
  rw [← hrow] at hrl ⊢
  obtain ⟨t, b, r, nx, gn⟩ := x
  obtain ⟨x1, hx1⟩ : ∃ x1, x1 = putL t 8 := ⟨_, rfl⟩
  obtain ⟨x2, hx2⟩ : ∃ x2, x2 = putL b 8 := ⟨_, rfl⟩
  obtain ⟨x3, hx3⟩ : ∃ x3, x3 = putL r 8 := ⟨_, rfl⟩
  have FL := Lib.hid (show [x1, x2, x3, [f], h].flatten = row by rw [hx1, hx2, hx3]; exact hfl)
  have RL := Lib.hid (show row.length ≤ 140737488355328 by omega)
  have P1 := Lib.hid (show ∀ X, Calls Tryz.prog 62 #[.int .u64 (t : Int)] X (New X.heap.size X x1) from fun X => by rw [hx1]; exact lnumber_any t hx.tot X)
  have P2 := Lib.hid (show ∀ X, Calls Tryz.prog 62 #[.int .u64 (b : Int)] X (New X.heap.size X x2) from fun X => by rw [hx2]; exact lnumber_any b hx.bat X)
  have P3 := Lib.hid (show ∀ X, Calls Tryz.prog 62 #[.int .u64 (r : Int)] X (New X.heap.size X x3) from fun X => by rw [hx3]; exact lnumber_any r hx.res X)
  have FI := Lib.hid (show ∀ X, Calls Tryz.prog 63 #[.int .u8 (f.toNat : Int), .int .i64 1] X (New X.heap.size X [f]) from fun X => fill_any f 1 X (by omega))
  replace MK := Lib.hid (show ∀ X, Calls Tryz.prog 64 #[.agg #[.int .u64 (t : Int), .int .u64 (b : Int), .int .u64 (r : Int), .int .u64 (nx : Int), .bool gn, .slice A n c]] X fun e w' => e = .returned (.int .u8 (f.toNat : Int)) ∧ Below X.heap.size X w' from MK.out)
  obtain ⟨g, hg⟩ : ∃ g, w.heap.size = g := ⟨_, rfl⟩
  obtain ⟨w0, hw0⟩ : ∃ w0, w.alloc (.cells #[.int .u64 (t : Int), .int .u64 (b : Int), .int .u64 (r : Int), .int .u64 (nx : Int), .bool gn, .slice A n c] 90) = w0 := ⟨_, rfl⟩
  have K0 := Lib.hid (show Bk w0 g 90 #[.int .u64 (t : Int), .int .u64 (b : Int), .int .u64 (r : Int), .int .u64 (nx : Int), .bool gn, .slice A n c] by rw [← hw0]; exact Bk.newAt _ _ _ _ hg)
  have B0 := Lib.hid (show Below w.heap.size w w0 by rw [← hw0]; exact (Below.refl _ _).alloc (Nat.le_refl _) _)
  have HR := Lib.hid hr
  have HG := Lib.hid hg
  have HW0 := Lib.hid hw0
  have GD := Lib.hid (Below.refl w0.heap.size w0).drew
  have KX := Lib.hid (show ∀ X, Below w0.heap.size w0 X → X.cell? ⟨g, 0, none⟩ = some (.int .u64 (t : Int)) ∧ X.cell? ⟨g, 1, none⟩ = some (.int .u64 (b : Int)) ∧ X.cell? ⟨g, 2, none⟩ = some (.int .u64 (r : Int)) ∧ X.cell? ⟨g, 3, none⟩ = some (.int .u64 (nx : Int)) ∧ X.cell? ⟨g, 4, none⟩ = some (.bool gn) ∧ X.cell? ⟨g, 5, none⟩ = some (.slice A n c) from fun X hX => by
    have q := K0.out.below hX K0.out.lt
    exact ⟨q.cell 0, q.cell 1, q.cell 2, q.cell 3, q.cell 4, q.cell 5⟩)
  clear hx hx1 hx2 hx3 hr hrl hl hrow hf hfl hn hg hw0
  go_enter Tryz.func36, Tryz.ntmps36
  go_upto_region 1 with (fail)
  rw [HW0.out, HG.out]
  (go_region_held3 (fun X => X.cell? ⟨g, 0, none⟩ = some (.int .u64 (t : Int)) ∧ X.cell? ⟨g, 1, none⟩ = some (.int .u64 (b : Int)) ∧ X.cell? ⟨g, 2, none⟩ = some (.int .u64 (r : Int)) ∧ X.cell? ⟨g, 3, none⟩ = some (.int .u64 (nx : Int)) ∧ X.cell? ⟨g, 4, none⟩ = some (.bool gn) ∧ X.cell? ⟨g, 5, none⟩ = some (.slice A n c)) (first
    | exact KX.out _ B6.out
    | exact KX.out _ (B5.out.alloc B5.out.size _)
    | exact KX.out _ B5.out
    | exact KX.out _ B4.out
    | exact KX.out _ B3.out
    | exact KX.out _ B2.out
    | exact KX.out _ B1.out
    | exact KX.out _ GD.out) (first
    | (go_at_call 62; ((with_reducible refine (P1.out _).mono ?_); rintro e w1 ⟨A1, n1, c1, rfl, o1, b1⟩; have R1 := Lib.hid (Rd.own o1); have B1 := Lib.hid (GD.out.trans (b1.mono GD.out.size)); clear o1 b1))
    | (go_at_call 62; ((with_reducible refine (P2.out _).mono ?_); rintro e w2 ⟨A2, n2, c2, rfl, o2, b2⟩; have R2 := Lib.hid (Rd.own o2); have R12 := Lib.hid (R1.out.below b2); have B2 := Lib.hid (B1.out.trans (b2.mono B1.out.size)); clear o2 b2 R1))
    | (go_at_call 62; ((with_reducible refine (P3.out _).mono ?_); rintro e w3 ⟨A3, n3, c3, rfl, o3, b3⟩; have R3 := Lib.hid (Rd.own o3); have R13 := Lib.hid (R12.out.below b3); have R23 := Lib.hid (R2.out.below b3); have B3 := Lib.hid (B2.out.trans (b3.mono B2.out.size)); clear o3 b3 R12 R2))
    | (go_at_call 64; ((with_reducible refine (MK.out _).mono ?_); rintro e w4 ⟨rfl, b4⟩; have R14 := Lib.hid (R13.out.below b4); have R24 := Lib.hid (R23.out.below b4); have R34 := Lib.hid (R3.out.below b4); have B4 := Lib.hid (B3.out.trans (b4.mono B3.out.size)); clear b4 R13 R23 R3))
    | (go_at_call 63; ((with_reducible refine (FI.out _).mono ?_); rintro e w5 ⟨A5, n5, c5, rfl, o5, b5⟩; have R5 := Lib.hid (Rd.own o5); have R15 := Lib.hid (R14.out.below b5); have R25 := Lib.hid (R24.out.below b5); have R35 := Lib.hid (R34.out.below b5); have B5 := Lib.hid (B4.out.trans (b5.mono B4.out.size)); clear o5 b5 R14 R24 R34))
    | (go_at_call 32; ((refine (cat_any _ 5 5 [x1, x2, x3, [f], h] _ (RdBs.built5To w5 _ rfl _ R15.out R25.out R35.out R5.out (HR.out.below (B0.out.trans (B5.out.mono B0.out.size)))) (by rw [FL.out]; exact RL.out)).mono ?_); intro e w6 h6; rw [FL.out] at h6; have BW5 := B0.out.trans (B5.out.mono B0.out.size); have h6' := New.from (B5.out.alloc B5.out.size _) h6; have B6 := Lib.hid (New.bel h6'); obtain ⟨A6, n6, c6, rfl, o6, b6⟩ := New.from (BW5.alloc BW5.size _) h6; have O6 := Lib.hid o6; have BW6 := Lib.hid b6; clear o6 b6 h6 h6' BW5))
    | fail))
  go_wp2_with (fail)
  go_ret
  exact ⟨A6, n6, c6, rfl, O6.out, BW6.out⟩
end Go.Proofs.YtnoflgkjdibblaaGreatDoor.S21

/-
  What the landed package leave does: Need and Told. No statement is proved here.
-/
namespace Go.Proofs.YtnoflgkjdibblaaGreatDoor.LV
set_option linter.unusedSimpArgs false
set_option linter.unusedVariables false
open Go.RowKit

/-- What a call leaves by: the code k. -/
def wrg (k : Int) : PanicEntry := { v := .iface 114 (.agg #[.int .i64 k]), recovered := false }
theorem told_nil (w : World) : Calls Tryz.prog 29 #[.nilIface] w fun e w' => e = .returned (.int .i64 0) ∧ w = w' := by
  go_enter Tryz.func29, Tryz.ntmps29
  go_wp2
  go_ret
  exact ⟨rfl, rfl⟩
theorem told_wrong (k : Int) (w : World) : Calls Tryz.prog 29 #[.iface 114 (.agg #[.int .i64 k])] w fun e w' => e = .returned (.int .i64 k) ∧ Below w.heap.size w w' := by
  have ta : ∀ w, (Instr.typeAssert (.iface 114 (.agg #[.int .i64 k])) 20 114 true).run Tryz.prog w = .ok (.tuple #[.agg #[.int .i64 k], .bool true]) w := fun _ => by kernel_rfl
  go_enter Tryz.func29, Tryz.ntmps29
  go_wp2
  go_ret
  exact ⟨rfl, (Below.refl _ _).alloc (Nat.le_refl _) _⟩
theorem need_yes (k : Int) (w : World) : Calls Tryz.prog 30 #[.bool true, .int .i64 k] w fun e w' => e = .returned (.tuple #[]) ∧ w = w' := by
  go_enter Tryz.func30, Tryz.ntmps30
  go_wp2
  go_end0
  exact ⟨rfl, rfl⟩
theorem need_no (k : Int) (w : World) : Calls Tryz.prog 30 #[.bool false, .int .i64 k] w fun e w' => e = .panicked [wrg k] ∧ w = w' := by
  go_enter Tryz.func30, Tryz.ntmps30
  go_wp2
  exact ⟨rfl, rfl, rfl⟩
end Go.Proofs.YtnoflgkjdibblaaGreatDoor.LV
