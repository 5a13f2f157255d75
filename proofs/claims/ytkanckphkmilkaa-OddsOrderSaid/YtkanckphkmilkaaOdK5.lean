/-
  What the function that the landed odds.Clamp hands over does. No statement is proved here. (Written by genodk5.py.)
-/
import Derived.Test.YtkanckphkmilkaaOdK4
namespace Go.Proofs.Ytkanckphkmilkaa.F
set_option linter.unusedSimpArgs false
set_option linter.unusedVariables false
set_option maxRecDepth 8192
open Go.RowKit

theorem kind_num {a : Nat} (h : isN a = false) : ((kindW a : Int) != 5) = true := by
  have : kindW a ≠ 5 := fun e => by rw [kind_nan.1 e] at h; cases h
  simp; omega
/-- What the function that Clamp hands over ends by. -/
def ClampEnd (x l h : Nat) (e : Ending) : Prop := if clampB x l h = true then e = .returned (.float .f64 (if okey x < okey l then l else if okey h < okey x then h else x)) else e = .panicked [LV.wrg 1]
theorem clampEnd_bad {x l h : Nat} (hc : clampB x l h = false) : ClampEnd x l h (.panicked [LV.wrg 1]) := by unfold ClampEnd; rw [hc]; rfl
set_option maxHeartbeats 4000000 in
theorem clamp1_any {gx gl gh x l h : Nat} (X : World) (hx : Bk X gx 22 #[.float .f64 x]) (hl : Bk X gl 22 #[.float .f64 l]) (hh : Bk X gh 22 #[.float .f64 h]) :
    Calls Try.prog 31 #[.pointer (some ⟨gx, 0, none⟩), .pointer (some ⟨gl, 0, none⟩), .pointer (some ⟨gh, 0, none⟩)] X fun e w' => ClampEnd x l h e ∧ Below X.heap.size X w' := by
  have cx := cell_of_one hx
  have cl := cell_of_one hl
  have ch := cell_of_one hh
  have tx := hx.lt
  have tl := hl.lt
  have th := hh.lt
  clear hx hl hh
  have HY := Lib.hid (fun W => LV.need_yes 1 W)
  have HN := Lib.hid (fun W => LV.need_no 1 W)
  go_enter Try.func31, Try.ntmps31
  go_wp2
  go_loopw [10] (fun v10 wr => ∃ i : Nat, i ≤ 3 ∧ v10 = .int .i64 (i : Int) ∧ Below X.heap.size X wr ∧ Hid (∀ j, j < i → isN ([x, l, h].getD j 0) = false)) (fun v10 _ => 3 - (intOf v10).toNat)
  case atStart => exact ⟨0, by omega, rfl, Below.refl _ _, Lib.hid (fun j hj => absurd hj (by omega))⟩
  case round =>
    obtain ⟨i, hi, rfl, hbel, hall⟩ := hrel
    obtain ⟨wo, rfl⟩ : ∃ wo : World, wo = wr := ⟨_, rfl⟩
    by_cases hlt : i < 3
    · obtain ⟨y, hy⟩ : ∃ y, y = [x, l, h].getD i 0 := ⟨_, rfl⟩
      have hix : ∀ W, (Instr.index 45 (.agg #[.float .f64 x, .float .f64 l, .float .f64 h]) (.int .i64 (i : Int))).run Try.prog W = .ok (.float .f64 y) W := fun W => by
        rw [hy]
        rcases (show i = 0 ∨ i = 1 ∨ i = 2 by omega) with rfl | rfl | rfl <;> kernel_rfl
      have HK := Lib.hid (fun W => kind_any y W)
      have HB := Lib.hid hbel
      cases hn : isN y with
      | true =>
        rw [show kindW y = 5 from kind_nan.2 hn] at HK
        have HC := Lib.hid (clampEnd_bad (show clampB x l h = false by
          rw [hy] at hn
          unfold clampB
          rcases (show i = 0 ∨ i = 1 ∨ i = 2 by omega) with rfl | rfl | rfl
          · rw [show isN x = true from hn]; rfl
          · rw [show isN l = true from hn]; simp
          · rw [show isN h = true from hn]; simp))
        clear hn hall cx cl ch tx tl th hy
        go_wp2_with (first
          | (go_at_call 12; ((with_reducible refine (HK.out _).mono ?_); rintro e w1 ⟨rfl, b1⟩; have B1 := Lib.hid (HB.out.trans (b1.mono HB.out.size)); clear b1))
          | (go_at_call 32; ((with_reducible refine (HN.out _).mono ?_); rintro e w2 ⟨rfl, rfl⟩)))
        exact ⟨rfl, HC.out, B1.out⟩
      | false =>
        have hk := kind_num hn
        have HA := Lib.hid (show ∀ j, j < i + 1 → isN ([x, l, h].getD j 0) = false from fun j hj => by
          rcases Nat.lt_or_ge j i with q | q
          · exact hall.out j q
          · obtain rfl : j = i := by omega
            rw [← hy]; exact hn)
        generalize kindW y = k at HK hk
        clear hn hall cx cl ch tx tl th hy
        go_wp2_with (first
          | (go_at_call 12; ((with_reducible refine (HK.out _).mono ?_); rintro e w1 ⟨rfl, b1⟩; have B1 := Lib.hid (HB.out.trans (b1.mono HB.out.size)); clear b1))
          | (go_at_call 32; ((with_reducible refine (HY.out _).mono ?_); rintro e w2 ⟨rfl, rfl⟩)))
        go_roundw
        case rel => exact ⟨i + 1, by omega, by go_num, B1.out, HA⟩
        case measure => simp [intOf]; omega
    · obtain rfl : i = 3 := by omega
      have hnx : isN x = false := hall.out 0 (by omega)
      have hnl : isN l = false := hall.out 1 (by omega)
      have hnh : isN h = false := hall.out 2 (by omega)
      have dx := (hbel.cell (p := ⟨gx, 0, none⟩) tx).trans cx
      have dl := (hbel.cell (p := ⟨gl, 0, none⟩) tl).trans cl
      have dh := (hbel.cell (p := ⟨gh, 0, none⟩) th).trans ch
      have HB := Lib.hid hbel
      have HC := Lib.hid (fun W => compare_any l h W)
      have HW := Lib.hid (fun W => within_any x l h W)
      obtain ⟨c, hc⟩ : ∃ c, c = cmpW l h := ⟨_, rfl⟩
      rw [← hc] at HC
      by_cases hlh : c ≤ 0
      · have hcb : clampB x l h = true := by
          unfold clampB
          rw [hnx, hnl, hnh, decide_eq_true (cmpW_le.1 (by omega))]; rfl
        have HE := Lib.hid (fun r (hr : r = if okey x < okey l then l else if okey h < okey x then h else x) => show ClampEnd x l h (.returned (.float .f64 r)) by unfold ClampEnd; rw [hcb, if_pos rfl, hr])
        obtain ⟨r, hr⟩ : ∃ r, r = if okey x < okey l then l else if okey h < okey x then h else x := ⟨_, rfl⟩
        have HE1 := Lib.hid (HE.out r hr)
        rw [← hr] at HW
        have q1 : decide (c ≤ 0) = true := decide_eq_true hlh
        clear HE hr hcb hnx hnl hnh hall hc hbel
        go_wp2_with (first
          | (go_at_call 14; ((with_reducible refine (HC.out _).mono ?_); rintro e w1 ⟨rfl, b1⟩; have B1 := Lib.hid (HB.out.trans (b1.mono HB.out.size)); have ex := (B1.out.cell (p := ⟨gx, 0, none⟩) tx).trans cx; have el := (B1.out.cell (p := ⟨gl, 0, none⟩) tl).trans cl; have eh := (B1.out.cell (p := ⟨gh, 0, none⟩) th).trans ch; clear b1))
          | (go_at_call 32; ((with_reducible refine (HY.out _).mono ?_); rintro e w2 ⟨rfl, rfl⟩))
          | (go_at_call 33; ((with_reducible refine (HW.out _).mono ?_); rintro e w3 ⟨rfl, b3⟩; have B3 := Lib.hid (B1.out.trans (b3.mono B1.out.size)); clear b3)))
        go_ret
        exact ⟨HE1.out, B3.out⟩
      · have hcb : clampB x l h = false := by
          unfold clampB
          rw [hnx, hnl, hnh, decide_eq_false (fun e => hlh (by have := cmpW_le.2 e; omega))]; rfl
        have HE1 := Lib.hid (clampEnd_bad hcb)
        have q1 : decide (c ≤ 0) = false := decide_eq_false hlh
        clear hcb hnx hnl hnh hall hc hbel HW
        go_wp2_with (first
          | (go_at_call 14; ((with_reducible refine (HC.out _).mono ?_); rintro e w1 ⟨rfl, b1⟩; have B1 := Lib.hid (HB.out.trans (b1.mono HB.out.size)); clear b1))
          | (go_at_call 32; ((with_reducible refine (HN.out _).mono ?_); rintro e w2 ⟨rfl, rfl⟩)))
        exact ⟨rfl, HE1.out, B1.out⟩
end Go.Proofs.Ytkanckphkmilkaa.F
