/-
  Texts put together: Xm6. No statement is proved here.
-/
import Derived.Test.YtncinobgcfkmnaaGreatDoorWo22

/-
  The landed package xmss: an address, where a leaf and its way lead. No statement is proved here.
-/
namespace Go.Proofs.YtncinobgcfkmnaaGreatDoor.S16
set_option linter.unusedSimpArgs false
set_option linter.unusedVariables false
set_option maxRecDepth 1024
open Go.RowKit S15

set_option maxHeartbeats 1000000 in
theorem sumPlace_any (ly tr g i : Nat) (hg : g < 2147483648) (w : World) :
    Calls Tryz.prog 56 #[.int .u32 (ly : Int), .int .u64 (tr : Int), .int .i64 (g : Int), .int .u32 (i : Int)] w fun e w' => e = .returned (adV (adT ly tr g i)) ∧ Below w.heap.size w w' := by
  have HR := Lib.hid (Bk.new w 76 #[.int .u32 0, .int .u64 0, .int .u32 0, .int .u32 0, .int .u32 0, .int .u32 0])
  have HB := Lib.hid (show Below w.heap.size w (w.alloc (.cells #[.int .u32 0, .int .u64 0, .int .u32 0, .int .u32 0, .int .u32 0, .int .u32 0] 76)) from (Below.refl _ _).alloc (Nat.le_refl _) _)
  have ei : (g : Int) % 4294967296 = (g : Int) := by omega
  unfold adV
  go_enter Tryz.func56, Tryz.ntmps56
  go_upto_region 1 with (fail)
  obtain ⟨W, hW⟩ : ∃ W, w.alloc (.cells #[.int .u32 0, .int .u64 0, .int .u32 0, .int .u32 0, .int .u32 0, .int .u32 0] 76) = W := ⟨_, rfl⟩
  rw [hW] at HR HB ⊢
  have d0 := HR.out.cell 0
  have d1 := HR.out.cell 1
  have d2 := HR.out.cell 2
  have d3 := HR.out.cell 3
  have d4 := HR.out.cell 4
  have d5 := HR.out.cell 5
  have e0 := HR.out.frozen 0
  have e1 := HR.out.frozen 1
  have e2 := HR.out.frozen 2
  have e3 := HR.out.frozen 3
  have e4 := HR.out.frozen 4
  have e5 := HR.out.frozen 5
  simp at d0 d1 d2 d3 d4 d5
  clear hW
  go_wp2
  refine bodyPost_ret (results_cell_row rfl _ _ w.heap.size 76 #[.int .u32 (ly : Int), .int .u64 (tr : Int), .int .u32 2, .int .u32 0, .int .u32 (g : Int), .int .u32 (i : Int)] (0, 0) _ rfl ((((((HR.out.put 0 _).put 1 _).put 2 _).put 3 _).put 4 _).put 5 _) Tryz.underlying76 rfl Tryz.infoAd) rfl ?_
  exact ⟨rfl, (((((HB.out.setCell (by simp) _).setCell (by simp) _).setCell (by simp) _).setCell (by simp) _).setCell (by simp) _).setCell (by simp) _⟩
abbrev plA (ly tr q : Nat) : Array Value := #[.int .u32 (ly : Int), .int .u64 (tr : Int), .int .u32 (q : Int)]
theorem climb_take (sd : List UInt8) (ly tr : Nat) : ∀ (k g i : Nat) (x l : List UInt8), climbF sd ly tr g k i x (l.take (32 * k)) = climbF sd ly tr g k i x l
  | 0, g, i, x, l => rfl
  | k + 1, g, i, x, l => by
    simp only [climbF]
    rw [List.take_take, show min 32 (32 * (k + 1)) = 32 by omega, List.drop_take, show 32 * (k + 1) - 32 = 32 * k by omega, climb_take sd ly tr k]
set_option maxHeartbeats 2000000 in
theorem climb_any (ly tr q h : Nat) (hly : ly < 4294967296) (htr : tr < 18446744073709551616) (hq : q < 4294967296) (hh : h ≤ 60) (Ae : Option Addr) (ce : Nat) (sd : List UInt8) (Ax : Option Addr) (cx : Nat) (xs : List UInt8) (Aw : Option Addr) (cw : Nat) (way : List UInt8) (w : World) (hk : GK w) (he : Rd w Ae 32 ce sd) (hx : Rd w Ax 32 cx xs) (hw : Rd w Aw (32 * h) cw way) :
    Calls Tryz.prog 45 #[.agg (plA ly tr q), .slice Ae 32 ce, .slice Ax 32 cx, .slice Aw (32 * h : Nat) cw] w (Gives32 w (climbF sd ly tr 0 h q xs way)) := by
  have HK := Lib.hid hk
  have HE := Lib.hid he
  have HX := Lib.hid hx
  have HW := Lib.hid hw
  obtain ⟨R, hR⟩ : ∃ R, climbF sd ly tr 0 h q xs way = R := ⟨_, rfl⟩
  have HR := Lib.hid hR
  rw [hR]
  clear hk he hx hw hR
  obtain ⟨N, hN⟩ : ∃ N : Nat, N = 32 * h := ⟨_, rfl⟩
  have HN := Lib.hid hN
  rw [← hN] at HW ⊢
  clear hN
  obtain ⟨b, hb⟩ : ∃ b, b = w.heap.size := ⟨_, rfl⟩
  obtain ⟨w0, hw0⟩ : ∃ w0, w.alloc (.cells (plA ly tr q) 52) = w0 := ⟨_, rfl⟩
  have P0 := Lib.hid (show Bk w0 b 52 (plA ly tr q) by rw [← hw0, hb]; exact Bk.new _ _ _)
  have B0 := Lib.hid (show Below w.heap.size w w0 by rw [← hw0]; exact (Below.refl _ _).alloc (Nat.le_refl _) _)
  have k2 : w0.cell? ⟨b, 2, none⟩ = some (.int .u32 (q : Int)) := P0.out.cell 2
  go_enter Tryz.func45, Tryz.ntmps45
  go_upto_region 1 with (fail)
  rw [← hb]
  clear hw0 hb
  (go_region_held3 (fun X => X.cell? ⟨b, 2, none⟩ = some (.int .u32 (q : Int))) (exact k2) (fail))
  go_wp2
  clear k2
  go_loopw [3, 9, 10, 11] (fun way sum i g wr => ∃ (j : Nat) (A : Option Addr) (c : Nat) (A' : Option Addr) (c' : Nat) (y r : List UInt8), j ≤ h ∧ g = .int .i64 (j : Int) ∧ i = .int .u32 ((q / 2 ^ j : Nat) : Int) ∧ sum = .slice A 32 c ∧ way = .slice A' (32 * (h - j) : Nat) c' ∧ Rd wr A 32 c y ∧ Rd wr A' (32 * (h - j)) c' r ∧ climbF sd ly tr j (h - j) (q / 2 ^ j) y r = R ∧ Below w0.heap.size w0 wr)
    (fun _ _ _ g _ => h - (intOf g).toNat)
  case atStart =>
    exact ⟨0, Ax, cx, Aw, cw, xs, way, Nat.zero_le _, rfl, by simp, rfl, by rw [HN.out]; rfl, (HX.out.below B0.out).drew, by rw [Nat.sub_zero, ← HN.out]; exact (HW.out.below B0.out).drew, by simpa using HR.out, (Below.refl _ _).drew⟩
  case round =>
    obtain ⟨j, A, c, A', c', y, r, hj, rfl, rfl, rfl, rfl, r1, r2, hc, hbel⟩ := hrel
    have hq2 : q / 2 ^ j ≤ q := Nat.div_le_self _ _
    obtain ⟨i, hi⟩ : ∃ i : Nat, i = q / 2 ^ j := ⟨_, rfl⟩
    have hq3 : q / 2 ^ (j + 1) = i / 2 := by rw [Nat.pow_succ, ← Nat.div_div_eq_div_mul, hi]
    have HQ := Lib.hid hq3
    rw [← hi] at hq2 hc ⊢
    have RA := Lib.hid r1
    have RW := Lib.hid r2
    have BL := Lib.hid hbel
    have HC := Lib.hid hc
    have BW := Lib.hid (B0.out.trans (hbel.mono B0.out.size))
    have PJ := Lib.hid (P0.out.below hbel P0.out.lt)
    have i32 : i < 4294967296 := by omega
    clear r1 r2 hbel hc hi hq3 hq2
    by_cases hlt : j < h
    · obtain ⟨M, hM⟩ : ∃ M : Nat, M = 32 * (h - j) := ⟨_, rfl⟩
      have HM2 := Lib.hid (show M - 32 = 32 * (h - (j + 1)) by omega)
      have hM0 : 32 ≤ M := by omega
      have t0 : (0 : Int) < (M : Int) := by omega
      rw [← hM] at RW ⊢
      have HS := Lib.hid (show climbF sd ly tr (j + 1) (h - (j + 1)) (i / 2) (joinT sd ly tr j i y (r.take 32)) (r.drop 32) = R by
        have := HC.out
        rw [show h - j = (h - (j + 1)) + 1 by omega] at this
        exact this)
      have hcap := RW.out.cap
      have hmax := RW.out.max
      have c32 : 32 ≤ c' := by omega
      obtain ⟨A2, hA2⟩ : ∃ A2, A2 = if c' = 32 then A' else A'.map (·.add 32) := ⟨_, rfl⟩
      have TK := Lib.hid (show ∀ X, Calls Tryz.prog 42 #[.slice A' M c', .int .i64 32] X fun e w' => e = .returned (.tuple #[.slice A' 32 c', .slice A2 (M - 32) (c' - 32)]) ∧ Below X.heap.size X w' from fun X => by rw [hA2]; exact take_any A' M c' 32 hM0 hcap hmax X)
      have D1 := Lib.hid (show ∀ X, Below wr.heap.size wr X → Rd X A2 (M - 32) (c' - 32) (r.drop 32) from fun X hX => by rw [hA2]; exact (RW.out.below hX).cut hM0)
      have T1 := Lib.hid (show ∀ X, Below wr.heap.size wr X → Rd X A' 32 c' (r.take 32) from fun X hX => (RW.out.below hX).take hM0)
      have Y1 := Lib.hid (show ∀ X, Below wr.heap.size wr X → Rd X A 32 c y from fun X hX => RA.out.below hX)
      have E1 := Lib.hid (show ∀ X, Below wr.heap.size wr X → GK X ∧ Rd X Ae 32 ce sd from fun X hX => ⟨HK.out.bel (BW.out.trans (hX.mono BW.out.size)), HE.out.below (BW.out.trans (hX.mono BW.out.size))⟩)
      have e2 : ((i / 2 : Nat) : Int) = (i : Int) / 2 := by omega
      have SP := Lib.hid (show ∀ X, Calls Tryz.prog 56 #[.int .u32 (ly : Int), .int .u64 (tr : Int), .int .i64 (j : Int), .int .u32 ((i : Int) / 2)] X fun e w' => e = .returned (adV (adT ly tr j (i / 2))) ∧ Below X.heap.size X w' from fun X => by rw [← e2]; exact sumPlace_any ly tr j (i / 2) (by omega) X)
      have hOk : (adT ly tr j (i / 2)).Ok := ⟨hly, htr, by show 2 < _; omega, by show 0 < _; omega, by show j < _; omega, by show i / 2 < _; omega⟩
      have HV := Lib.hid (show ∀ X, Below wr.heap.size wr X → Calls Tryz.prog 55 #[.slice Ae 32 ce, adV (adT ly tr j (i / 2)), .slice A 32 c, .slice A' 32 c'] X (New X.heap.size X (hL sd (adT ly tr j (i / 2)) y (r.take 32))) from fun X hX => h_any _ hOk Ae ce sd A c y A' c' _ X (E1.out X hX).1 (E1.out X hX).2 (Y1.out X hX) (T1.out X hX))
      have HO := Lib.hid (show ∀ X, Below wr.heap.size wr X → Calls Tryz.prog 55 #[.slice Ae 32 ce, adV (adT ly tr j (i / 2)), .slice A' 32 c', .slice A 32 c] X (New X.heap.size X (hL sd (adT ly tr j (i / 2)) (r.take 32) y)) from fun X hX => h_any _ hOk Ae ce sd A' c' _ A c y X (E1.out X hX).1 (E1.out X hX).2 (T1.out X hX) (Y1.out X hX))
      have p0 : wr.cell? ⟨b, 0, none⟩ = some (.int .u32 (ly : Int)) := PJ.out.cell 0
      have p1 : wr.cell? ⟨b, 1, none⟩ = some (.int .u64 (tr : Int)) := PJ.out.cell 1
      clear hA2 hM e2 hOk hcap hmax
      by_cases po : i % 2 = 1
      · have e1 : joinT sd ly tr j i y (r.take 32) = hL sd (adT ly tr j (i / 2)) (r.take 32) y := by rw [joinT, if_pos po]
        rw [e1] at HS
        have t1 : ((i : Int) % 2 == 1) = true := by simp; omega
        clear e1 po
        go_wp2_with (first
          | (go_at_call 42; ((with_reducible refine (TK.out _).mono ?_); rintro e w1 ⟨rfl, b1⟩; have B1 := Lib.hid b1; have P1 := PJ.out.below b1 PJ.out.lt; have p2 := P1.cell 0; have p3 := P1.cell 1; simp only [List.getElem?_toArray, List.getElem?_cons_zero, List.getElem?_cons_succ] at p2 p3; clear b1 P1))
          | (go_at_call 56; ((with_reducible refine (SP.out _).mono ?_); rintro e w2 ⟨rfl, b2⟩; have B2 := Lib.hid (B1.out.trans (b2.mono B1.out.size)); clear b2))
          | (go_at_call 55; ((with_reducible refine (HO.out _ B2.out).mono ?_); rintro e w3 ⟨A3, n3, c3, rfl, q3, b3⟩; obtain rfl : n3 = 32 := (own_len q3).symm.trans (num_len _ _ _); have R3 := Lib.hid (Rd.own q3); have B3 := Lib.hid (B2.out.trans (b3.mono B2.out.size)); clear q3 b3)))
        go_roundw
        case rel => exact ⟨j + 1, A3, c3, A2, c' - 32, _, r.drop 32, by omega, by go_num, by rw [HQ.out]; simp, rfl, by rw [HM2.out], R3.out, by have := D1.out _ B3.out; rw [HM2.out] at this; exact this, by rw [HQ.out]; exact HS.out, BL.out.trans (B3.out.mono BL.out.size)⟩
        case measure => simp [intOf]; omega
      · have e1 : joinT sd ly tr j i y (r.take 32) = hL sd (adT ly tr j (i / 2)) y (r.take 32) := by rw [joinT, if_neg po]
        rw [e1] at HS
        have t1 : ((i : Int) % 2 == 1) = false := by simp; omega
        clear e1 po
        go_wp2_with (first
          | (go_at_call 42; ((with_reducible refine (TK.out _).mono ?_); rintro e w1 ⟨rfl, b1⟩; have B1 := Lib.hid b1; have P1 := PJ.out.below b1 PJ.out.lt; have p2 := P1.cell 0; have p3 := P1.cell 1; simp only [List.getElem?_toArray, List.getElem?_cons_zero, List.getElem?_cons_succ] at p2 p3; clear b1 P1))
          | (go_at_call 56; ((with_reducible refine (SP.out _).mono ?_); rintro e w2 ⟨rfl, b2⟩; have B2 := Lib.hid (B1.out.trans (b2.mono B1.out.size)); clear b2))
          | (go_at_call 55; ((with_reducible refine (HV.out _ B2.out).mono ?_); rintro e w3 ⟨A3, n3, c3, rfl, q3, b3⟩; obtain rfl : n3 = 32 := (own_len q3).symm.trans (num_len _ _ _); have R3 := Lib.hid (Rd.own q3); have B3 := Lib.hid (B2.out.trans (b3.mono B2.out.size)); clear q3 b3)))
        go_roundw
        case rel => exact ⟨j + 1, A3, c3, A2, c' - 32, _, r.drop 32, by omega, by go_num, by rw [HQ.out]; simp, rfl, by rw [HM2.out], R3.out, by have := D1.out _ B3.out; rw [HM2.out] at this; exact this, by rw [HQ.out]; exact HS.out, BL.out.trans (B3.out.mono BL.out.size)⟩
        case measure => simp [intOf]; omega
    · obtain rfl : j = h := by omega
      have t0 : ¬ (0 : Int) < ((32 * (j - j) : Nat) : Int) := by omega
      have hy : y = R := by
        have := HC.out
        rw [Nat.sub_self] at this
        exact this
      subst hy
      go_wp2
      go_ret
      exact ⟨A, c, rfl, RA.out, BW.out⟩
end Go.Proofs.YtncinobgcfkmnaaGreatDoor.S16
