/-
  Texts put together: RvH, SlO, RvO, OctX, OctS. No statement is proved here.
-/
import Derived.Test.YtnoflgkjdibblaaDoorWa12
import Derived.Test.YtnoflgkjdibblaaDoorWa13
import Derived.Test.YtnoflgkjdibblaaDoorWa14
import Derived.Test.YtnoflgkjdibblaaDoorWa09
import Derived.Test.YtnoflgkjdibblaaDoorWa05
import Derived.Test.YtnoflgkjdibblaaDoorWa08
import Derived.Test.YtnoflgkjdibblaaDoorWa01
import Derived.Test.YtnoflgkjdibblaaDoorWa02
import Derived.RegionTactic
import Derived.ChangeAlike

/-
  The walk of layer 21's first statement (ReserveBytes), over the contracts. No statement is proved here. (Written by genrvh.py.)
-/
namespace Go.Proofs.YtnoflgkjdibblaaDoor.S21
set_option linter.unusedSimpArgs false
set_option linter.unusedVariables false
set_option maxRecDepth 4096
open Go.RowKit S19 S20

/-- '!=' of a counter and itself. -/
theorem run_neq_Cn (x : Cn) (W : World) : (binOp .neq 24 (.agg x.cells) (.agg x.cells)).run Tryd.prog W = .ok (.bool false) W := by
  have h := run_eql_Cn x x W
  rw [run_eql_struct W] at h
  rw [run_neq_struct W]
  revert h
  generalize (Op.equalIn 10000 24 (.agg x.cells) (.agg x.cells)).run Tryd.prog W = r
  intro h
  cases r with
  | ok b w' =>
    simp only [Result.andThen_ok, Result.ok.injEq, Value.bool.injEq, decide_true] at h
    obtain ⟨rfl, rfl⟩ := h
    rfl
  | _ => cases h
theorem drew_below (X : World) (q : Nat) : Below X.heap.size X (X.drewN q) := ⟨rfl, rfl, rfl, Nat.le_refl _, fun _ _ => rfl⟩
theorem same_true {w : World} {A A' : Option Addr} {n c c' : Nat} {xs : List UInt8} (h : Rd w A n c xs) (h' : Rd w A' n c' xs) : ∀ X, Below w.heap.size w X → Calls Tryd.prog 12 #[.slice A n c, .slice A' n c'] X fun e w' => e = .returned (.bool true) ∧ Below w.heap.size w w' :=
  fun X hX => (rsame_any A A' n c n c' xs xs X (h.below hX) (h'.below hX)).mono fun e w' ⟨q1, q, q2⟩ => ⟨by rw [q1, sameB_refl], by rw [q2]; exact hX.trans ((drew_below X q).mono hX.size)⟩
set_option maxHeartbeats 16000000 in
theorem reserveBytes_walk (M : DC) (C : SlC M) (K : RvC M C) (w : World) (hk : K.ok w) (x : Cn) (fx : x.Fit) (A B : Option Addr) (n c m d : Nat) (h b : List UInt8) (hr : Rd w A n c h) (hs : Rd w B m d b) :
    Calls Tryd.prog 3 #[.agg x.cells, .slice A n c, .slice B m d] w fun e w' => e = .returned (.bool true) ∧ Below w.heap.size w w' := by
  obtain ⟨N, hN⟩ : ∃ N, N = w.heap.size := ⟨_, rfl⟩
  have HN := Lib.hid hN
  have n1 := hr.len
  have n2 := hs.len
  obtain ⟨w0, hw0⟩ : ∃ w0, w0 = w.alloc (.cells x.cells 24) := ⟨_, rfl⟩
  have HW := Lib.hid hw0
  have B0 := Lib.hid (show Below N w w0 by rw [hw0, hN]; exact (Below.refl _ _).alloc (Nat.le_refl _) _)
  have X0 := Lib.hid (show Bk w0 N 24 x.cells by rw [hw0]; exact Bk.newAt _ _ _ _ hN.symm)
  have BO := Lib.hid (show ∀ X, Below N w X → K.ok X from fun X hX => K.bel hk (by rw [← hN]; exact hX))
  have GR := Lib.hid (show ∀ X Y, Below N w X → Below X.heap.size X Y → Below N w Y from fun X Y p q => p.trans (q.mono (by rw [hN]; exact p.size)))
  have RH := Lib.hid (show ∀ X, Below N w X → Rd X A n c h ∧ Rd X B m d b from fun X hX => ⟨hr.below (by rw [← hN]; exact hX), hs.below (by rw [← hN]; exact hX)⟩)
  have CW := Lib.hid (show Calls Tryd.prog 7 #[] w0 fun e w' => e = .returned (.bool true) ∧ Below w0.heap.size w0 w' from awake21_any M C K w0 (BO.out _ B0.out))
  by_cases hlong : 500 < n ∨ 500 < m
  · have t0 : (500 : Int) < (n : Int) ∨ ¬ (500 : Int) < (n : Int) ∧ (500 : Int) < (m : Int) := by omega
    clear hr hs fx hN hw0 hk hlong n1 n2
    rcases t0 with t0 | ⟨t0, t1⟩
    · go_enter Tryd.func3, Tryd.ntmps3
      go_upto_region 1 with (fail)
      rw [← HN.out, ← HW.out]
      go_wp2_with (first
        | (go_at_call 7; ((with_reducible refine CW.out.mono ?_); rintro e w1 ⟨rfl, b1⟩; have Q1 := Lib.hid b1; clear b1)))
      go_ret
      have B1 := Lib.hid (GR.out _ _ B0.out Q1.out)
      exact ⟨rfl, by first | exact B1.out | (rw [← HN.out]; exact B1.out)⟩
    · go_enter Tryd.func3, Tryd.ntmps3
      go_upto_region 1 with (fail)
      rw [← HN.out, ← HW.out]
      go_wp2_with (first
        | (go_at_call 7; ((with_reducible refine CW.out.mono ?_); rintro e w1 ⟨rfl, b1⟩; have Q1 := Lib.hid b1; clear b1)))
      go_ret
      have B1 := Lib.hid (GR.out _ _ B0.out Q1.out)
      exact ⟨rfl, by first | exact B1.out | (rw [← HN.out]; exact B1.out)⟩
  have t0 : ¬ (500 : Int) < (n : Int) := by omega
  have t1 : ¬ (500 : Int) < (m : Int) := by omega
  have CB1 := Lib.hid (show ∀ X, Below N w X → Calls Tryd.prog 8 #[.agg x.cells, .slice A n c] X fun e w' => ∃ A' c', e = .returned (.tuple #[.slice A' (x.bytesB h).length c', .int .i64 (x.bytesC h : Int)]) ∧ Rd w' A' (x.bytesB h).length c' (x.bytesB h) ∧ Below X.heap.size X w' from
    fun X hX => (K.bytes X x A n c h (BO.out X hX) fx (RH.out X hX).1).mono fun e w' ⟨A', c', q1, q2, _, q4⟩ => ⟨A', c', q1, q2, q4⟩)
  have CB2 := Lib.hid (show ∀ X, Below N w X → Calls Tryd.prog 9 #[.agg x.cells, .slice A n c] X fun e w' => ∃ A' c', e = .returned (.tuple #[.slice A' (x.bytesB h).length c', .int .i64 (x.bytesC h : Int)]) ∧ Rd w' A' (x.bytesB h).length c' (x.bytesB h) ∧ Below X.heap.size X w' from
    fun X hX => (rbytes21_any x A n c h X fx (RH.out X hX).1 (by omega)).mono fun e w' ⟨A', c', q1, q2, q4⟩ => ⟨A', c', q1, Rd.own q2, q4⟩)
  have CR1 := Lib.hid (show ∀ X, Below N w X → Calls Tryd.prog 10 #[.slice B m d] X fun e w' => ∃ A' c', e = .returned (.tuple #[.agg (Cn.readX b).cells, .slice A' (Cn.readH b).length c', .int .i64 (Cn.readC b : Int)]) ∧ Rd w' A' (Cn.readH b).length c' (Cn.readH b) ∧ Below X.heap.size X w' from
    fun X hX => K.read X B m d b (BO.out X hX) (RH.out X hX).2 (by omega))
  have CR2 := Lib.hid (show ∀ X, Below N w X → Calls Tryd.prog 11 #[.slice B m d] X fun e w' => ∃ A' c', e = .returned (.tuple #[.agg (Cn.readX b).cells, .slice A' (Cn.readH b).length c', .int .i64 (Cn.readC b : Int)]) ∧ Rd w' A' (Cn.readH b).length c' (Cn.readH b) ∧ Below X.heap.size X w' from
    fun X hX => (rread21_any B m d b X (RH.out X hX).2).mono fun e w' ⟨A', c', q1, q2, _, q4⟩ => ⟨A', c', q1, q2, q4⟩)
  -- the two round trips
  have T1 := Lib.hid (show x.bytesC h = 0 ∧ (∀ X A' l c', Below N w X → l = (x.bytesB h).length → Rd X A' l c' (x.bytesB h) → Calls Tryd.prog 10 #[.slice A' l c'] X fun e w' => ∃ A2 c2, e = .returned (.tuple #[.agg (Cn.mk x.tot x.bat x.res x.res x.gone).cells, .slice A2 n c2, .int .i64 0]) ∧ Rd w' A2 n c2 h ∧ Below X.heap.size X w') ∨ x.bytesC h = 1 from by
    by_cases g : x.May h.length
    · refine .inl ⟨if_pos g, fun X A' l c' hX hl hR => ?_⟩
      have e0 : x.bytesB h = x.row h := if_pos g
      rw [e0] at hl hR
      have q := K.read X A' l c' (x.row h) (BO.out X hX) hR (by have := Cn.row_len x h; omega)
      rw [show Cn.readX (x.row h) = Cn.mk x.tot x.bat x.res x.res x.gone by unfold Cn.readX; rw [if_pos (Cn.read_row x h fx g), Cn.ofB_row x h fx], show Cn.readH (x.row h) = h by unfold Cn.readH; rw [if_pos (Cn.read_row x h fx g), Cn.row_f], Cn.read_row x h fx g, n1] at q
      exact q
    · exact .inr (if_neg g))
  have T2 := Lib.hid (show Cn.readC b = 0 ∧ (∀ X A' l c', Below N w X → l = (Cn.readH b).length → Rd X A' l c' (Cn.readH b) → Calls Tryd.prog 8 #[.agg (Cn.readX b).cells, .slice A' l c'] X fun e w' => ∃ A2 c2, e = .returned (.tuple #[.slice A2 m c2, .int .i64 0]) ∧ Rd w' A2 m c2 b ∧ Below X.heap.size X w') ∨ Cn.readC b = 2 ∨ Cn.readC b = 3 from by
    by_cases g : Cn.readC b = 0
    · refine .inl ⟨g, fun X A' l c' hX hl hR => ?_⟩
      have e1 : Cn.readX b = Cn.ofB b := if_pos g
      have e2 : Cn.readH b = b.drop 25 := if_pos g
      rw [e1]
      rw [e2] at hR hl
      have q := K.bytes X (Cn.ofB b) A' l c' (b.drop 25) (BO.out X hX) (Cn.ofB_fit b) hR
      have gm : (Cn.ofB b).May (b.drop 25).length := by
        unfold Cn.readC at g
        split at g
        · omega
        split at g
        · omega
        rename_i h1 h2
        rw [List.length_drop]
        exact Decidable.not_not.1 fun e => h2 (.inr e)
      rw [show (Cn.ofB b).bytesC (b.drop 25) = 0 from if_pos gm, show (Cn.ofB b).bytesB (b.drop 25) = b by rw [show (Cn.ofB b).bytesB (b.drop 25) = (Cn.ofB b).row (b.drop 25) from if_pos gm]; exact Cn.row_ofB g, n2] at q
      exact q.mono fun e w' ⟨A', c', q1, q2, _, q4⟩ => ⟨A', c', q1, q2, q4⟩
    · refine .inr ?_
      unfold Cn.readC at g ⊢
      split
      · exact .inl rfl
      split
      · exact .inr rfl
      · rename_i h1 h2; exact absurd (by rw [if_neg h1, if_neg h2]) g)
  obtain ⟨px, hpx⟩ : ∃ p, p = x.bytesB h := ⟨_, rfl⟩
  obtain ⟨ec, hec⟩ : ∃ p, p = x.bytesC h := ⟨_, rfl⟩
  obtain ⟨ph, hph⟩ : ∃ p, p = Cn.readH b := ⟨_, rfl⟩
  obtain ⟨er, her⟩ : ∃ p, p = Cn.readC b := ⟨_, rfl⟩
  obtain ⟨y, hy⟩ : ∃ y, y = Cn.readX b := ⟨_, rfl⟩
  rw [← hpx, ← hec] at CB1 CB2 T1
  rw [← hph, ← her, ← hy] at CR1 CR2 T2
  obtain ⟨lx, hlx⟩ : ∃ p, p = px.length := ⟨_, rfl⟩
  obtain ⟨lh, hlh⟩ : ∃ p, p = ph.length := ⟨_, rfl⟩
  rw [← hlx] at CB1 CB2 T1
  rw [← hlh] at CR1 CR2 T2
  have EY := Lib.hid (run_neq_Cn y)
  have EU := Lib.hid (run_neq_Cn ⟨x.tot, x.bat, x.res, x.res, x.gone⟩)
  obtain ⟨x0, x1, x2, x3, x4⟩ := x
  obtain ⟨y0, y1, y2, y3, y4⟩ := y
  unfold Cn.cells at *
  simp only at *
  clear hr hs fx hN hw0 hk hpx hec hph her hy hlx hlh hlong n1 n2
  go_enter Tryd.func3, Tryd.ntmps3
  go_upto_region 1 with (fail)
  rw [← HN.out, ← HW.out]
  go_upto_region 3 with (go_at_call 7; ((with_reducible refine CW.out.mono ?_); rintro e w1 ⟨rfl, b1⟩; have Q1 := Lib.hid b1; clear b1))
  have B1 := Lib.hid (GR.out _ _ B0.out Q1.out)
  have X1 := Lib.hid (X0.out.below Q1.out X0.out.lt)
  go_upto_region 5 with (fail)
  have kx0 : w1.cell? ⟨N, 0, none⟩ = some (.int .u64 (x0 : Int)) := X1.out.cell 0
  have kx1 : w1.cell? ⟨N, 1, none⟩ = some (.int .u64 (x1 : Int)) := X1.out.cell 1
  have kx2 : w1.cell? ⟨N, 2, none⟩ = some (.int .u64 (x2 : Int)) := X1.out.cell 2
  have kx3 : w1.cell? ⟨N, 3, none⟩ = some (.int .u64 (x3 : Int)) := X1.out.cell 3
  have kx4 : w1.cell? ⟨N, 4, none⟩ = some (.bool x4) := X1.out.cell 4
  go_upto_region 6 with (go_at_call 8; ((with_reducible refine (CB1.out _ B1.out).mono ?_); rintro e w2 ⟨A2, c2, rfl, r2, b2⟩; have Q2 := Lib.hid b2; have P_2 := Lib.hid r2; clear b2 r2))
  clear kx0 kx1 kx2 kx3 kx4
  have B2 := Lib.hid (GR.out _ _ B1.out Q2.out)
  have X2 := Lib.hid (X1.out.below Q2.out X1.out.lt)
  have kx0 : w2.cell? ⟨N, 0, none⟩ = some (.int .u64 (x0 : Int)) := X2.out.cell 0
  have kx1 : w2.cell? ⟨N, 1, none⟩ = some (.int .u64 (x1 : Int)) := X2.out.cell 1
  have kx2 : w2.cell? ⟨N, 2, none⟩ = some (.int .u64 (x2 : Int)) := X2.out.cell 2
  have kx3 : w2.cell? ⟨N, 3, none⟩ = some (.int .u64 (x3 : Int)) := X2.out.cell 3
  have kx4 : w2.cell? ⟨N, 4, none⟩ = some (.bool x4) := X2.out.cell 4
  go_upto_region 7 with (go_at_call 9; ((with_reducible refine (CB2.out _ B2.out).mono ?_); rintro e w3 ⟨A3, c3, rfl, r3, b3⟩; have Q3 := Lib.hid b3; have S_3 := Lib.hid r3; clear b3 r3))
  clear kx0 kx1 kx2 kx3 kx4
  have B3 := Lib.hid (GR.out _ _ B2.out Q3.out)
  have X3 := Lib.hid (X2.out.below Q3.out X2.out.lt)
  have P_3 := Lib.hid (P_2.out.below Q3.out)
  go_upto_region 8 with (go_at_call 10; ((with_reducible refine (CR1.out _ B3.out).mono ?_); rintro e w4 ⟨A4, c4, rfl, r4, b4⟩; have Q4 := Lib.hid b4; have U_4 := Lib.hid r4; clear b4 r4; obtain ⟨gy, hgy⟩ : ∃ g, g = w4.heap.size := ⟨_, rfl⟩))
  have B4 := Lib.hid (GR.out _ _ B3.out Q4.out)
  have X4 := Lib.hid (X3.out.below Q4.out X3.out.lt)
  have P_4 := Lib.hid (P_3.out.below Q4.out)
  have S_4 := Lib.hid (S_3.out.below Q4.out)
  rw [← hgy]
  have Q5 := Lib.hid (show Below w4.heap.size w4 (w4.alloc (.cells #[.int .u64 (y0 : Int), .int .u64 (y1 : Int), .int .u64 (y2 : Int), .int .u64 (y3 : Int), .bool y4] 24)) from (Below.refl _ _).alloc (Nat.le_refl _) _)
  have Y5 := Lib.hid (show Bk (w4.alloc (.cells #[.int .u64 (y0 : Int), .int .u64 (y1 : Int), .int .u64 (y2 : Int), .int .u64 (y3 : Int), .bool y4] 24)) gy 24 #[.int .u64 (y0 : Int), .int .u64 (y1 : Int), .int .u64 (y2 : Int), .int .u64 (y3 : Int), .bool y4] from Bk.newAt _ _ _ _ hgy.symm)
  clear hgy
  generalize w4.alloc (.cells #[.int .u64 (y0 : Int), .int .u64 (y1 : Int), .int .u64 (y2 : Int), .int .u64 (y3 : Int), .bool y4] 24) = w5 at *
  have B5 := Lib.hid (GR.out _ _ B4.out Q5.out)
  have X5 := Lib.hid (X4.out.below Q5.out X4.out.lt)
  have P_5 := Lib.hid (P_4.out.below Q5.out)
  have S_5 := Lib.hid (S_4.out.below Q5.out)
  have U_5 := Lib.hid (U_4.out.below Q5.out)
  go_upto_region 9 with (go_at_call 11; ((with_reducible refine (CR2.out _ B5.out).mono ?_); rintro e w6 ⟨A6, c6, rfl, r6, b6⟩; have Q6 := Lib.hid b6; have V_6 := Lib.hid r6; clear b6 r6; obtain ⟨gz, hgz⟩ : ∃ g, g = w6.heap.size := ⟨_, rfl⟩))
  have B6 := Lib.hid (GR.out _ _ B5.out Q6.out)
  have X6 := Lib.hid (X5.out.below Q6.out X5.out.lt)
  have Y6 := Lib.hid (Y5.out.below Q6.out Y5.out.lt)
  have P_6 := Lib.hid (P_5.out.below Q6.out)
  have S_6 := Lib.hid (S_5.out.below Q6.out)
  have U_6 := Lib.hid (U_5.out.below Q6.out)
  rw [← hgz]
  have Q7 := Lib.hid (show Below w6.heap.size w6 (w6.alloc (.cells #[.int .u64 (y0 : Int), .int .u64 (y1 : Int), .int .u64 (y2 : Int), .int .u64 (y3 : Int), .bool y4] 24)) from (Below.refl _ _).alloc (Nat.le_refl _) _)
  have Z7 := Lib.hid (show Bk (w6.alloc (.cells #[.int .u64 (y0 : Int), .int .u64 (y1 : Int), .int .u64 (y2 : Int), .int .u64 (y3 : Int), .bool y4] 24)) gz 24 #[.int .u64 (y0 : Int), .int .u64 (y1 : Int), .int .u64 (y2 : Int), .int .u64 (y3 : Int), .bool y4] from Bk.newAt _ _ _ _ hgz.symm)
  clear hgz
  generalize w6.alloc (.cells #[.int .u64 (y0 : Int), .int .u64 (y1 : Int), .int .u64 (y2 : Int), .int .u64 (y3 : Int), .bool y4] 24) = w7 at *
  have B7 := Lib.hid (GR.out _ _ B6.out Q7.out)
  have X7 := Lib.hid (X6.out.below Q7.out X6.out.lt)
  have Y7 := Lib.hid (Y6.out.below Q7.out Y6.out.lt)
  have P_7 := Lib.hid (P_6.out.below Q7.out)
  have S_7 := Lib.hid (S_6.out.below Q7.out)
  have U_7 := Lib.hid (U_6.out.below Q7.out)
  have V_7 := Lib.hid (V_6.out.below Q7.out)
  have C1 := Lib.hid (same_true P_7.out S_7.out)
  have C2 := Lib.hid (same_true U_7.out V_7.out)
  have CU := Lib.hid (show ∀ X, Below w7.heap.size w7 X → X.cell? ⟨gy, 0, none⟩ = some (.int .u64 (y0 : Int)) ∧ X.cell? ⟨gy, 1, none⟩ = some (.int .u64 (y1 : Int)) ∧ X.cell? ⟨gy, 2, none⟩ = some (.int .u64 (y2 : Int)) ∧ X.cell? ⟨gy, 3, none⟩ = some (.int .u64 (y3 : Int)) ∧ X.cell? ⟨gy, 4, none⟩ = some (.bool y4) from fun X hX => by have q := Y7.out.below hX Y7.out.lt; exact ⟨q.cell 0, q.cell 1, q.cell 2, q.cell 3, q.cell 4⟩)
  have CV := Lib.hid (show ∀ X, Below w7.heap.size w7 X → X.cell? ⟨gz, 0, none⟩ = some (.int .u64 (y0 : Int)) ∧ X.cell? ⟨gz, 1, none⟩ = some (.int .u64 (y1 : Int)) ∧ X.cell? ⟨gz, 2, none⟩ = some (.int .u64 (y2 : Int)) ∧ X.cell? ⟨gz, 3, none⟩ = some (.int .u64 (y3 : Int)) ∧ X.cell? ⟨gz, 4, none⟩ = some (.bool y4) from fun X hX => by have q := Z7.out.below hX Z7.out.lt; exact ⟨q.cell 0, q.cell 1, q.cell 2, q.cell 3, q.cell 4⟩)
  go_upto_region 11 with (first
    | (go_at_call 12; ((with_reducible refine (C1.out _ (Below.refl _ _)).mono ?_); rintro e wa ⟨rfl, ba⟩; have Qa := Lib.hid ba; clear ba; obtain ⟨k0, k1, k2, k3, k4⟩ := CU.out _ Qa.out; obtain ⟨j0, j1, j2, j3, j4⟩ := CV.out _ Qa.out; have eq1 := EY.out wa))
    | (go_at_call 12; ((with_reducible refine (C2.out _ Qa.out).mono ?_); rintro e w8 ⟨rfl, b8⟩; have Q8 := Lib.hid b8; clear b8 k0 k1 k2 k3 k4 j0 j1 j2 j3 j4 eq1)))
  clear CU CV Qa
  clear C1 C2
  have B8 := Lib.hid (GR.out _ _ B7.out Q8.out)
  have X8 := Lib.hid (X7.out.below Q8.out X7.out.lt)
  have Y8 := Lib.hid (Y7.out.below Q8.out Y7.out.lt)
  have P_8 := Lib.hid (P_7.out.below Q8.out)
  have U_8 := Lib.hid (U_7.out.below Q8.out)
  rcases T1.out with ⟨rfl, T4⟩ | rfl
  · have T10 := Lib.hid T4
    clear T4
    go_upto_region 13 with (go_at_call 10; ((with_reducible refine (T10.out _ _ _ _ B8.out rfl P_8.out).mono ?_); rintro e w9 ⟨A9, c9, rfl, r9, b9⟩; have Q9 := Lib.hid b9; have J_9 := Lib.hid r9; clear b9 r9; obtain ⟨gu, hgu⟩ : ∃ g, g = w9.heap.size := ⟨_, rfl⟩))
    have B9 := Lib.hid (GR.out _ _ B8.out Q9.out)
    have X9 := Lib.hid (X8.out.below Q9.out X8.out.lt)
    have Y9 := Lib.hid (Y8.out.below Q9.out Y8.out.lt)
    have U_9 := Lib.hid (U_8.out.below Q9.out)
    rw [← hgu]
    have Q10 := Lib.hid (show Below w9.heap.size w9 (w9.alloc (.cells #[.int .u64 (x0 : Int), .int .u64 (x1 : Int), .int .u64 (x2 : Int), .int .u64 (x2 : Int), .bool x4] 24)) from (Below.refl _ _).alloc (Nat.le_refl _) _)
    have W10 := Lib.hid (show Bk (w9.alloc (.cells #[.int .u64 (x0 : Int), .int .u64 (x1 : Int), .int .u64 (x2 : Int), .int .u64 (x2 : Int), .bool x4] 24)) gu 24 #[.int .u64 (x0 : Int), .int .u64 (x1 : Int), .int .u64 (x2 : Int), .int .u64 (x2 : Int), .bool x4] from Bk.newAt _ _ _ _ hgu.symm)
    clear hgu
    generalize w9.alloc (.cells #[.int .u64 (x0 : Int), .int .u64 (x1 : Int), .int .u64 (x2 : Int), .int .u64 (x2 : Int), .bool x4] 24) = w10 at *
    have B10 := Lib.hid (GR.out _ _ B9.out Q10.out)
    have X10 := Lib.hid (X9.out.below Q10.out X9.out.lt)
    have Y10 := Lib.hid (Y9.out.below Q10.out Y9.out.lt)
    have U_10 := Lib.hid (U_9.out.below Q10.out)
    have J_10 := Lib.hid (J_9.out.below Q10.out)
    have kx0 : w10.cell? ⟨N, 0, none⟩ = some (.int .u64 (x0 : Int)) := X10.out.cell 0
    have kx1 : w10.cell? ⟨N, 1, none⟩ = some (.int .u64 (x1 : Int)) := X10.out.cell 1
    have kx2 : w10.cell? ⟨N, 2, none⟩ = some (.int .u64 (x2 : Int)) := X10.out.cell 2
    have kx3 : w10.cell? ⟨N, 3, none⟩ = some (.int .u64 (x3 : Int)) := X10.out.cell 3
    have kx4 : w10.cell? ⟨N, 4, none⟩ = some (.bool x4) := X10.out.cell 4
    obtain ⟨go, hgo⟩ : ∃ g, g = w10.heap.size := ⟨_, rfl⟩
    go_upto_region 14 with (fail)
    clear kx0 kx1 kx2 kx3 kx4
    have LO := Lib.hid (Nat.le_of_eq hgo.symm)
    have nN := X10.out.lt
    have nY := Y10.out.lt
    have nU := W10.out.lt
    rw [← hgo] at nN nY nU
    rw [← hgo]
    have Q11 := Lib.hid (show Below w10.heap.size w10 (w10.alloc (.cells #[.int .u64 (x0 : Int), .int .u64 (x1 : Int), .int .u64 (x2 : Int), .int .u64 (x3 : Int), .bool x4] 24)) from (Below.refl _ _).alloc (Nat.le_refl _) _)
    have O11 := Lib.hid (show Bk (w10.alloc (.cells #[.int .u64 (x0 : Int), .int .u64 (x1 : Int), .int .u64 (x2 : Int), .int .u64 (x3 : Int), .bool x4] 24)) go 24 #[.int .u64 (x0 : Int), .int .u64 (x1 : Int), .int .u64 (x2 : Int), .int .u64 (x3 : Int), .bool x4] from Bk.newAt _ _ _ _ hgo.symm)
    clear hgo
    generalize w10.alloc (.cells #[.int .u64 (x0 : Int), .int .u64 (x1 : Int), .int .u64 (x2 : Int), .int .u64 (x3 : Int), .bool x4] 24) = w11 at *
    have B11 := Lib.hid (GR.out _ _ B10.out Q11.out)
    have X11 := Lib.hid (X10.out.below Q11.out X10.out.lt)
    have Y11 := Lib.hid (Y10.out.below Q11.out Y10.out.lt)
    have W11 := Lib.hid (W10.out.below Q11.out W10.out.lt)
    have U_11 := Lib.hid (U_10.out.below Q11.out)
    have J_11 := Lib.hid (J_10.out.below Q11.out)
    have kx0 : w11.cell? ⟨N, 0, none⟩ = some (.int .u64 (x0 : Int)) := X11.out.cell 0
    have kx1 : w11.cell? ⟨N, 1, none⟩ = some (.int .u64 (x1 : Int)) := X11.out.cell 1
    have kx2 : w11.cell? ⟨N, 2, none⟩ = some (.int .u64 (x2 : Int)) := X11.out.cell 2
    have kx3 : w11.cell? ⟨N, 3, none⟩ = some (.int .u64 (x3 : Int)) := X11.out.cell 3
    have kx4 : w11.cell? ⟨N, 4, none⟩ = some (.bool x4) := X11.out.cell 4
    have o3 : w11.cell? ⟨go, 3, none⟩ = some (.int .u64 (x3 : Int)) := O11.out.cell 3
    have f3 := O11.out.frozen 3
    go_upto_region 15 with (fail)
    clear kx0 kx1 kx2 kx3 kx4
    clear o3 f3
    have O12 := Lib.hid (show Bk (w11.setCell ⟨go, 3, none⟩ (.int .u64 (x2 : Int))) go 24 #[.int .u64 (x0 : Int), .int .u64 (x1 : Int), .int .u64 (x2 : Int), .int .u64 (x2 : Int), .bool x4] from O11.out.put 3 (.int .u64 (x2 : Int)))
    have Y12 := Lib.hid (Y11.out.far (p := ⟨go, 3, none⟩) (show gy ≠ go by omega) (.int .u64 (x2 : Int)))
    have W12 := Lib.hid (W11.out.far (p := ⟨go, 3, none⟩) (show gu ≠ go by omega) (.int .u64 (x2 : Int)))
    have QO := Lib.hid (show Below w10.heap.size w10 (w11.setCell ⟨go, 3, none⟩ (.int .u64 (x2 : Int))) from Q11.out.setCell (p := ⟨go, 3, none⟩) (show w10.heap.size ≤ go from LO.out) (.int .u64 (x2 : Int)))
    clear nN nY nU
    generalize w11.setCell ⟨go, 3, none⟩ (.int .u64 (x2 : Int)) = w12 at *
    have B12 := Lib.hid (GR.out _ _ B10.out QO.out)
    have U_12 := Lib.hid (U_10.out.below QO.out)
    have J_12 := Lib.hid (J_10.out.below QO.out)
    have C3 := Lib.hid (same_true J_12.out (RH.out _ B12.out).1)
    have ku0 : w12.cell? ⟨gu, 0, none⟩ = some (.int .u64 (x0 : Int)) := W12.out.cell 0
    have ku1 : w12.cell? ⟨gu, 1, none⟩ = some (.int .u64 (x1 : Int)) := W12.out.cell 1
    have ku2 : w12.cell? ⟨gu, 2, none⟩ = some (.int .u64 (x2 : Int)) := W12.out.cell 2
    have ku3 : w12.cell? ⟨gu, 3, none⟩ = some (.int .u64 (x2 : Int)) := W12.out.cell 3
    have ku4 : w12.cell? ⟨gu, 4, none⟩ = some (.bool x4) := W12.out.cell 4
    have ko0 : w12.cell? ⟨go, 0, none⟩ = some (.int .u64 (x0 : Int)) := O12.out.cell 0
    have ko1 : w12.cell? ⟨go, 1, none⟩ = some (.int .u64 (x1 : Int)) := O12.out.cell 1
    have ko2 : w12.cell? ⟨go, 2, none⟩ = some (.int .u64 (x2 : Int)) := O12.out.cell 2
    have ko3 : w12.cell? ⟨go, 3, none⟩ = some (.int .u64 (x2 : Int)) := O12.out.cell 3
    have ko4 : w12.cell? ⟨go, 4, none⟩ = some (.bool x4) := O12.out.cell 4
    have eq1 := EU.out w12
    go_upto_region 17 with (go_at_call 12; ((with_reducible refine (C3.out _ (Below.refl _ _)).mono ?_); rintro e w13 ⟨rfl, b13⟩; have Q13 := Lib.hid b13; clear b13))
    clear ku0 ku1 ku2 ku3 ku4
    clear ko0 ko1 ko2 ko3 ko4
    clear eq1
    clear C3
    have B13 := Lib.hid (GR.out _ _ B12.out Q13.out)
    have Y13 := Lib.hid (Y12.out.below Q13.out Y12.out.lt)
    have U_13 := Lib.hid (U_12.out.below Q13.out)
    rcases T2.out with ⟨rfl, T3⟩ | rfl | rfl
    · have T20 := Lib.hid T3
      clear T3
      have ky0 : w13.cell? ⟨gy, 0, none⟩ = some (.int .u64 (y0 : Int)) := Y13.out.cell 0
      have ky1 : w13.cell? ⟨gy, 1, none⟩ = some (.int .u64 (y1 : Int)) := Y13.out.cell 1
      have ky2 : w13.cell? ⟨gy, 2, none⟩ = some (.int .u64 (y2 : Int)) := Y13.out.cell 2
      have ky3 : w13.cell? ⟨gy, 3, none⟩ = some (.int .u64 (y3 : Int)) := Y13.out.cell 3
      have ky4 : w13.cell? ⟨gy, 4, none⟩ = some (.bool y4) := Y13.out.cell 4
      go_upto_region 20 with (go_at_call 8; ((with_reducible refine (T20.out _ _ _ _ B13.out rfl U_13.out).mono ?_); rintro e w14 ⟨A14, c14, rfl, r14, b14⟩; have Q14 := Lib.hid b14; have W_14 := Lib.hid r14; clear b14 r14))
      clear ky0 ky1 ky2 ky3 ky4
      have B14 := Lib.hid (GR.out _ _ B13.out Q14.out)
      have CE := Lib.hid (same_true W_14.out (RH.out _ B14.out).2)
      have GE := Lib.hid (show ∀ X, Below w14.heap.size w14 X → Below N w X from fun X hX => GR.out _ _ B14.out hX)
      go_wp2_with (first
        | (go_at_call 12; ((with_reducible refine (CE.out _ (by first | exact Below.refl _ _ | exact (Below.refl _ _).drew)).mono ?_); rintro e w15 ⟨rfl, b15⟩; have QE := Lib.hid b15; clear b15)))
      go_ret
      exact ⟨rfl, by first | exact GE.out _ QE.out | (rw [← HN.out]; exact GE.out _ QE.out)⟩
    · go_wp2
      go_ret
      exact ⟨rfl, by first | exact B13.out | (rw [← HN.out]; exact B13.out)⟩
    · go_wp2
      go_ret
      exact ⟨rfl, by first | exact B13.out | (rw [← HN.out]; exact B13.out)⟩
  · rcases T2.out with ⟨rfl, T3⟩ | rfl | rfl
    · have T20 := Lib.hid T3
      clear T3
      have ky0 : w8.cell? ⟨gy, 0, none⟩ = some (.int .u64 (y0 : Int)) := Y8.out.cell 0
      have ky1 : w8.cell? ⟨gy, 1, none⟩ = some (.int .u64 (y1 : Int)) := Y8.out.cell 1
      have ky2 : w8.cell? ⟨gy, 2, none⟩ = some (.int .u64 (y2 : Int)) := Y8.out.cell 2
      have ky3 : w8.cell? ⟨gy, 3, none⟩ = some (.int .u64 (y3 : Int)) := Y8.out.cell 3
      have ky4 : w8.cell? ⟨gy, 4, none⟩ = some (.bool y4) := Y8.out.cell 4
      go_upto_region 20 with (go_at_call 8; ((with_reducible refine (T20.out _ _ _ _ B8.out rfl U_8.out).mono ?_); rintro e w9 ⟨A9, c9, rfl, r9, b9⟩; have Q9 := Lib.hid b9; have W_9 := Lib.hid r9; clear b9 r9))
      clear ky0 ky1 ky2 ky3 ky4
      have B9 := Lib.hid (GR.out _ _ B8.out Q9.out)
      have CE := Lib.hid (same_true W_9.out (RH.out _ B9.out).2)
      have GE := Lib.hid (show ∀ X, Below w9.heap.size w9 X → Below N w X from fun X hX => GR.out _ _ B9.out hX)
      go_wp2_with (first
        | (go_at_call 12; ((with_reducible refine (CE.out _ (by first | exact Below.refl _ _ | exact (Below.refl _ _).drew)).mono ?_); rintro e w10 ⟨rfl, b10⟩; have QE := Lib.hid b10; clear b10)))
      go_ret
      exact ⟨rfl, by first | exact GE.out _ QE.out | (rw [← HN.out]; exact GE.out _ QE.out)⟩
    · go_wp2
      go_ret
      exact ⟨rfl, by first | exact B8.out | (rw [← HN.out]; exact B8.out)⟩
    · go_wp2
      go_ret
      exact ⟨rfl, by first | exact B8.out | (rw [← HN.out]; exact B8.out)⟩
end Go.Proofs.YtnoflgkjdibblaaDoor.S21

/-
  How the steps of layer 20's statements read, which came in. No statement is proved here.
-/
namespace Go.Proofs.YtnoflgkjdibblaaDoor.S20
set_option linter.unusedSimpArgs false
set_option linter.unusedVariables false
set_option maxRecDepth 4096
open Go.ChangeShapes Go.WideShapes Go.ChangeAt Go.RowKit Go.Joins S19

/-- A step, as it came in. -/
structure AcW where
  kd : Int
  ii : Int
  ba : Option Addr
  bn : Nat
  bc : Nat
  b : List UInt8
  ca : Option Addr
  cn : Nat
  cc : Nat
  ch : List UInt8
  fa : Option Addr
  fn : Nat
  fc : Nat
  fs : List Int
  st : Int
instance : Inhabited AcW := ⟨⟨0, 0, none, 0, 0, [], none, 0, 0, [], none, 0, 0, [], 0⟩⟩
def AcW.cells (a : AcW) : List Value := [.int .i64 a.kd, .int .i64 a.ii, .slice a.ba a.bn a.bc, .slice a.ca a.cn a.cc, .slice a.fa a.fn a.fc, .int .i64 a.st]
structure AcW.Ok (W : World) (a : AcW) : Prop where
  b : Rd W a.ba a.bn a.bc a.b
  ch : Rd W a.ca a.cn a.cc a.ch
  fs : RI W .i64 a.fa a.fn a.fc a.fs
  hi : -9223372036854775808 ≤ a.ii ∧ a.ii < 9223372036854775808
/-- A row of steps. -/
structure RW (W : World) (A : Option Addr) (n c : Nat) (xs : List AcW) : Prop where
  len : xs.length = n
  cap : n ≤ c
  max : c ≤ maxLen
  nil : A = none → c = 0
  at_ : 0 < n → ∃ b off, A = some ⟨b, off, none⟩ ∧ b < W.heap.size ∧ ∀ j, j < n → (xs.getD j default).Ok W ∧ ∀ q, q < 6 → W.cell? ⟨b, off + j * 6 + q, none⟩ = (xs.getD j default).cells[q]?
theorem trod_struct5' {H : Type} {enc : TypeId × Value → H} {P : Program} {w : World} {base : Nat} {spare : Nat → Bool} {held : Bool} {t : TypeId} {f0 f1 f2 f3 f4 : Field} {fuel : Nat} {cs : List Value} {x : DataW H × List MemPlace} (ht : P.underlying t = some (.struct #[f0, f1, f2, f3, f4])) (h : DataW.trod enc P w base spare held fuel t cs = some x) :
    ∃ y0 y1 y2 y3 y4 n, cs.length = P.cellsOf t ∧ DataW.trod enc P w base spare held n f0.type ((cs.drop f0.offset).take (P.cellsOf f0.type)) = some y0 ∧
      DataW.trod enc P w base spare held n f1.type ((cs.drop f1.offset).take (P.cellsOf f1.type)) = some y1 ∧ DataW.trod enc P w base spare held n f2.type ((cs.drop f2.offset).take (P.cellsOf f2.type)) = some y2 ∧
      DataW.trod enc P w base spare held n f3.type ((cs.drop f3.offset).take (P.cellsOf f3.type)) = some y3 ∧ DataW.trod enc P w base spare held n f4.type ((cs.drop f4.offset).take (P.cellsOf f4.type)) = some y4 := by
  obtain ⟨xs, n, _, rfl, hl, hlen, hf⟩ := DataW.trod_struct ht h
  match xs, hlen with
  | [y0, y1, y2, y3, y4], _ => exact ⟨y0, y1, y2, y3, y4, n, hl, by simpa using hf 0 f0 rfl, by simpa using hf 1 f1 rfl, by simpa using hf 2 f2 rfl, by simpa using hf 3 f3 rfl, by simpa using hf 4 f4 rfl⟩
end Go.Proofs.YtnoflgkjdibblaaDoor.S20

/-
  How the arguments of layer 21's statements read, which came in: a counter, two rows. No statement is proved here.
-/
namespace Go.Proofs.YtnoflgkjdibblaaDoor.S21
set_option linter.unusedSimpArgs false
set_option linter.unusedVariables false
set_option maxRecDepth 4096
open Go.ChangeShapes Go.WideShapes Go.ChangeAt Go.RowKit Go.Joins S19 S20

theorem bounds_u64' {n : Int} (h : (Lit.int .u64 n).wf = true) : 0 ≤ n ∧ n ≤ 18446744073709551615 := by
  simpa [Lit.wf, IntKind.min, IntKind.max, IntKind.signed, IntKind.bits] using h
theorem u64_of_trod {H : Type} {enc : TypeId × Value → H} {W : World} {n : Nat} {c : Value} {y : DataW H × List MemPlace} (h : DataW.trod enc Tryd.prog W 0 (fun _ => true) true n 22 [c] = some y) : ∃ k : Nat, c = .int .u64 (k : Int) ∧ k < 18446744073709551616 := by
  obtain ⟨a, e, _, wa⟩ := DataW.trod_int Tryd.underlying22 h
  simp at e
  subst e
  have := bounds_u64' wa
  exact ⟨a.toNat, by congr 1; omega, by omega⟩
theorem cn_of_trod {H : Type} {enc : TypeId × Value → H} {W : World} {n : Nat} {cs : List Value} {y : DataW H × List MemPlace} (h : DataW.trod enc Tryd.prog W 0 (fun _ => true) true n 24 cs = some y) : ∃ x : Cn, cs = x.cells.toList ∧ x.Fit := by
  obtain ⟨y0, y1, y2, y3, y4, m, hl, h0, h1, h2, h3, h4⟩ := trod_struct5' Tryd.underlying24 h
  have e5 : Tryd.prog.cellsOf 24 = 5 := by kernel_rfl
  have eu : Tryd.prog.cellsOf 22 = 1 := by kernel_rfl
  have eb : Tryd.prog.cellsOf 4 = 1 := by kernel_rfl
  rw [e5] at hl
  match cs, hl with
  | [c0, c1, c2, c3, c4], _ =>
    have k0 : DataW.trod enc Tryd.prog W 0 (fun _ => true) true m 22 [c0] = some y0 := by simpa [eu] using h0
    have k1 : DataW.trod enc Tryd.prog W 0 (fun _ => true) true m 22 [c1] = some y1 := by simpa [eu] using h1
    have k2 : DataW.trod enc Tryd.prog W 0 (fun _ => true) true m 22 [c2] = some y2 := by simpa [eu] using h2
    have k3 : DataW.trod enc Tryd.prog W 0 (fun _ => true) true m 22 [c3] = some y3 := by simpa [eu] using h3
    have k4 : DataW.trod enc Tryd.prog W 0 (fun _ => true) true m 4 [c4] = some y4 := by simpa [eb] using h4
    obtain ⟨v0, rfl, l0⟩ := u64_of_trod k0
    obtain ⟨v1, rfl, l1⟩ := u64_of_trod k1
    obtain ⟨v2, rfl, l2⟩ := u64_of_trod k2
    obtain ⟨v3, rfl, l3⟩ := u64_of_trod k3
    obtain ⟨v4, e4, _⟩ := DataW.trod_bool Tryd.underlying4 k4
    simp at e4
    subst e4
    exact ⟨⟨v0, v1, v2, v3, v4⟩, rfl, l0, l1, l2, l3⟩
/-- A counter that came in. -/
theorem open_cn {H : Type} {enc : TypeId × Value → H} {W : World} {v : Value} {d : DataW H} {p : List MemPlace} {base : Nat}
    (hv : Value.okWide Tryd.prog W .any base 24 v) (h : DataW.Trod enc Tryd.prog W 0 (fun _ => true) true 24 v d p) : ∃ x : Cn, v = .agg x.cells ∧ x.Fit := by
  obtain ⟨cs, rfl, hs⟩ := okWide_struct Tryd.underlying24 hv
  obtain ⟨fuel, hf⟩ := h
  obtain ⟨x, e, fx⟩ := cn_of_trod hf
  have hcs : ((Value.agg cs).cells).toList = cs.toList := rfl
  rw [hcs] at e
  exact ⟨x, by rw [Array.toList_inj.1 e], fx⟩
/-- Two rows that came in. -/
theorem open_two {H : Type} {enc : TypeId × Value → H} {W : World} {v : Value} {d : DataW H} {p : List MemPlace} {base : Nat}
    (hv : Value.okWide Tryd.prog W .any base 54 v) (h : DataW.Trod enc Tryd.prog W 0 (fun _ => true) true 54 v d p) :
    ∃ y : (Option Addr × Nat × Nat × List UInt8) × (Option Addr × Nat × Nat × List UInt8), v = .agg #[.slice y.1.1 y.1.2.1 y.1.2.2.1, .slice y.2.1 y.2.2.1 y.2.2.2.1] ∧ Rd W y.1.1 y.1.2.1 y.1.2.2.1 y.1.2.2.2 ∧ Rd W y.2.1 y.2.2.1 y.2.2.2.1 y.2.2.2.2 := by
  obtain ⟨cs, rfl, hs⟩ := okWide_array Tryd.underlying54 hv
  obtain ⟨fuel, hf⟩ := h
  obtain ⟨xs, m, _, _, hl, hxl, hall⟩ := DataW.trod_array Tryd.underlying54 hf
  have hcs : ((Value.agg cs).cells).toList = cs.toList := rfl
  rw [hcs] at hl hall
  have e1 : Tryd.prog.cellsOf 25 = 1 := by kernel_rfl
  have e2 : Tryd.prog.cellsOf 54 = 2 := by kernel_rfl
  rw [e2] at hl
  obtain ⟨l, hl2⟩ : ∃ l, l = cs.toList := ⟨_, rfl⟩
  rw [← hl2] at hl hall
  match l, hl with
  | [c0, c1], _ =>
    have h0 := hall 0 (by omega)
    have h1 := hall 1 (by omega)
    rw [e1] at h0 h1
    rw [List.getElem?_eq_getElem (by omega)] at h0 h1
    obtain ⟨v0, rfl, r0⟩ := row_of_trod (by simpa using h0)
    obtain ⟨v1, rfl, r1⟩ := row_of_trod (by simpa using h1)
    exact ⟨(v0, v1), by rw [show cs = #[.slice v0.1 v0.2.1 v0.2.2.1, .slice v1.1 v1.2.1 v1.2.2.1] from Array.toList_inj.1 hl2.symm], r0, r1⟩
end Go.Proofs.YtnoflgkjdibblaaDoor.S21

/-
  What the calls of package octet do: Fill and Xor.
-/
namespace Go.Proofs.YtnoflgkjdibblaaDoor
set_option linter.unusedSimpArgs false
set_option linter.unusedVariables false
set_option maxRecDepth 1024
open Go.RowKit

theorem fill_step (b : UInt8) (k n : Nat) (h : k < n) : (bv (List.replicate k b ++ List.replicate (n - k) 0)).set k (.int .u8 (b.toNat : Int)) = bv (List.replicate (k + 1) b ++ List.replicate (n - (k + 1)) 0) := by
  obtain ⟨m, hm⟩ : ∃ m, n - k = m + 1 := ⟨n - k - 1, by omega⟩
  have hm' : n - (k + 1) = m := by omega
  rw [bv_set, hm, hm', List.set_append_right _ _ (by simp), List.replicate_succ' (n := k), List.append_assoc]
  simp [List.replicate_succ]

theorem fill_any (b : UInt8) (n : Nat) (w : World) (hn : n ≤ 65536) :
    Calls Tryd.prog 40 #[.int .u8 (b.toNat : Int), .int .i64 (n : Int)] w (New w.heap.size w (List.replicate n b)) := by
  obtain ⟨i0, hi, hz0, hz1, hz2⟩ := info_parts Tryd.infoU8
  go_enter Tryd.func40, Tryd.ntmps40
  go_wp2_with (at_make; refine wpList_make_full _ rfl _ _ 25 rfl w.heap.size 5 i0 (.int .u8 0) 1 Tryd.underlying25 hi hz0 hz1 _ _ _ _ n rfl rfl rfl rfl ?b2 ?b3 (Nat.le_refl _) ?_)
  case b2 => rw [hz2]; omega
  case b3 => unfold maxLen; omega
  intro w0 hown0 hgrow0
  rw [bv_zero] at hown0
  have hb0 : Below w.heap.size w w0 := (Below.refl _ _).grown hgrow0 (Nat.le_refl _) (fun k h => by cases h)
  clear hgrow0
  go_wp2
  go_loopw [17] (fun i wr => ∃ k : Nat, k ≤ n ∧ i = .int .i64 (k : Int) ∧
      wr.ownsRow w.heap.size 5 1 (.slice (some ⟨w.heap.size, 0, none⟩) n n) n (bv (List.replicate k b ++ List.replicate (n - k) 0)) ∧ Below w.heap.size w wr)
    (fun i _ => n - (intOf i).toNat)
  case atStart => exact ⟨0, Nat.zero_le _, rfl, by simpa using hown0, hb0⟩
  case round =>
    obtain ⟨k, hk, rfl, hown, hbel⟩ := hrel
    by_cases hlt : k < n
    · have hc := hown.cellAt k (by omega)
      have hf := hown.frozenAt k
      have hs := hown.stored k
      rw [bv_at _ _ (by simp; omega)] at hc
      go_wp2
      go_roundw
      case rel =>
        exact ⟨k + 1, by omega, by go_num, by rw [← fill_step b k n hlt]; exact (hs _).1, hbel.setCell (Nat.le_refl _) _⟩
      case measure => simp [intOf]; omega
    · obtain rfl : k = n := by omega
      go_wp2
      go_ret
      exact ⟨_, _, _, rfl, by simpa using hown, hbel⟩

theorem fill_none (b n : Int) (w : World) (hn : n < 0 ∨ 65536 < n) :
    Calls Tryd.prog 40 #[.int .u8 b, .int .i64 n] w fun e w' => e = .returned (.slice none 0 0) ∧ w = w' := by
  rcases hn with hn | hn
  · go_enter Tryd.func40, Tryd.ntmps40
    go_wp2
    go_ret
    exact ⟨rfl, rfl⟩
  · have h0 : ¬ n < 0 := by omega
    go_enter Tryd.func40, Tryd.ntmps40
    go_wp2
    go_ret
    exact ⟨rfl, rfl⟩

/-- 'string(b)' of bytes that read. -/
def xorL (xs ys : List UInt8) : List UInt8 := List.zipWith (· ^^^ ·) xs ys
theorem xorL_length (xs ys : List UInt8) : (xorL xs ys).length = min xs.length ys.length := by simp [xorL]

theorem xor_step (xs ys : List UInt8) (k n n' m : Nat) (hx : xs.length = n) (hy : ys.length = n') (hm : m = min n n') (hk : k < m) :
    (bv ((xorL xs ys).take k ++ List.replicate (m - k) 0)).set k (.int .u8 (bits .xor .u8 ((xs[k]?.getD 0).toNat : Int) ((ys[k]?.getD 0).toNat : Int))) = bv ((xorL xs ys).take (k + 1) ++ List.replicate (m - (k + 1)) 0) := by
  have hl := xorL_length xs ys
  have h1 : k < xs.length := by omega
  have h2 : k < ys.length := by omega
  have hv : bits .xor .u8 ((xs[k]?.getD 0).toNat : Int) ((ys[k]?.getD 0).toNat : Int) = (((xs[k] ^^^ ys[k] : UInt8)).toNat : Int) := by
    simp only [List.getElem?_eq_getElem h1, List.getElem?_eq_getElem h2, Option.getD_some]
    rw [u8_xor_nat _ _ (UInt8.toNat_lt _) (UInt8.toNat_lt _), UInt8.toNat_xor]
  have h3 : k < (xorL xs ys).length := by omega
  obtain ⟨q, hq⟩ : ∃ q, m - k = q + 1 := ⟨m - k - 1, by omega⟩
  have hq' : m - (k + 1) = q := by omega
  rw [hv, bv_set, hq, hq', List.set_append_right _ _ (by simp; omega), List.take_succ_eq_append_getElem h3, List.append_assoc]
  have e : k - ((xorL xs ys).take k).length = 0 := by rw [List.length_take]; omega
  rw [e, List.replicate_succ, List.set_cons_zero]
  simp [xorL]

end Go.Proofs.YtnoflgkjdibblaaDoor

/-
  What the landed octet.Same does. No statement is proved here.
-/
namespace Go.Proofs.YtnoflgkjdibblaaDoor
set_option linter.unusedSimpArgs false
set_option linter.unusedVariables false
set_option maxRecDepth 1024
open Go.RowKit

/-- 'string(b)' of bytes that read. -/
theorem Rd.convert {w : World} {A : Option Addr} {n c : Nat} {xs : List UInt8} (h : Rd w A n c xs) :
    (convert 25 9 (.slice A n c)).run Tryd.prog w = .ok (.string ⟨xs.toArray⟩) w := by
  rcases Nat.eq_zero_or_pos n with hn | hn
  · subst hn
    obtain rfl : xs = [] := List.eq_nil_of_length_eq_zero h.len
    rw [run_convert_bytes_string w 25 9 5 _ 0 c Tryd.underlying25 Tryd.underlying5 Tryd.underlying9]
    cases A <;> simp [Conv.bytesToString, loadCells]
    all_goals rfl
  · obtain ⟨b, o, rfl, _, hc⟩ := h.at_ hn
    have e := run_convert_bytes_arg (P := Tryd.prog) w 25 5 Tryd.underlying25 Tryd.underlying5 b o n c (xs.map fun x => (x.toNat : Int)) (by simp [h.len])
      (fun i hi => by
        have hl : i < xs.length := by have := h.len; omega
        rw [hc i hi]; simp [List.getD, hl]) 9 Tryd.underlying9
    rw [e]
    have : strOfNums (xs.map fun x => (x.toNat : Int)) = ⟨xs.toArray⟩ := by
      simp [strOfNums, Function.comp_def]
    rw [this]

theorem equal_any (A A' : Option Addr) (n c n' c' : Nat) (xs ys : List UInt8) (w : World) (h : Rd w A n c xs) (h' : Rd w A' n' c' ys) :
    Calls Tryd.prog 44 #[.slice A n c, .slice A' n' c'] w fun e w' => e = .returned (.bool (sameB xs ys)) ∧ w = w' := by
  have c1 := h.convert
  have c2 := h'.convert
  go_enter Tryd.func44, Tryd.ntmps44
  go_wp2
  go_ret
  exact ⟨rfl, rfl⟩

theorem same_any (A A' : Option Addr) (n c n' c' : Nat) (xs ys : List UInt8) (w : World) (h : Rd w A n c xs) (h' : Rd w A' n' c' ys) :
    Calls Tryd.prog 28 #[.slice A n c, .slice A' n' c'] w fun e w' => e = .returned (.bool (sameB xs ys)) ∧ w = w' := by
  go_enter Tryd.func28, Tryd.ntmps28
  go_wp2_with (go_at_call 44; refine (equal_any A A' n c n' c' xs ys _ h h').mono ?_; rintro e w' ⟨rfl, rfl⟩)
  go_ret
  exact ⟨rfl, rfl⟩
end Go.Proofs.YtnoflgkjdibblaaDoor
