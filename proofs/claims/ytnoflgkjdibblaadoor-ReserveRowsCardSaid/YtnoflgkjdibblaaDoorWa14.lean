/-
  Texts put together: Rv8. No statement is proved here.
-/
import Derived.Test.YtnoflgkjdibblaaDoorWa12
import Derived.Test.YtnoflgkjdibblaaDoorWa06

/-
  The walk of layer 21's sixth statement (ReserveRows), over the contracts. No statement is proved here. (Written by genrv8.py.)
-/
namespace Go.Proofs.YtnoflgkjdibblaaDoor.S21
set_option linter.unusedSimpArgs false
set_option linter.unusedVariables false
set_option maxRecDepth 4096
open Go.RowKit S19 S20

theorem sameB_iff {xs ys : List UInt8} {p : Prop} [Decidable p] (h : xs = ys ↔ p) : sameB xs ys = decide p := by
  unfold sameB
  rw [Bool.eq_iff_iff]
  simp [h]
set_option maxHeartbeats 8000000 in
theorem reserveRows_walk (M : DC) (C : SlC M) (K : RvC M C) (AW : ∀ w, K.ok w → Calls Tryd.prog 7 #[] w fun e w' => e = .returned (.bool true) ∧ Below w.heap.size w w')
    (w : World) (hk : K.ok w) (x y : Cn) (fx : x.Fit) (fy : y.Fit) (A B : Option Addr) (n c m d : Nat) (h k : List UInt8) (hr : Rd w A n c h) (hs : Rd w B m d k) :
    Calls Tryd.prog 6 #[.agg x.cells, .agg y.cells, .agg #[.slice A n c, .slice B m d]] w fun e w' => e = .returned (.bool true) ∧ Below w.heap.size w w' := by
  obtain ⟨N, hN⟩ : ∃ N, N = w.heap.size := ⟨_, rfl⟩
  have HN := Lib.hid hN
  have n1 := hr.len
  have n2 := hs.len
  have HR := Lib.hid hr
  have HS := Lib.hid hs
  have FX := Lib.hid fx
  have FY := Lib.hid fy
  obtain ⟨w0, hw0⟩ : ∃ w0, w0 = ((w.alloc (.cells x.cells 24)).alloc (.cells y.cells 24)).alloc (.cells #[.slice A n c, .slice B m d] 54) := ⟨_, rfl⟩
  have HW := Lib.hid hw0
  have B0 := Lib.hid (show Below N w w0 by rw [hw0, hN]; exact (((Below.refl _ _).alloc (Nat.le_refl _) _).alloc (by simp) _).alloc (by simp; omega) _)
  have X0 := Lib.hid (show Bk w0 N 24 x.cells by rw [hw0]; exact ((Bk.newAt _ _ _ _ hN.symm).alloc _).alloc _)
  have Y0 := Lib.hid (show Bk w0 (N + 1) 24 y.cells by rw [hw0]; exact (Bk.newAt _ _ _ _ (by simp [hN])).alloc _)
  have Z0 := Lib.hid (show Bk w0 (N + 2) 54 #[.slice A n c, .slice B m d] by rw [hw0]; exact Bk.newAt _ _ _ _ (by simp [hN]))
  have BO := Lib.hid (show ∀ X, Below N w X → K.ok X from fun X hX => K.bel hk (by rw [← hN]; exact hX))
  have GR := Lib.hid (show ∀ X Y, Below N w X → Below X.heap.size X Y → Below N w Y from fun X Y p q => p.trans (q.mono (by rw [hN]; exact p.size)))
  have RH := Lib.hid (show ∀ X, Below N w X → Rd X A n c h ∧ Rd X B m d k from fun X hX => ⟨hr.below (by rw [← hN]; exact hX), hs.below (by rw [← hN]; exact hX)⟩)
  have CW := Lib.hid (show Calls Tryd.prog 7 #[] w0 fun e w' => e = .returned (.bool true) ∧ Below w0.heap.size w0 w' from AW w0 (BO.out _ B0.out))
  have CB1 := Lib.hid (show ∀ X, Below N w X → Calls Tryd.prog 8 #[.agg x.cells, .slice A n c] X fun e w' => ∃ A' c', e = .returned (.tuple #[.slice A' (x.bytesB h).length c', .int .i64 (x.bytesC h : Int)]) ∧ Rd w' A' (x.bytesB h).length c' (x.bytesB h) ∧ Below X.heap.size X w' from
    fun X hX => (K.bytes X x A n c h (BO.out X hX) fx (RH.out X hX).1).mono fun e w' ⟨A', c', q1, q2, _, q4⟩ => ⟨A', c', q1, q2, q4⟩)
  have CB2 := Lib.hid (show ∀ X, Below N w X → Calls Tryd.prog 8 #[.agg y.cells, .slice B m d] X fun e w' => ∃ A' c', e = .returned (.tuple #[.slice A' (y.bytesB k).length c', .int .i64 (y.bytesC k : Int)]) ∧ Rd w' A' (y.bytesB k).length c' (y.bytesB k) ∧ Below X.heap.size X w' from
    fun X hX => (K.bytes X y B m d k (BO.out X hX) fy (RH.out X hX).2).mono fun e w' ⟨A', c', q1, q2, _, q4⟩ => ⟨A', c', q1, q2, q4⟩)
  obtain ⟨px, hpx⟩ : ∃ p, p = x.bytesB h := ⟨_, rfl⟩
  obtain ⟨py, hpy⟩ : ∃ p, p = y.bytesB k := ⟨_, rfl⟩
  rw [← hpx] at CB1
  rw [← hpy] at CB2
  obtain ⟨lx, hlx⟩ : ∃ p, p = px.length := ⟨_, rfl⟩
  obtain ⟨ly, hly⟩ : ∃ p, p = py.length := ⟨_, rfl⟩
  rw [← hlx] at CB1
  rw [← hly] at CB2
  have PX := Lib.hid hpx
  have PY := Lib.hid hpy
  have LX := Lib.hid hlx
  have LY := Lib.hid hly
  have NH := Lib.hid n1
  have NK := Lib.hid n2
  obtain ⟨x0, x1, x2, x3, x4⟩ := x
  obtain ⟨y0, y1, y2, y3, y4⟩ := y
  unfold Cn.cells at *
  simp only at *
  clear hr hs fx fy hN hw0 hk AW hpx hpy hlx hly n1 n2
  by_cases g1 : (⟨x0, x1, x2, x3, x4⟩ : Cn).May h.length
  rotate_left
  · rw [show Cn.bytesC ⟨x0, x1, x2, x3, x4⟩ h = 1 from if_neg g1] at CB1
    obtain ⟨ec, hec⟩ : ∃ e, e = Cn.bytesC ⟨y0, y1, y2, y3, y4⟩ k := ⟨_, rfl⟩
    rw [← hec] at CB2
    clear hec
    go_enter Tryd.func6, Tryd.ntmps6
    go_upto_region 1 with (fail)
    rw [← HN.out, ← HW.out]
    go_upto_region 3 with (go_at_call 7; ((with_reducible refine CW.out.mono ?_); rintro e w1 ⟨rfl, b1⟩; have Q1 := Lib.hid b1; clear b1))
    have B1 := Lib.hid (GR.out _ _ B0.out Q1.out)
    have X1 := Lib.hid (X0.out.below Q1.out X0.out.lt)
    have Y1 := Lib.hid (Y0.out.below Q1.out Y0.out.lt)
    have Z1 := Lib.hid (Z0.out.below Q1.out Z0.out.lt)
    have kx0 : w1.cell? ⟨N, 0, none⟩ = some (.int .u64 (x0 : Int)) := X1.out.cell 0
    have kx1 : w1.cell? ⟨N, 1, none⟩ = some (.int .u64 (x1 : Int)) := X1.out.cell 1
    have kx2 : w1.cell? ⟨N, 2, none⟩ = some (.int .u64 (x2 : Int)) := X1.out.cell 2
    have kx3 : w1.cell? ⟨N, 3, none⟩ = some (.int .u64 (x3 : Int)) := X1.out.cell 3
    have kx4 : w1.cell? ⟨N, 4, none⟩ = some (.bool x4) := X1.out.cell 4
    have ky0 : w1.cell? ⟨N + 1, 0, none⟩ = some (.int .u64 (y0 : Int)) := Y1.out.cell 0
    have ky1 : w1.cell? ⟨N + 1, 1, none⟩ = some (.int .u64 (y1 : Int)) := Y1.out.cell 1
    have ky2 : w1.cell? ⟨N + 1, 2, none⟩ = some (.int .u64 (y2 : Int)) := Y1.out.cell 2
    have ky3 : w1.cell? ⟨N + 1, 3, none⟩ = some (.int .u64 (y3 : Int)) := Y1.out.cell 3
    have ky4 : w1.cell? ⟨N + 1, 4, none⟩ = some (.bool y4) := Y1.out.cell 4
    have kz0 : w1.cell? ⟨N + 2, 0, none⟩ = some (.slice A n c) := Z1.out.cell 0
    have kz1 : w1.cell? ⟨N + 2, 1, none⟩ = some (.slice B m d) := Z1.out.cell 1
    go_upto_region 4 with (go_at_call 8; ((with_reducible refine (CB1.out _ B1.out).mono ?_); rintro e w2 ⟨A2, c2, rfl, r2, b2⟩; have Q2 := Lib.hid b2; have R2 := Lib.hid r2; clear b2 r2))
    clear kx0 kx1 kx2 kx3 kx4 ky0 ky1 ky2 ky3 ky4 kz0 kz1
    have B2 := Lib.hid (GR.out _ _ B1.out Q2.out)
    have X2 := Lib.hid (X1.out.below Q2.out X1.out.lt)
    have Y2 := Lib.hid (Y1.out.below Q2.out Y1.out.lt)
    have Z2 := Lib.hid (Z1.out.below Q2.out Z1.out.lt)
    have kx0 : w2.cell? ⟨N, 0, none⟩ = some (.int .u64 (x0 : Int)) := X2.out.cell 0
    have kx1 : w2.cell? ⟨N, 1, none⟩ = some (.int .u64 (x1 : Int)) := X2.out.cell 1
    have kx2 : w2.cell? ⟨N, 2, none⟩ = some (.int .u64 (x2 : Int)) := X2.out.cell 2
    have kx3 : w2.cell? ⟨N, 3, none⟩ = some (.int .u64 (x3 : Int)) := X2.out.cell 3
    have kx4 : w2.cell? ⟨N, 4, none⟩ = some (.bool x4) := X2.out.cell 4
    have ky0 : w2.cell? ⟨N + 1, 0, none⟩ = some (.int .u64 (y0 : Int)) := Y2.out.cell 0
    have ky1 : w2.cell? ⟨N + 1, 1, none⟩ = some (.int .u64 (y1 : Int)) := Y2.out.cell 1
    have ky2 : w2.cell? ⟨N + 1, 2, none⟩ = some (.int .u64 (y2 : Int)) := Y2.out.cell 2
    have ky3 : w2.cell? ⟨N + 1, 3, none⟩ = some (.int .u64 (y3 : Int)) := Y2.out.cell 3
    have ky4 : w2.cell? ⟨N + 1, 4, none⟩ = some (.bool y4) := Y2.out.cell 4
    have kz0 : w2.cell? ⟨N + 2, 0, none⟩ = some (.slice A n c) := Z2.out.cell 0
    have kz1 : w2.cell? ⟨N + 2, 1, none⟩ = some (.slice B m d) := Z2.out.cell 1
    go_upto_region 5 with (go_at_call 8; ((with_reducible refine (CB2.out _ B2.out).mono ?_); rintro e w3 ⟨A3, c3, rfl, r3, b3⟩; have Q3 := Lib.hid b3; have R3 := Lib.hid r3; clear b3 r3))
    clear kx0 kx1 kx2 kx3 kx4 ky0 ky1 ky2 ky3 ky4 kz0 kz1
    have B3 := Lib.hid (GR.out _ _ B2.out Q3.out)
    have R23 := Lib.hid (R2.out.below Q3.out)
    have X3 := Lib.hid (X2.out.below Q3.out X2.out.lt)
    have Y3 := Lib.hid (Y2.out.below Q3.out Y2.out.lt)
    have Z3 := Lib.hid (Z2.out.below Q3.out Z2.out.lt)
    go_wp2
    go_ret
    exact ⟨rfl, by first | exact B3.out | (rw [← HN.out]; exact B3.out)⟩
  rw [show Cn.bytesC ⟨x0, x1, x2, x3, x4⟩ h = 0 from if_pos g1] at CB1
  by_cases g2 : (⟨y0, y1, y2, y3, y4⟩ : Cn).May k.length
  rotate_left
  · rw [show Cn.bytesC ⟨y0, y1, y2, y3, y4⟩ k = 1 from if_neg g2] at CB2
    go_enter Tryd.func6, Tryd.ntmps6
    go_upto_region 1 with (fail)
    rw [← HN.out, ← HW.out]
    go_upto_region 3 with (go_at_call 7; ((with_reducible refine CW.out.mono ?_); rintro e w1 ⟨rfl, b1⟩; have Q1 := Lib.hid b1; clear b1))
    have B1 := Lib.hid (GR.out _ _ B0.out Q1.out)
    have X1 := Lib.hid (X0.out.below Q1.out X0.out.lt)
    have Y1 := Lib.hid (Y0.out.below Q1.out Y0.out.lt)
    have Z1 := Lib.hid (Z0.out.below Q1.out Z0.out.lt)
    have kx0 : w1.cell? ⟨N, 0, none⟩ = some (.int .u64 (x0 : Int)) := X1.out.cell 0
    have kx1 : w1.cell? ⟨N, 1, none⟩ = some (.int .u64 (x1 : Int)) := X1.out.cell 1
    have kx2 : w1.cell? ⟨N, 2, none⟩ = some (.int .u64 (x2 : Int)) := X1.out.cell 2
    have kx3 : w1.cell? ⟨N, 3, none⟩ = some (.int .u64 (x3 : Int)) := X1.out.cell 3
    have kx4 : w1.cell? ⟨N, 4, none⟩ = some (.bool x4) := X1.out.cell 4
    have ky0 : w1.cell? ⟨N + 1, 0, none⟩ = some (.int .u64 (y0 : Int)) := Y1.out.cell 0
    have ky1 : w1.cell? ⟨N + 1, 1, none⟩ = some (.int .u64 (y1 : Int)) := Y1.out.cell 1
    have ky2 : w1.cell? ⟨N + 1, 2, none⟩ = some (.int .u64 (y2 : Int)) := Y1.out.cell 2
    have ky3 : w1.cell? ⟨N + 1, 3, none⟩ = some (.int .u64 (y3 : Int)) := Y1.out.cell 3
    have ky4 : w1.cell? ⟨N + 1, 4, none⟩ = some (.bool y4) := Y1.out.cell 4
    have kz0 : w1.cell? ⟨N + 2, 0, none⟩ = some (.slice A n c) := Z1.out.cell 0
    have kz1 : w1.cell? ⟨N + 2, 1, none⟩ = some (.slice B m d) := Z1.out.cell 1
    go_upto_region 4 with (go_at_call 8; ((with_reducible refine (CB1.out _ B1.out).mono ?_); rintro e w2 ⟨A2, c2, rfl, r2, b2⟩; have Q2 := Lib.hid b2; have R2 := Lib.hid r2; clear b2 r2))
    clear kx0 kx1 kx2 kx3 kx4 ky0 ky1 ky2 ky3 ky4 kz0 kz1
    have B2 := Lib.hid (GR.out _ _ B1.out Q2.out)
    have X2 := Lib.hid (X1.out.below Q2.out X1.out.lt)
    have Y2 := Lib.hid (Y1.out.below Q2.out Y1.out.lt)
    have Z2 := Lib.hid (Z1.out.below Q2.out Z1.out.lt)
    have kx0 : w2.cell? ⟨N, 0, none⟩ = some (.int .u64 (x0 : Int)) := X2.out.cell 0
    have kx1 : w2.cell? ⟨N, 1, none⟩ = some (.int .u64 (x1 : Int)) := X2.out.cell 1
    have kx2 : w2.cell? ⟨N, 2, none⟩ = some (.int .u64 (x2 : Int)) := X2.out.cell 2
    have kx3 : w2.cell? ⟨N, 3, none⟩ = some (.int .u64 (x3 : Int)) := X2.out.cell 3
    have kx4 : w2.cell? ⟨N, 4, none⟩ = some (.bool x4) := X2.out.cell 4
    have ky0 : w2.cell? ⟨N + 1, 0, none⟩ = some (.int .u64 (y0 : Int)) := Y2.out.cell 0
    have ky1 : w2.cell? ⟨N + 1, 1, none⟩ = some (.int .u64 (y1 : Int)) := Y2.out.cell 1
    have ky2 : w2.cell? ⟨N + 1, 2, none⟩ = some (.int .u64 (y2 : Int)) := Y2.out.cell 2
    have ky3 : w2.cell? ⟨N + 1, 3, none⟩ = some (.int .u64 (y3 : Int)) := Y2.out.cell 3
    have ky4 : w2.cell? ⟨N + 1, 4, none⟩ = some (.bool y4) := Y2.out.cell 4
    have kz0 : w2.cell? ⟨N + 2, 0, none⟩ = some (.slice A n c) := Z2.out.cell 0
    have kz1 : w2.cell? ⟨N + 2, 1, none⟩ = some (.slice B m d) := Z2.out.cell 1
    go_upto_region 5 with (go_at_call 8; ((with_reducible refine (CB2.out _ B2.out).mono ?_); rintro e w3 ⟨A3, c3, rfl, r3, b3⟩; have Q3 := Lib.hid b3; have R3 := Lib.hid r3; clear b3 r3))
    clear kx0 kx1 kx2 kx3 kx4 ky0 ky1 ky2 ky3 ky4 kz0 kz1
    have B3 := Lib.hid (GR.out _ _ B2.out Q3.out)
    have R23 := Lib.hid (R2.out.below Q3.out)
    have X3 := Lib.hid (X2.out.below Q3.out X2.out.lt)
    have Y3 := Lib.hid (Y2.out.below Q3.out Y2.out.lt)
    have Z3 := Lib.hid (Z2.out.below Q3.out Z2.out.lt)
    go_wp2
    go_ret
    exact ⟨rfl, by first | exact B3.out | (rw [← HN.out]; exact B3.out)⟩
  rw [show Cn.bytesC ⟨y0, y1, y2, y3, y4⟩ k = 0 from if_pos g2] at CB2
  have EX : px = Cn.row ⟨x0, x1, x2, x3, x4⟩ h := by rw [PX.out]; exact if_pos g1
  have EY : py = Cn.row ⟨y0, y1, y2, y3, y4⟩ k := by rw [PY.out]; exact if_pos g2
  have ll : lx = 25 + n := by rw [LX.out, EX, Cn.row_len, NH.out]
  obtain ⟨du, hdu⟩ : ∃ b, b = decide ((⟨x0, x1, x2, 0, x4⟩ : Cn) = ⟨y0, y1, y2, 0, y4⟩) := ⟨_, rfl⟩
  obtain ⟨dh, hdh⟩ : ∃ b, b = sameB h k := ⟨_, rfl⟩
  have ES : sameB px py = (du && dh) := by
    rw [hdu, hdh, EX, EY, sameB_iff (Cn.row_same FX.out FY.out), Bool.decide_and, sameB_iff (xs := h) (ys := k) Iff.rfl]
  have hn7 : n ≤ 200 := by have := g1.2.2.2.2.2; rw [NH.out] at this; exact this
  have l1 : (25 : Int) + (n : Int) = (lx : Int) := by omega
  have l2 : wrap64 (lx : Int) = (lx : Int) := (wrap_nat lx (by omega)).1
  have l3 : IntKind.i64.wrap (lx : Int) = (lx : Int) := (wrap_nat lx (by omega)).2
  have EQ : ∀ W, (binOp .eql 24 (.agg #[.int .u64 (x0 : Int), .int .u64 (x1 : Int), .int .u64 (x2 : Int), .int .u64 0, .bool x4]) (.agg #[.int .u64 (y0 : Int), .int .u64 (y1 : Int), .int .u64 (y2 : Int), .int .u64 0, .bool y4])).run Tryd.prog W = .ok (.bool du) W := fun W => by rw [hdu]; exact run_eql_Cn ⟨x0, x1, x2, 0, x4⟩ ⟨y0, y1, y2, 0, y4⟩ W
  clear EX EY ll hn7 g1 g2 hdu
  have HD := Lib.hid hdh
  clear hdh
  have T3 := Lib.hid ES
  clear ES
  have go : Calls Tryd.prog 6 #[.agg #[.int .u64 (x0 : Int), .int .u64 (x1 : Int), .int .u64 (x2 : Int), .int .u64 (x3 : Int), .bool x4], .agg #[.int .u64 (y0 : Int), .int .u64 (y1 : Int), .int .u64 (y2 : Int), .int .u64 (y3 : Int), .bool y4], .agg #[.slice A n c, .slice B m d]] w fun e w' => e = .returned (.bool true) ∧ Below N w w' := by
    go_enter Tryd.func6, Tryd.ntmps6
    go_upto_region 1 with (fail)
    rw [← HN.out, ← HW.out]
    go_upto_region 3 with (go_at_call 7; ((with_reducible refine CW.out.mono ?_); rintro e w1 ⟨rfl, b1⟩; have Q1 := Lib.hid b1; clear b1))
    have B1 := Lib.hid (GR.out _ _ B0.out Q1.out)
    have X1 := Lib.hid (X0.out.below Q1.out X0.out.lt)
    have Y1 := Lib.hid (Y0.out.below Q1.out Y0.out.lt)
    have Z1 := Lib.hid (Z0.out.below Q1.out Z0.out.lt)
    have kx0 : w1.cell? ⟨N, 0, none⟩ = some (.int .u64 (x0 : Int)) := X1.out.cell 0
    have kx1 : w1.cell? ⟨N, 1, none⟩ = some (.int .u64 (x1 : Int)) := X1.out.cell 1
    have kx2 : w1.cell? ⟨N, 2, none⟩ = some (.int .u64 (x2 : Int)) := X1.out.cell 2
    have kx3 : w1.cell? ⟨N, 3, none⟩ = some (.int .u64 (x3 : Int)) := X1.out.cell 3
    have kx4 : w1.cell? ⟨N, 4, none⟩ = some (.bool x4) := X1.out.cell 4
    have ky0 : w1.cell? ⟨N + 1, 0, none⟩ = some (.int .u64 (y0 : Int)) := Y1.out.cell 0
    have ky1 : w1.cell? ⟨N + 1, 1, none⟩ = some (.int .u64 (y1 : Int)) := Y1.out.cell 1
    have ky2 : w1.cell? ⟨N + 1, 2, none⟩ = some (.int .u64 (y2 : Int)) := Y1.out.cell 2
    have ky3 : w1.cell? ⟨N + 1, 3, none⟩ = some (.int .u64 (y3 : Int)) := Y1.out.cell 3
    have ky4 : w1.cell? ⟨N + 1, 4, none⟩ = some (.bool y4) := Y1.out.cell 4
    have kz0 : w1.cell? ⟨N + 2, 0, none⟩ = some (.slice A n c) := Z1.out.cell 0
    have kz1 : w1.cell? ⟨N + 2, 1, none⟩ = some (.slice B m d) := Z1.out.cell 1
    go_upto_region 4 with (go_at_call 8; ((with_reducible refine (CB1.out _ B1.out).mono ?_); rintro e w2 ⟨A2, c2, rfl, r2, b2⟩; have Q2 := Lib.hid b2; have R2 := Lib.hid r2; clear b2 r2))
    clear kx0 kx1 kx2 kx3 kx4 ky0 ky1 ky2 ky3 ky4 kz0 kz1
    have B2 := Lib.hid (GR.out _ _ B1.out Q2.out)
    have X2 := Lib.hid (X1.out.below Q2.out X1.out.lt)
    have Y2 := Lib.hid (Y1.out.below Q2.out Y1.out.lt)
    have Z2 := Lib.hid (Z1.out.below Q2.out Z1.out.lt)
    have kx0 : w2.cell? ⟨N, 0, none⟩ = some (.int .u64 (x0 : Int)) := X2.out.cell 0
    have kx1 : w2.cell? ⟨N, 1, none⟩ = some (.int .u64 (x1 : Int)) := X2.out.cell 1
    have kx2 : w2.cell? ⟨N, 2, none⟩ = some (.int .u64 (x2 : Int)) := X2.out.cell 2
    have kx3 : w2.cell? ⟨N, 3, none⟩ = some (.int .u64 (x3 : Int)) := X2.out.cell 3
    have kx4 : w2.cell? ⟨N, 4, none⟩ = some (.bool x4) := X2.out.cell 4
    have ky0 : w2.cell? ⟨N + 1, 0, none⟩ = some (.int .u64 (y0 : Int)) := Y2.out.cell 0
    have ky1 : w2.cell? ⟨N + 1, 1, none⟩ = some (.int .u64 (y1 : Int)) := Y2.out.cell 1
    have ky2 : w2.cell? ⟨N + 1, 2, none⟩ = some (.int .u64 (y2 : Int)) := Y2.out.cell 2
    have ky3 : w2.cell? ⟨N + 1, 3, none⟩ = some (.int .u64 (y3 : Int)) := Y2.out.cell 3
    have ky4 : w2.cell? ⟨N + 1, 4, none⟩ = some (.bool y4) := Y2.out.cell 4
    have kz0 : w2.cell? ⟨N + 2, 0, none⟩ = some (.slice A n c) := Z2.out.cell 0
    have kz1 : w2.cell? ⟨N + 2, 1, none⟩ = some (.slice B m d) := Z2.out.cell 1
    go_upto_region 5 with (go_at_call 8; ((with_reducible refine (CB2.out _ B2.out).mono ?_); rintro e w3 ⟨A3, c3, rfl, r3, b3⟩; have Q3 := Lib.hid b3; have R3 := Lib.hid r3; clear b3 r3))
    clear kx0 kx1 kx2 kx3 kx4 ky0 ky1 ky2 ky3 ky4 kz0 kz1
    have B3 := Lib.hid (GR.out _ _ B2.out Q3.out)
    have R23 := Lib.hid (R2.out.below Q3.out)
    have X3 := Lib.hid (X2.out.below Q3.out X2.out.lt)
    have Y3 := Lib.hid (Y2.out.below Q3.out Y2.out.lt)
    have Z3 := Lib.hid (Z2.out.below Q3.out Z2.out.lt)
    have kx0 : w3.cell? ⟨N, 0, none⟩ = some (.int .u64 (x0 : Int)) := X3.out.cell 0
    have kx1 : w3.cell? ⟨N, 1, none⟩ = some (.int .u64 (x1 : Int)) := X3.out.cell 1
    have kx2 : w3.cell? ⟨N, 2, none⟩ = some (.int .u64 (x2 : Int)) := X3.out.cell 2
    have kx3 : w3.cell? ⟨N, 3, none⟩ = some (.int .u64 (x3 : Int)) := X3.out.cell 3
    have kx4 : w3.cell? ⟨N, 4, none⟩ = some (.bool x4) := X3.out.cell 4
    have ky0 : w3.cell? ⟨N + 1, 0, none⟩ = some (.int .u64 (y0 : Int)) := Y3.out.cell 0
    have ky1 : w3.cell? ⟨N + 1, 1, none⟩ = some (.int .u64 (y1 : Int)) := Y3.out.cell 1
    have ky2 : w3.cell? ⟨N + 1, 2, none⟩ = some (.int .u64 (y2 : Int)) := Y3.out.cell 2
    have ky3 : w3.cell? ⟨N + 1, 3, none⟩ = some (.int .u64 (y3 : Int)) := Y3.out.cell 3
    have ky4 : w3.cell? ⟨N + 1, 4, none⟩ = some (.bool y4) := Y3.out.cell 4
    have kz0 : w3.cell? ⟨N + 2, 0, none⟩ = some (.slice A n c) := Z3.out.cell 0
    have kz1 : w3.cell? ⟨N + 2, 1, none⟩ = some (.slice B m d) := Z3.out.cell 1
    obtain ⟨gx, hgx⟩ : ∃ g, g = w3.heap.size := ⟨_, rfl⟩
    go_upto_region 8 with (fail)
    rw [← hgx]
    have U4 := Lib.hid (show Bk (w3.alloc (.cells #[.int .u64 (x0 : Int), .int .u64 (x1 : Int), .int .u64 (x2 : Int), .int .u64 (x3 : Int), .bool x4] 24)) gx 24 #[.int .u64 (x0 : Int), .int .u64 (x1 : Int), .int .u64 (x2 : Int), .int .u64 (x3 : Int), .bool x4] from Bk.newAt _ _ _ _ hgx.symm)
    have X4 := Lib.hid (X3.out.alloc (.cells #[.int .u64 (x0 : Int), .int .u64 (x1 : Int), .int .u64 (x2 : Int), .int .u64 (x3 : Int), .bool x4] 24))
    have Y4 := Lib.hid (Y3.out.alloc (.cells #[.int .u64 (x0 : Int), .int .u64 (x1 : Int), .int .u64 (x2 : Int), .int .u64 (x3 : Int), .bool x4] 24))
    have Z4 := Lib.hid (Z3.out.alloc (.cells #[.int .u64 (x0 : Int), .int .u64 (x1 : Int), .int .u64 (x2 : Int), .int .u64 (x3 : Int), .bool x4] 24))
    have B4 := Lib.hid (GR.out _ _ B3.out ((Below.refl _ _).alloc (Nat.le_refl _) (.cells #[.int .u64 (x0 : Int), .int .u64 (x1 : Int), .int .u64 (x2 : Int), .int .u64 (x3 : Int), .bool x4] 24)))
    have Q4 := Lib.hid ((Below.refl w3.heap.size w3).alloc (Nat.le_refl _) (.cells #[.int .u64 (x0 : Int), .int .u64 (x1 : Int), .int .u64 (x2 : Int), .int .u64 (x3 : Int), .bool x4] 24))
    have HG3 := Lib.hid (Nat.le_of_eq hgx.symm)
    have nz : N + 2 < gx := by rw [hgx]; exact Z3.out.lt
    clear hgx kx0 kx1 kx2 kx3 kx4 ky0 ky1 ky2 ky3 ky4 kz0 kz1
    generalize w3.alloc (.cells #[.int .u64 (x0 : Int), .int .u64 (x1 : Int), .int .u64 (x2 : Int), .int .u64 (x3 : Int), .bool x4] 24) = w4 at *
    have kx0 : w4.cell? ⟨N, 0, none⟩ = some (.int .u64 (x0 : Int)) := X4.out.cell 0
    have kx1 : w4.cell? ⟨N, 1, none⟩ = some (.int .u64 (x1 : Int)) := X4.out.cell 1
    have kx2 : w4.cell? ⟨N, 2, none⟩ = some (.int .u64 (x2 : Int)) := X4.out.cell 2
    have kx3 : w4.cell? ⟨N, 3, none⟩ = some (.int .u64 (x3 : Int)) := X4.out.cell 3
    have kx4 : w4.cell? ⟨N, 4, none⟩ = some (.bool x4) := X4.out.cell 4
    have ky0 : w4.cell? ⟨N + 1, 0, none⟩ = some (.int .u64 (y0 : Int)) := Y4.out.cell 0
    have ky1 : w4.cell? ⟨N + 1, 1, none⟩ = some (.int .u64 (y1 : Int)) := Y4.out.cell 1
    have ky2 : w4.cell? ⟨N + 1, 2, none⟩ = some (.int .u64 (y2 : Int)) := Y4.out.cell 2
    have ky3 : w4.cell? ⟨N + 1, 3, none⟩ = some (.int .u64 (y3 : Int)) := Y4.out.cell 3
    have ky4 : w4.cell? ⟨N + 1, 4, none⟩ = some (.bool y4) := Y4.out.cell 4
    have kz0 : w4.cell? ⟨N + 2, 0, none⟩ = some (.slice A n c) := Z4.out.cell 0
    have kz1 : w4.cell? ⟨N + 2, 1, none⟩ = some (.slice B m d) := Z4.out.cell 1
    obtain ⟨gy, hgy⟩ : ∃ g, g = w4.heap.size := ⟨_, rfl⟩
    go_upto_region 9 with (fail)
    rw [← hgy]
    have V5 := Lib.hid (show Bk (w4.alloc (.cells #[.int .u64 (y0 : Int), .int .u64 (y1 : Int), .int .u64 (y2 : Int), .int .u64 (y3 : Int), .bool y4] 24)) gy 24 #[.int .u64 (y0 : Int), .int .u64 (y1 : Int), .int .u64 (y2 : Int), .int .u64 (y3 : Int), .bool y4] from Bk.newAt _ _ _ _ hgy.symm)
    have U5 := Lib.hid (U4.out.alloc (.cells #[.int .u64 (y0 : Int), .int .u64 (y1 : Int), .int .u64 (y2 : Int), .int .u64 (y3 : Int), .bool y4] 24))
    have Z5 := Lib.hid (Z4.out.alloc (.cells #[.int .u64 (y0 : Int), .int .u64 (y1 : Int), .int .u64 (y2 : Int), .int .u64 (y3 : Int), .bool y4] 24))
    have B5 := Lib.hid (GR.out _ _ B4.out ((Below.refl _ _).alloc (Nat.le_refl _) (.cells #[.int .u64 (y0 : Int), .int .u64 (y1 : Int), .int .u64 (y2 : Int), .int .u64 (y3 : Int), .bool y4] 24)))
    have Q5 := Lib.hid (Q4.out.alloc Q4.out.size (.cells #[.int .u64 (y0 : Int), .int .u64 (y1 : Int), .int .u64 (y2 : Int), .int .u64 (y3 : Int), .bool y4] 24))
    have ng : gx < gy := by rw [hgy]; exact U4.out.lt
    clear hgy kx0 kx1 kx2 kx3 kx4 ky0 ky1 ky2 ky3 ky4 kz0 kz1
    generalize w4.alloc (.cells #[.int .u64 (y0 : Int), .int .u64 (y1 : Int), .int .u64 (y2 : Int), .int .u64 (y3 : Int), .bool y4] 24) = w5 at *
    have u3 : w5.cell? ⟨gx, 3, none⟩ = some (.int .u64 (x3 : Int)) := U5.out.cell 3
    have f3 := U5.out.frozen 3
    go_upto_region 10 with (fail)
    have U6 := Lib.hid (show Bk (w5.setCell ⟨gx, 3, none⟩ (.int .u64 0)) gx 24 #[.int .u64 (x0 : Int), .int .u64 (x1 : Int), .int .u64 (x2 : Int), .int .u64 0, .bool x4] from U5.out.put 3 (.int .u64 0))
    have V6 := Lib.hid (V5.out.far (p := ⟨gx, 3, none⟩) (show gy ≠ gx by omega) (.int .u64 0))
    have Z6 := Lib.hid (Z5.out.far (p := ⟨gx, 3, none⟩) (show N + 2 ≠ gx by omega) (.int .u64 0))
    have B6 := Lib.hid (B5.out.setCell (p := ⟨gx, 3, none⟩) (show N ≤ gx by omega) (.int .u64 0))
    have Q6 := Lib.hid (Q5.out.setCell (p := ⟨gx, 3, none⟩) (show w3.heap.size ≤ gx from HG3.out) (.int .u64 0))
    clear u3 f3
    generalize w5.setCell ⟨gx, 3, none⟩ (.int .u64 0) = w6 at *
    have u3 : w6.cell? ⟨gy, 3, none⟩ = some (.int .u64 (y3 : Int)) := V6.out.cell 3
    have f3 := V6.out.frozen 3
    go_upto_region 11 with (fail)
    have V7 := Lib.hid (show Bk (w6.setCell ⟨gy, 3, none⟩ (.int .u64 0)) gy 24 #[.int .u64 (y0 : Int), .int .u64 (y1 : Int), .int .u64 (y2 : Int), .int .u64 0, .bool y4] from V6.out.put 3 (.int .u64 0))
    have U7 := Lib.hid (U6.out.far (p := ⟨gy, 3, none⟩) (show gx ≠ gy by omega) (.int .u64 0))
    have Z7 := Lib.hid (Z6.out.far (p := ⟨gy, 3, none⟩) (show N + 2 ≠ gy by omega) (.int .u64 0))
    have B7 := Lib.hid (B6.out.setCell (p := ⟨gy, 3, none⟩) (show N ≤ gy by omega) (.int .u64 0))
    have Q7 := Lib.hid (Q6.out.setCell (p := ⟨gy, 3, none⟩) (show w3.heap.size ≤ gy from Nat.le_trans HG3.out (Nat.le_of_lt ng)) (.int .u64 0))
    clear u3 f3
    generalize w6.setCell ⟨gy, 3, none⟩ (.int .u64 0) = w7 at *
    have RA := Lib.hid (R23.out.below Q7.out)
    have RB := Lib.hid (R3.out.below Q7.out)
    have DN : ∀ (X : World) (q : Nat), Below X.heap.size X (X.drewN q) := fun X q => ⟨rfl, rfl, rfl, Nat.le_refl _, fun _ _ => rfl⟩
    have NX := Lib.hid (show ∀ X Y, Below w7.heap.size w7 X → Below X.heap.size X Y → Below w7.heap.size w7 Y from fun X Y p q => p.trans (q.mono p.size))
    have CS1 := Lib.hid (show ∀ X, Below w7.heap.size w7 X → Calls Tryd.prog 12 #[.slice A2 lx c2, .slice A3 ly c3] X fun e w' => e = .returned (.bool (du && dh)) ∧ Below w7.heap.size w7 w' from
      fun X hX => (rsame_any A2 A3 lx c2 ly c3 px py X (RA.out.below hX) (RB.out.below hX)).mono fun e w' ⟨q1, q, q2⟩ => ⟨by rw [q1, T3.out], by rw [q2]; exact NX.out _ _ hX (DN X q)⟩)
    have CS2 := Lib.hid (show ∀ X, Below w7.heap.size w7 X → Calls Tryd.prog 12 #[.slice A n c, .slice B m d] X fun e w' => e = .returned (.bool dh) ∧ Below w7.heap.size w7 w' from
      fun X hX => (rsame_any A B n c m d h k X ((RH.out _ B7.out).1.below hX) ((RH.out _ B7.out).2.below hX)).mono fun e w' ⟨q1, q, q2⟩ => ⟨by rw [q1, HD.out], by rw [q2]; exact NX.out _ _ hX (DN X q)⟩)
    have s0 : Below w7.heap.size w7 w7.drew := (Below.refl _ _).drew
    have CU := Lib.hid (show ∀ X, Below w7.heap.size w7 X → X.cell? ⟨gx, 0, none⟩ = some (.int .u64 (x0 : Int)) ∧ X.cell? ⟨gx, 1, none⟩ = some (.int .u64 (x1 : Int)) ∧ X.cell? ⟨gx, 2, none⟩ = some (.int .u64 (x2 : Int)) ∧ X.cell? ⟨gx, 3, none⟩ = some (.int .u64 0) ∧ X.cell? ⟨gx, 4, none⟩ = some (.bool x4) from fun X hX => by have q := U7.out.below hX U7.out.lt; exact ⟨q.cell 0, q.cell 1, q.cell 2, q.cell 3, q.cell 4⟩)
    have CV := Lib.hid (show ∀ X, Below w7.heap.size w7 X → X.cell? ⟨gy, 0, none⟩ = some (.int .u64 (y0 : Int)) ∧ X.cell? ⟨gy, 1, none⟩ = some (.int .u64 (y1 : Int)) ∧ X.cell? ⟨gy, 2, none⟩ = some (.int .u64 (y2 : Int)) ∧ X.cell? ⟨gy, 3, none⟩ = some (.int .u64 0) ∧ X.cell? ⟨gy, 4, none⟩ = some (.bool y4) from fun X hX => by have q := V7.out.below hX V7.out.lt; exact ⟨q.cell 0, q.cell 1, q.cell 2, q.cell 3, q.cell 4⟩)
    have CZ := Lib.hid (show ∀ X, Below w7.heap.size w7 X → X.cell? ⟨N + 2, 0, none⟩ = some (.slice A n c) ∧ X.cell? ⟨N + 2, 1, none⟩ = some (.slice B m d) from fun X hX => by have q := Z7.out.below hX Z7.out.lt; exact ⟨q.cell 0, q.cell 1⟩)
    refine wp_region_steady (fun X => Below w7.heap.size w7 X) (by kernel_rfl) (by kernel_rfl) s0 ?_
    clear s0
    cases du
    · (refine seq_pure (v := ?_) (by rfl) ?_ ?_; rotate_left; (· (intro w' hS; obtain ⟨k0, k1, k2, k3, k4⟩ := CU.out _ hS; obtain ⟨j0, j1, j2, j3, j4⟩ := CV.out _ hS; obtain ⟨z0, z1⟩ := CZ.out _ hS; go_simp; try with_reducible rfl)); simp only [Act.put, List.setIfInBounds_toArray, List.set_cons_zero, List.set_cons_succ])
      (refine seq_pure (v := ?_) (by rfl) ?_ ?_; rotate_left; (· (intro w' hS; obtain ⟨k0, k1, k2, k3, k4⟩ := CU.out _ hS; obtain ⟨j0, j1, j2, j3, j4⟩ := CV.out _ hS; obtain ⟨z0, z1⟩ := CZ.out _ hS; go_simp; try with_reducible rfl)); simp only [Act.put, List.setIfInBounds_toArray, List.set_cons_zero, List.set_cons_succ])
      refine seq_call (f := 12) (args := #[.slice A2 lx c2, .slice A3 ly c3]) (v := .bool (false && dh)) (by rfl) ?_ ?_ ?_
      · intro w' hS; go_simp
      · intro w' hS; exact CS1.out _ hS
      simp only [Act.put, List.setIfInBounds_toArray, List.set_cons_zero, List.set_cons_succ]
      simp only [Bool.true_and, Bool.false_and]
      (refine seq_pure (v := ?_) (by rfl) ?_ ?_; rotate_left; (· (intro w' hS; obtain ⟨k0, k1, k2, k3, k4⟩ := CU.out _ hS; obtain ⟨j0, j1, j2, j3, j4⟩ := CV.out _ hS; obtain ⟨z0, z1⟩ := CZ.out _ hS; go_simp; try with_reducible rfl)); simp only [Act.put, List.setIfInBounds_toArray, List.set_cons_zero, List.set_cons_succ])
      (refine seq_pure (v := ?_) (by rfl) ?_ ?_; rotate_left; (· (intro w' hS; obtain ⟨k0, k1, k2, k3, k4⟩ := CU.out _ hS; obtain ⟨j0, j1, j2, j3, j4⟩ := CV.out _ hS; obtain ⟨z0, z1⟩ := CZ.out _ hS; go_simp; try with_reducible rfl)); simp only [Act.put, List.setIfInBounds_toArray, List.set_cons_zero, List.set_cons_succ])
      (refine seq_pure (v := ?_) (by rfl) ?_ ?_; rotate_left; (· (intro w' hS; obtain ⟨k0, k1, k2, k3, k4⟩ := CU.out _ hS; obtain ⟨j0, j1, j2, j3, j4⟩ := CV.out _ hS; obtain ⟨z0, z1⟩ := CZ.out _ hS; go_simp; try with_reducible rfl)); simp only [Act.put, List.setIfInBounds_toArray, List.set_cons_zero, List.set_cons_succ])
      (refine seq_pure (v := ?_) (by rfl) ?_ ?_; rotate_left; (· (intro w' hS; obtain ⟨k0, k1, k2, k3, k4⟩ := CU.out _ hS; obtain ⟨j0, j1, j2, j3, j4⟩ := CV.out _ hS; obtain ⟨z0, z1⟩ := CZ.out _ hS; go_simp; try with_reducible rfl)); simp only [Act.put, List.setIfInBounds_toArray, List.set_cons_zero, List.set_cons_succ])
      refine seq_skip (by rfl) ?_
      simp only [Act.put, List.setIfInBounds_toArray, List.set_cons_zero, List.set_cons_succ]
      refine seq_skip (by rfl) ?_
      simp only [Act.put, List.setIfInBounds_toArray, List.set_cons_zero, List.set_cons_succ]
      refine seq_skip (by rfl) ?_
      simp only [Act.put, List.setIfInBounds_toArray, List.set_cons_zero, List.set_cons_succ]
      refine seq_skip (by rfl) ?_
      simp only [Act.put, List.setIfInBounds_toArray, List.set_cons_zero, List.set_cons_succ]
      refine seq_skip (by rfl) ?_
      simp only [Act.put, List.setIfInBounds_toArray, List.set_cons_zero, List.set_cons_succ]
      (refine seq_pure (v := ?_) (by rfl) ?_ ?_; rotate_left; (· (intro w' hS; obtain ⟨k0, k1, k2, k3, k4⟩ := CU.out _ hS; obtain ⟨j0, j1, j2, j3, j4⟩ := CV.out _ hS; obtain ⟨z0, z1⟩ := CZ.out _ hS; go_simp; try with_reducible rfl)); simp only [Act.put, List.setIfInBounds_toArray, List.set_cons_zero, List.set_cons_succ])
      (refine seq_pure (v := ?_) (by rfl) ?_ ?_; rotate_left; (· (intro w' hS; obtain ⟨k0, k1, k2, k3, k4⟩ := CU.out _ hS; obtain ⟨j0, j1, j2, j3, j4⟩ := CV.out _ hS; obtain ⟨z0, z1⟩ := CZ.out _ hS; go_simp; try with_reducible rfl)); simp only [Act.put, List.setIfInBounds_toArray, List.set_cons_zero, List.set_cons_succ])
      (refine seq_pure (v := ?_) (by rfl) ?_ ?_; rotate_left; (· (intro w' hS; obtain ⟨k0, k1, k2, k3, k4⟩ := CU.out _ hS; obtain ⟨j0, j1, j2, j3, j4⟩ := CV.out _ hS; obtain ⟨z0, z1⟩ := CZ.out _ hS; go_simp; try with_reducible rfl)); simp only [Act.put, List.setIfInBounds_toArray, List.set_cons_zero, List.set_cons_succ])
      (refine seq_pure (v := ?_) (by rfl) ?_ ?_; rotate_left; (· (intro w' hS; obtain ⟨k0, k1, k2, k3, k4⟩ := CU.out _ hS; obtain ⟨j0, j1, j2, j3, j4⟩ := CV.out _ hS; obtain ⟨z0, z1⟩ := CZ.out _ hS; go_simp; try with_reducible rfl)); simp only [Act.put, List.setIfInBounds_toArray, List.set_cons_zero, List.set_cons_succ])
      (refine seq_pure (v := ?_) (by rfl) ?_ ?_; rotate_left; (· (intro w' hS; obtain ⟨k0, k1, k2, k3, k4⟩ := CU.out _ hS; obtain ⟨j0, j1, j2, j3, j4⟩ := CV.out _ hS; obtain ⟨z0, z1⟩ := CZ.out _ hS; go_simp; try with_reducible rfl)); simp only [Act.put, List.setIfInBounds_toArray, List.set_cons_zero, List.set_cons_succ])
      (refine seq_pure (v := ?_) (by rfl) ?_ ?_; rotate_left; (· (intro w' hS; obtain ⟨k0, k1, k2, k3, k4⟩ := CU.out _ hS; obtain ⟨j0, j1, j2, j3, j4⟩ := CV.out _ hS; obtain ⟨z0, z1⟩ := CZ.out _ hS; go_simp; try with_reducible rfl)); simp only [Act.put, List.setIfInBounds_toArray, List.set_cons_zero, List.set_cons_succ])
      (refine seq_pure (v := ?_) (by rfl) ?_ ?_; rotate_left; (· (intro w' hS; obtain ⟨k0, k1, k2, k3, k4⟩ := CU.out _ hS; obtain ⟨j0, j1, j2, j3, j4⟩ := CV.out _ hS; obtain ⟨z0, z1⟩ := CZ.out _ hS; go_simp; try with_reducible rfl)); simp only [Act.put, List.setIfInBounds_toArray, List.set_cons_zero, List.set_cons_succ])
      (refine seq_pure (v := ?_) (by rfl) ?_ ?_; rotate_left; (· (intro w' hS; obtain ⟨k0, k1, k2, k3, k4⟩ := CU.out _ hS; obtain ⟨j0, j1, j2, j3, j4⟩ := CV.out _ hS; obtain ⟨z0, z1⟩ := CZ.out _ hS; go_simp; try with_reducible rfl)); simp only [Act.put, List.setIfInBounds_toArray, List.set_cons_zero, List.set_cons_succ])
      (refine seq_pure (v := ?_) (by rfl) ?_ ?_; rotate_left; (· (intro w' hS; obtain ⟨k0, k1, k2, k3, k4⟩ := CU.out _ hS; obtain ⟨j0, j1, j2, j3, j4⟩ := CV.out _ hS; obtain ⟨z0, z1⟩ := CZ.out _ hS; go_simp; try with_reducible rfl)); simp only [Act.put, List.setIfInBounds_toArray, List.set_cons_zero, List.set_cons_succ])
      (refine seq_pure (v := ?_) (by rfl) ?_ ?_; rotate_left; (· (intro w' hS; obtain ⟨k0, k1, k2, k3, k4⟩ := CU.out _ hS; obtain ⟨j0, j1, j2, j3, j4⟩ := CV.out _ hS; obtain ⟨z0, z1⟩ := CZ.out _ hS; go_simp; try with_reducible rfl)); simp only [Act.put, List.setIfInBounds_toArray, List.set_cons_zero, List.set_cons_succ])
      (refine seq_pure (v := ?_) (by rfl) ?_ ?_; rotate_left; (· (intro w' hS; obtain ⟨k0, k1, k2, k3, k4⟩ := CU.out _ hS; obtain ⟨j0, j1, j2, j3, j4⟩ := CV.out _ hS; obtain ⟨z0, z1⟩ := CZ.out _ hS; go_simp; try with_reducible rfl)); simp only [Act.put, List.setIfInBounds_toArray, List.set_cons_zero, List.set_cons_succ])
      (refine seq_pure (v := ?_) (by rfl) ?_ ?_; rotate_left; (· (intro w' hS; obtain ⟨k0, k1, k2, k3, k4⟩ := CU.out _ hS; obtain ⟨j0, j1, j2, j3, j4⟩ := CV.out _ hS; obtain ⟨z0, z1⟩ := CZ.out _ hS; go_simp; try with_reducible rfl)); simp only [Act.put, List.setIfInBounds_toArray, List.set_cons_zero, List.set_cons_succ])
      refine seq_nil ?_
      intro w8 s8
      have B8 := Lib.hid (GR.out _ _ B7.out s8)
      clear s8
      go_wp2
      go_ret
      exact ⟨rfl, B8.out⟩
    · cases dh
      · (refine seq_pure (v := ?_) (by rfl) ?_ ?_; rotate_left; (· (intro w' hS; obtain ⟨k0, k1, k2, k3, k4⟩ := CU.out _ hS; obtain ⟨j0, j1, j2, j3, j4⟩ := CV.out _ hS; obtain ⟨z0, z1⟩ := CZ.out _ hS; go_simp; try with_reducible rfl)); simp only [Act.put, List.setIfInBounds_toArray, List.set_cons_zero, List.set_cons_succ])
        (refine seq_pure (v := ?_) (by rfl) ?_ ?_; rotate_left; (· (intro w' hS; obtain ⟨k0, k1, k2, k3, k4⟩ := CU.out _ hS; obtain ⟨j0, j1, j2, j3, j4⟩ := CV.out _ hS; obtain ⟨z0, z1⟩ := CZ.out _ hS; go_simp; try with_reducible rfl)); simp only [Act.put, List.setIfInBounds_toArray, List.set_cons_zero, List.set_cons_succ])
        refine seq_call (f := 12) (args := #[.slice A2 lx c2, .slice A3 ly c3]) (v := .bool (true && false)) (by rfl) ?_ ?_ ?_
        · intro w' hS; go_simp
        · intro w' hS; exact CS1.out _ hS
        simp only [Act.put, List.setIfInBounds_toArray, List.set_cons_zero, List.set_cons_succ]
        simp only [Bool.true_and, Bool.false_and]
        (refine seq_pure (v := ?_) (by rfl) ?_ ?_; rotate_left; (· (intro w' hS; obtain ⟨k0, k1, k2, k3, k4⟩ := CU.out _ hS; obtain ⟨j0, j1, j2, j3, j4⟩ := CV.out _ hS; obtain ⟨z0, z1⟩ := CZ.out _ hS; go_simp; try with_reducible rfl)); simp only [Act.put, List.setIfInBounds_toArray, List.set_cons_zero, List.set_cons_succ])
        (refine seq_pure (v := ?_) (by rfl) ?_ ?_; rotate_left; (· (intro w' hS; obtain ⟨k0, k1, k2, k3, k4⟩ := CU.out _ hS; obtain ⟨j0, j1, j2, j3, j4⟩ := CV.out _ hS; obtain ⟨z0, z1⟩ := CZ.out _ hS; go_simp; try with_reducible rfl)); simp only [Act.put, List.setIfInBounds_toArray, List.set_cons_zero, List.set_cons_succ])
        (refine seq_pure (v := ?_) (by rfl) ?_ ?_; rotate_left; (· (intro w' hS; obtain ⟨k0, k1, k2, k3, k4⟩ := CU.out _ hS; obtain ⟨j0, j1, j2, j3, j4⟩ := CV.out _ hS; obtain ⟨z0, z1⟩ := CZ.out _ hS; go_simp; try with_reducible rfl)); simp only [Act.put, List.setIfInBounds_toArray, List.set_cons_zero, List.set_cons_succ])
        (refine seq_pure (v := ?_) (by rfl) ?_ ?_; rotate_left; (· (intro w' hS; obtain ⟨k0, k1, k2, k3, k4⟩ := CU.out _ hS; obtain ⟨j0, j1, j2, j3, j4⟩ := CV.out _ hS; obtain ⟨z0, z1⟩ := CZ.out _ hS; go_simp; try with_reducible rfl)); simp only [Act.put, List.setIfInBounds_toArray, List.set_cons_zero, List.set_cons_succ])
        (refine seq_pure (v := ?_) (by rfl) ?_ ?_; rotate_left; (· (intro w' hS; obtain ⟨k0, k1, k2, k3, k4⟩ := CU.out _ hS; obtain ⟨j0, j1, j2, j3, j4⟩ := CV.out _ hS; obtain ⟨z0, z1⟩ := CZ.out _ hS; go_simp; try with_reducible rfl)); simp only [Act.put, List.setIfInBounds_toArray, List.set_cons_zero, List.set_cons_succ])
        (refine seq_pure (v := ?_) (by rfl) ?_ ?_; rotate_left; (· (intro w' hS; obtain ⟨k0, k1, k2, k3, k4⟩ := CU.out _ hS; obtain ⟨j0, j1, j2, j3, j4⟩ := CV.out _ hS; obtain ⟨z0, z1⟩ := CZ.out _ hS; go_simp; try with_reducible rfl)); simp only [Act.put, List.setIfInBounds_toArray, List.set_cons_zero, List.set_cons_succ])
        (refine seq_pure (v := ?_) (by rfl) ?_ ?_; rotate_left; (· (intro w' hS; obtain ⟨k0, k1, k2, k3, k4⟩ := CU.out _ hS; obtain ⟨j0, j1, j2, j3, j4⟩ := CV.out _ hS; obtain ⟨z0, z1⟩ := CZ.out _ hS; go_simp; try with_reducible rfl)); simp only [Act.put, List.setIfInBounds_toArray, List.set_cons_zero, List.set_cons_succ])
        (refine seq_pure (v := ?_) (by rfl) ?_ ?_; rotate_left; (· (intro w' hS; obtain ⟨k0, k1, k2, k3, k4⟩ := CU.out _ hS; obtain ⟨j0, j1, j2, j3, j4⟩ := CV.out _ hS; obtain ⟨z0, z1⟩ := CZ.out _ hS; go_simp; try with_reducible rfl)); simp only [Act.put, List.setIfInBounds_toArray, List.set_cons_zero, List.set_cons_succ])
        refine seq_call (f := 12) (args := #[.slice A n c, .slice B m d]) (v := .bool false) (by rfl) ?_ ?_ ?_
        · intro w' hS; go_simp
        · intro w' hS; exact CS2.out _ hS
        simp only [Act.put, List.setIfInBounds_toArray, List.set_cons_zero, List.set_cons_succ]
        (refine seq_pure (v := ?_) (by rfl) ?_ ?_; rotate_left; (· (intro w' hS; obtain ⟨k0, k1, k2, k3, k4⟩ := CU.out _ hS; obtain ⟨j0, j1, j2, j3, j4⟩ := CV.out _ hS; obtain ⟨z0, z1⟩ := CZ.out _ hS; go_simp; try with_reducible rfl)); simp only [Act.put, List.setIfInBounds_toArray, List.set_cons_zero, List.set_cons_succ])
        (refine seq_pure (v := ?_) (by rfl) ?_ ?_; rotate_left; (· (intro w' hS; obtain ⟨k0, k1, k2, k3, k4⟩ := CU.out _ hS; obtain ⟨j0, j1, j2, j3, j4⟩ := CV.out _ hS; obtain ⟨z0, z1⟩ := CZ.out _ hS; go_simp; try with_reducible rfl)); simp only [Act.put, List.setIfInBounds_toArray, List.set_cons_zero, List.set_cons_succ])
        (refine seq_pure (v := ?_) (by rfl) ?_ ?_; rotate_left; (· (intro w' hS; obtain ⟨k0, k1, k2, k3, k4⟩ := CU.out _ hS; obtain ⟨j0, j1, j2, j3, j4⟩ := CV.out _ hS; obtain ⟨z0, z1⟩ := CZ.out _ hS; go_simp; try with_reducible rfl)); simp only [Act.put, List.setIfInBounds_toArray, List.set_cons_zero, List.set_cons_succ])
        (refine seq_pure (v := ?_) (by rfl) ?_ ?_; rotate_left; (· (intro w' hS; obtain ⟨k0, k1, k2, k3, k4⟩ := CU.out _ hS; obtain ⟨j0, j1, j2, j3, j4⟩ := CV.out _ hS; obtain ⟨z0, z1⟩ := CZ.out _ hS; go_simp; try with_reducible rfl)); simp only [Act.put, List.setIfInBounds_toArray, List.set_cons_zero, List.set_cons_succ])
        (refine seq_pure (v := ?_) (by rfl) ?_ ?_; rotate_left; (· (intro w' hS; obtain ⟨k0, k1, k2, k3, k4⟩ := CU.out _ hS; obtain ⟨j0, j1, j2, j3, j4⟩ := CV.out _ hS; obtain ⟨z0, z1⟩ := CZ.out _ hS; go_simp; try with_reducible rfl)); simp only [Act.put, List.setIfInBounds_toArray, List.set_cons_zero, List.set_cons_succ])
        (refine seq_pure (v := ?_) (by rfl) ?_ ?_; rotate_left; (· (intro w' hS; obtain ⟨k0, k1, k2, k3, k4⟩ := CU.out _ hS; obtain ⟨j0, j1, j2, j3, j4⟩ := CV.out _ hS; obtain ⟨z0, z1⟩ := CZ.out _ hS; go_simp; try with_reducible rfl)); simp only [Act.put, List.setIfInBounds_toArray, List.set_cons_zero, List.set_cons_succ])
        (refine seq_pure (v := ?_) (by rfl) ?_ ?_; rotate_left; (· (intro w' hS; obtain ⟨k0, k1, k2, k3, k4⟩ := CU.out _ hS; obtain ⟨j0, j1, j2, j3, j4⟩ := CV.out _ hS; obtain ⟨z0, z1⟩ := CZ.out _ hS; go_simp; try with_reducible rfl)); simp only [Act.put, List.setIfInBounds_toArray, List.set_cons_zero, List.set_cons_succ])
        (refine seq_pure (v := ?_) (by rfl) ?_ ?_; rotate_left; (· (intro w' hS; obtain ⟨k0, k1, k2, k3, k4⟩ := CU.out _ hS; obtain ⟨j0, j1, j2, j3, j4⟩ := CV.out _ hS; obtain ⟨z0, z1⟩ := CZ.out _ hS; go_simp; try with_reducible rfl)); simp only [Act.put, List.setIfInBounds_toArray, List.set_cons_zero, List.set_cons_succ])
        (refine seq_pure (v := ?_) (by rfl) ?_ ?_; rotate_left; (· (intro w' hS; obtain ⟨k0, k1, k2, k3, k4⟩ := CU.out _ hS; obtain ⟨j0, j1, j2, j3, j4⟩ := CV.out _ hS; obtain ⟨z0, z1⟩ := CZ.out _ hS; go_simp; try with_reducible rfl)); simp only [Act.put, List.setIfInBounds_toArray, List.set_cons_zero, List.set_cons_succ])
        (refine seq_pure (v := ?_) (by rfl) ?_ ?_; rotate_left; (· (intro w' hS; obtain ⟨k0, k1, k2, k3, k4⟩ := CU.out _ hS; obtain ⟨j0, j1, j2, j3, j4⟩ := CV.out _ hS; obtain ⟨z0, z1⟩ := CZ.out _ hS; go_simp; try with_reducible rfl)); simp only [Act.put, List.setIfInBounds_toArray, List.set_cons_zero, List.set_cons_succ])
        (refine seq_pure (v := ?_) (by rfl) ?_ ?_; rotate_left; (· (intro w' hS; obtain ⟨k0, k1, k2, k3, k4⟩ := CU.out _ hS; obtain ⟨j0, j1, j2, j3, j4⟩ := CV.out _ hS; obtain ⟨z0, z1⟩ := CZ.out _ hS; go_simp; try with_reducible rfl)); simp only [Act.put, List.setIfInBounds_toArray, List.set_cons_zero, List.set_cons_succ])
        (refine seq_pure (v := ?_) (by rfl) ?_ ?_; rotate_left; (· (intro w' hS; obtain ⟨k0, k1, k2, k3, k4⟩ := CU.out _ hS; obtain ⟨j0, j1, j2, j3, j4⟩ := CV.out _ hS; obtain ⟨z0, z1⟩ := CZ.out _ hS; go_simp; try with_reducible rfl)); simp only [Act.put, List.setIfInBounds_toArray, List.set_cons_zero, List.set_cons_succ])
        refine seq_nil ?_
        intro w8 s8
        have B8 := Lib.hid (GR.out _ _ B7.out s8)
        clear s8
        go_wp2
        go_ret
        exact ⟨rfl, B8.out⟩
      · (refine seq_pure (v := ?_) (by rfl) ?_ ?_; rotate_left; (· (intro w' hS; obtain ⟨k0, k1, k2, k3, k4⟩ := CU.out _ hS; obtain ⟨j0, j1, j2, j3, j4⟩ := CV.out _ hS; obtain ⟨z0, z1⟩ := CZ.out _ hS; go_simp; try with_reducible rfl)); simp only [Act.put, List.setIfInBounds_toArray, List.set_cons_zero, List.set_cons_succ])
        (refine seq_pure (v := ?_) (by rfl) ?_ ?_; rotate_left; (· (intro w' hS; obtain ⟨k0, k1, k2, k3, k4⟩ := CU.out _ hS; obtain ⟨j0, j1, j2, j3, j4⟩ := CV.out _ hS; obtain ⟨z0, z1⟩ := CZ.out _ hS; go_simp; try with_reducible rfl)); simp only [Act.put, List.setIfInBounds_toArray, List.set_cons_zero, List.set_cons_succ])
        refine seq_call (f := 12) (args := #[.slice A2 lx c2, .slice A3 ly c3]) (v := .bool (true && true)) (by rfl) ?_ ?_ ?_
        · intro w' hS; go_simp
        · intro w' hS; exact CS1.out _ hS
        simp only [Act.put, List.setIfInBounds_toArray, List.set_cons_zero, List.set_cons_succ]
        simp only [Bool.true_and, Bool.false_and]
        (refine seq_pure (v := ?_) (by rfl) ?_ ?_; rotate_left; (· (intro w' hS; obtain ⟨k0, k1, k2, k3, k4⟩ := CU.out _ hS; obtain ⟨j0, j1, j2, j3, j4⟩ := CV.out _ hS; obtain ⟨z0, z1⟩ := CZ.out _ hS; go_simp; try with_reducible rfl)); simp only [Act.put, List.setIfInBounds_toArray, List.set_cons_zero, List.set_cons_succ])
        (refine seq_pure (v := ?_) (by rfl) ?_ ?_; rotate_left; (· (intro w' hS; obtain ⟨k0, k1, k2, k3, k4⟩ := CU.out _ hS; obtain ⟨j0, j1, j2, j3, j4⟩ := CV.out _ hS; obtain ⟨z0, z1⟩ := CZ.out _ hS; go_simp; try with_reducible rfl)); simp only [Act.put, List.setIfInBounds_toArray, List.set_cons_zero, List.set_cons_succ])
        (refine seq_pure (v := ?_) (by rfl) ?_ ?_; rotate_left; (· (intro w' hS; obtain ⟨k0, k1, k2, k3, k4⟩ := CU.out _ hS; obtain ⟨j0, j1, j2, j3, j4⟩ := CV.out _ hS; obtain ⟨z0, z1⟩ := CZ.out _ hS; go_simp; try with_reducible rfl)); simp only [Act.put, List.setIfInBounds_toArray, List.set_cons_zero, List.set_cons_succ])
        (refine seq_pure (v := ?_) (by rfl) ?_ ?_; rotate_left; (· (intro w' hS; obtain ⟨k0, k1, k2, k3, k4⟩ := CU.out _ hS; obtain ⟨j0, j1, j2, j3, j4⟩ := CV.out _ hS; obtain ⟨z0, z1⟩ := CZ.out _ hS; go_simp; try with_reducible rfl)); simp only [Act.put, List.setIfInBounds_toArray, List.set_cons_zero, List.set_cons_succ])
        (refine seq_pure (v := ?_) (by rfl) ?_ ?_; rotate_left; (· (intro w' hS; obtain ⟨k0, k1, k2, k3, k4⟩ := CU.out _ hS; obtain ⟨j0, j1, j2, j3, j4⟩ := CV.out _ hS; obtain ⟨z0, z1⟩ := CZ.out _ hS; go_simp; try with_reducible rfl)); simp only [Act.put, List.setIfInBounds_toArray, List.set_cons_zero, List.set_cons_succ])
        (refine seq_pure (v := ?_) (by rfl) ?_ ?_; rotate_left; (· (intro w' hS; obtain ⟨k0, k1, k2, k3, k4⟩ := CU.out _ hS; obtain ⟨j0, j1, j2, j3, j4⟩ := CV.out _ hS; obtain ⟨z0, z1⟩ := CZ.out _ hS; go_simp; try with_reducible rfl)); simp only [Act.put, List.setIfInBounds_toArray, List.set_cons_zero, List.set_cons_succ])
        (refine seq_pure (v := ?_) (by rfl) ?_ ?_; rotate_left; (· (intro w' hS; obtain ⟨k0, k1, k2, k3, k4⟩ := CU.out _ hS; obtain ⟨j0, j1, j2, j3, j4⟩ := CV.out _ hS; obtain ⟨z0, z1⟩ := CZ.out _ hS; go_simp; try with_reducible rfl)); simp only [Act.put, List.setIfInBounds_toArray, List.set_cons_zero, List.set_cons_succ])
        (refine seq_pure (v := ?_) (by rfl) ?_ ?_; rotate_left; (· (intro w' hS; obtain ⟨k0, k1, k2, k3, k4⟩ := CU.out _ hS; obtain ⟨j0, j1, j2, j3, j4⟩ := CV.out _ hS; obtain ⟨z0, z1⟩ := CZ.out _ hS; go_simp; try with_reducible rfl)); simp only [Act.put, List.setIfInBounds_toArray, List.set_cons_zero, List.set_cons_succ])
        refine seq_call (f := 12) (args := #[.slice A n c, .slice B m d]) (v := .bool true) (by rfl) ?_ ?_ ?_
        · intro w' hS; go_simp
        · intro w' hS; exact CS2.out _ hS
        simp only [Act.put, List.setIfInBounds_toArray, List.set_cons_zero, List.set_cons_succ]
        (refine seq_pure (v := ?_) (by rfl) ?_ ?_; rotate_left; (· (intro w' hS; obtain ⟨k0, k1, k2, k3, k4⟩ := CU.out _ hS; obtain ⟨j0, j1, j2, j3, j4⟩ := CV.out _ hS; obtain ⟨z0, z1⟩ := CZ.out _ hS; go_simp; try with_reducible rfl)); simp only [Act.put, List.setIfInBounds_toArray, List.set_cons_zero, List.set_cons_succ])
        (refine seq_pure (v := ?_) (by rfl) ?_ ?_; rotate_left; (· (intro w' hS; obtain ⟨k0, k1, k2, k3, k4⟩ := CU.out _ hS; obtain ⟨j0, j1, j2, j3, j4⟩ := CV.out _ hS; obtain ⟨z0, z1⟩ := CZ.out _ hS; go_simp; try with_reducible rfl)); simp only [Act.put, List.setIfInBounds_toArray, List.set_cons_zero, List.set_cons_succ])
        (refine seq_pure (v := ?_) (by rfl) ?_ ?_; rotate_left; (· (intro w' hS; obtain ⟨k0, k1, k2, k3, k4⟩ := CU.out _ hS; obtain ⟨j0, j1, j2, j3, j4⟩ := CV.out _ hS; obtain ⟨z0, z1⟩ := CZ.out _ hS; go_simp; try with_reducible rfl)); simp only [Act.put, List.setIfInBounds_toArray, List.set_cons_zero, List.set_cons_succ])
        (refine seq_pure (v := ?_) (by rfl) ?_ ?_; rotate_left; (· (intro w' hS; obtain ⟨k0, k1, k2, k3, k4⟩ := CU.out _ hS; obtain ⟨j0, j1, j2, j3, j4⟩ := CV.out _ hS; obtain ⟨z0, z1⟩ := CZ.out _ hS; go_simp; try with_reducible rfl)); simp only [Act.put, List.setIfInBounds_toArray, List.set_cons_zero, List.set_cons_succ])
        (refine seq_pure (v := ?_) (by rfl) ?_ ?_; rotate_left; (· (intro w' hS; obtain ⟨k0, k1, k2, k3, k4⟩ := CU.out _ hS; obtain ⟨j0, j1, j2, j3, j4⟩ := CV.out _ hS; obtain ⟨z0, z1⟩ := CZ.out _ hS; go_simp; try with_reducible rfl)); simp only [Act.put, List.setIfInBounds_toArray, List.set_cons_zero, List.set_cons_succ])
        (refine seq_pure (v := ?_) (by rfl) ?_ ?_; rotate_left; (· (intro w' hS; obtain ⟨k0, k1, k2, k3, k4⟩ := CU.out _ hS; obtain ⟨j0, j1, j2, j3, j4⟩ := CV.out _ hS; obtain ⟨z0, z1⟩ := CZ.out _ hS; go_simp; try with_reducible rfl)); simp only [Act.put, List.setIfInBounds_toArray, List.set_cons_zero, List.set_cons_succ])
        (refine seq_pure (v := ?_) (by rfl) ?_ ?_; rotate_left; (· (intro w' hS; obtain ⟨k0, k1, k2, k3, k4⟩ := CU.out _ hS; obtain ⟨j0, j1, j2, j3, j4⟩ := CV.out _ hS; obtain ⟨z0, z1⟩ := CZ.out _ hS; go_simp; try with_reducible rfl)); simp only [Act.put, List.setIfInBounds_toArray, List.set_cons_zero, List.set_cons_succ])
        (refine seq_pure (v := ?_) (by rfl) ?_ ?_; rotate_left; (· (intro w' hS; obtain ⟨k0, k1, k2, k3, k4⟩ := CU.out _ hS; obtain ⟨j0, j1, j2, j3, j4⟩ := CV.out _ hS; obtain ⟨z0, z1⟩ := CZ.out _ hS; go_simp; try with_reducible rfl)); simp only [Act.put, List.setIfInBounds_toArray, List.set_cons_zero, List.set_cons_succ])
        (refine seq_pure (v := ?_) (by rfl) ?_ ?_; rotate_left; (· (intro w' hS; obtain ⟨k0, k1, k2, k3, k4⟩ := CU.out _ hS; obtain ⟨j0, j1, j2, j3, j4⟩ := CV.out _ hS; obtain ⟨z0, z1⟩ := CZ.out _ hS; go_simp; try with_reducible rfl)); simp only [Act.put, List.setIfInBounds_toArray, List.set_cons_zero, List.set_cons_succ])
        (refine seq_pure (v := ?_) (by rfl) ?_ ?_; rotate_left; (· (intro w' hS; obtain ⟨k0, k1, k2, k3, k4⟩ := CU.out _ hS; obtain ⟨j0, j1, j2, j3, j4⟩ := CV.out _ hS; obtain ⟨z0, z1⟩ := CZ.out _ hS; go_simp; try with_reducible rfl)); simp only [Act.put, List.setIfInBounds_toArray, List.set_cons_zero, List.set_cons_succ])
        (refine seq_pure (v := ?_) (by rfl) ?_ ?_; rotate_left; (· (intro w' hS; obtain ⟨k0, k1, k2, k3, k4⟩ := CU.out _ hS; obtain ⟨j0, j1, j2, j3, j4⟩ := CV.out _ hS; obtain ⟨z0, z1⟩ := CZ.out _ hS; go_simp; try with_reducible rfl)); simp only [Act.put, List.setIfInBounds_toArray, List.set_cons_zero, List.set_cons_succ])
        (refine seq_pure (v := ?_) (by rfl) ?_ ?_; rotate_left; (· (intro w' hS; obtain ⟨k0, k1, k2, k3, k4⟩ := CU.out _ hS; obtain ⟨j0, j1, j2, j3, j4⟩ := CV.out _ hS; obtain ⟨z0, z1⟩ := CZ.out _ hS; go_simp; try with_reducible rfl)); simp only [Act.put, List.setIfInBounds_toArray, List.set_cons_zero, List.set_cons_succ])
        refine seq_nil ?_
        intro w8 s8
        have B8 := Lib.hid (GR.out _ _ B7.out s8)
        clear s8
        go_wp2
        go_ret
        exact ⟨rfl, B8.out⟩
  exact go.mono fun e w' q => ⟨q.1, by rw [← HN.out]; exact q.2⟩
end Go.Proofs.YtnoflgkjdibblaaDoor.S21
