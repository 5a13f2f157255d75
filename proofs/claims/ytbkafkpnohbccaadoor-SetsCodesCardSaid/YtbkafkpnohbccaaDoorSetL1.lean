/-
  The call of the statement SetsTell of layer 8.
-/
import Derived.Test.YtbkafkpnohbccaaDoorSetE
import Derived.Test.YtbkafkpnohbccaaDoorSetR
import Derived.Test.YtbkafkpnohbccaaDoorSteady
namespace Go.Proofs.YtbkafkpnohbccaaDoor.S8
set_option linter.unusedSimpArgs false
set_option linter.unusedVariables false
open Go.RowKit S7

theorem keepS {w' : World} {g0 g1 g2 g3 g4 g5 : Nat} {o0 o1 o2 o3 o4 o5 t0 t1 t2 t3 x0 x1 x2 x3 x4 x5 y0 y1 y2 y3 : Int} (h0 : Bk w' g0 24 #[.int .u32 o0, .int .i64 o1, .int .i64 o2, .int .i64 o3, .int .i64 o4, .int .i64 o5]) (h1 : Bk w' g1 26 #[.int .u32 t0, .int .i64 t1, .int .i64 t2, .int .i64 t3])
    (h2 : Bk w' g2 24 #[.int .u32 x0, .int .i64 x1, .int .i64 x2, .int .i64 x3, .int .i64 x4, .int .i64 x5]) (h3 : Bk w' g3 24 #[.int .u32 x0, .int .i64 x1, .int .i64 x2, .int .i64 x3, .int .i64 x4, .int .i64 x5]) (h4 : Bk w' g4 26 #[.int .u32 y0, .int .i64 y1, .int .i64 y2, .int .i64 y3]) (h5 : Bk w' g5 26 #[.int .u32 y0, .int .i64 y1, .int .i64 y2, .int .i64 y3]) :
    w'.cell? ⟨g0, 0, none⟩ = some (.int .u32 o0) ∧ w'.cell? ⟨g0, 1, none⟩ = some (.int .i64 o1) ∧ w'.cell? ⟨g0, 2, none⟩ = some (.int .i64 o2) ∧ w'.cell? ⟨g0, 3, none⟩ = some (.int .i64 o3) ∧ w'.cell? ⟨g0, 4, none⟩ = some (.int .i64 o4) ∧ w'.cell? ⟨g0, 5, none⟩ = some (.int .i64 o5) ∧ w'.cell? ⟨g1, 0, none⟩ = some (.int .u32 t0) ∧ w'.cell? ⟨g1, 1, none⟩ = some (.int .i64 t1) ∧ w'.cell? ⟨g1, 2, none⟩ = some (.int .i64 t2) ∧ w'.cell? ⟨g1, 3, none⟩ = some (.int .i64 t3) ∧ w'.cell? ⟨g2, 0, none⟩ = some (.int .u32 x0) ∧ w'.cell? ⟨g2, 1, none⟩ = some (.int .i64 x1) ∧ w'.cell? ⟨g2, 2, none⟩ = some (.int .i64 x2) ∧ w'.cell? ⟨g2, 3, none⟩ = some (.int .i64 x3) ∧ w'.cell? ⟨g2, 4, none⟩ = some (.int .i64 x4) ∧ w'.cell? ⟨g2, 5, none⟩ = some (.int .i64 x5) ∧ w'.cell? ⟨g3, 0, none⟩ = some (.int .u32 x0) ∧ w'.cell? ⟨g3, 1, none⟩ = some (.int .i64 x1) ∧ w'.cell? ⟨g3, 2, none⟩ = some (.int .i64 x2) ∧ w'.cell? ⟨g3, 3, none⟩ = some (.int .i64 x3) ∧ w'.cell? ⟨g3, 4, none⟩ = some (.int .i64 x4) ∧ w'.cell? ⟨g3, 5, none⟩ = some (.int .i64 x5) ∧ w'.cell? ⟨g4, 0, none⟩ = some (.int .u32 y0) ∧ w'.cell? ⟨g4, 1, none⟩ = some (.int .i64 y1) ∧ w'.cell? ⟨g4, 2, none⟩ = some (.int .i64 y2) ∧ w'.cell? ⟨g4, 3, none⟩ = some (.int .i64 y3) ∧ w'.cell? ⟨g5, 0, none⟩ = some (.int .u32 y0) ∧ w'.cell? ⟨g5, 1, none⟩ = some (.int .i64 y1) ∧ w'.cell? ⟨g5, 2, none⟩ = some (.int .i64 y2) ∧ w'.cell? ⟨g5, 3, none⟩ = some (.int .i64 y3) :=
  ⟨h0.cell 0, h0.cell 1, h0.cell 2, h0.cell 3, h0.cell 4, h0.cell 5, h1.cell 0, h1.cell 1, h1.cell 2, h1.cell 3, h2.cell 0, h2.cell 1, h2.cell 2, h2.cell 3, h2.cell 4, h2.cell 5, h3.cell 0, h3.cell 1, h3.cell 2, h3.cell 3, h3.cell 4, h3.cell 5, h4.cell 0, h4.cell 1, h4.cell 2, h4.cell 3, h5.cell 0, h5.cell 1, h5.cell 2, h5.cell 3⟩
/-- What every world of the question's last region meets. -/
structure ST (M : SC) (W : World) (g2 g3 g4 g5 : Nat) (o0 o1 o2 o3 o4 o5 t0 t1 t2 t3 x0 x1 x2 x3 x4 x5 y0 y1 y2 y3 : Int) (w' : World) : Prop where
  ok : M.ok w'
  bel : Below W.heap.size W w'
  b0 : Bk w' W.heap.size 24 #[.int .u32 o0, .int .i64 o1, .int .i64 o2, .int .i64 o3, .int .i64 o4, .int .i64 o5]
  b1 : Bk w' (W.heap.size + 1) 26 #[.int .u32 t0, .int .i64 t1, .int .i64 t2, .int .i64 t3]
  b2 : Bk w' g2 24 #[.int .u32 x0, .int .i64 x1, .int .i64 x2, .int .i64 x3, .int .i64 x4, .int .i64 x5]
  b3 : Bk w' g3 24 #[.int .u32 x0, .int .i64 x1, .int .i64 x2, .int .i64 x3, .int .i64 x4, .int .i64 x5]
  b4 : Bk w' g4 26 #[.int .u32 y0, .int .i64 y1, .int .i64 y2, .int .i64 y3]
  b5 : Bk w' g5 26 #[.int .u32 y0, .int .i64 y1, .int .i64 y2, .int .i64 y3]
theorem ST.next {M : SC} {W : World} {g2 g3 g4 g5 : Nat} {o0 o1 o2 o3 o4 o5 t0 t1 t2 t3 x0 x1 x2 x3 x4 x5 y0 y1 y2 y3 : Int} {w' w'' : World} (h : ST M W g2 g3 g4 g5 o0 o1 o2 o3 o4 o5 t0 t1 t2 t3 x0 x1 x2 x3 x4 x5 y0 y1 y2 y3 w') (hb : Below w'.heap.size w' w'') : ST M W g2 g3 g4 g5 o0 o1 o2 o3 o4 o5 t0 t1 t2 t3 x0 x1 x2 x3 x4 x5 y0 y1 y2 y3 w'' :=
  ⟨M.bel h.ok hb, h.bel.trans (hb.mono h.bel.size), h.b0.below hb h.b0.lt, h.b1.below hb h.b1.lt, h.b2.below hb h.b2.lt, h.b3.below hb h.b3.lt, h.b4.below hb h.b4.lt, h.b5.below hb h.b5.lt⟩
set_option maxRecDepth 100000 in
set_option maxHeartbeats 4000000 in
theorem setsTell_walk (M : SC) (W : World) (hk : M.ok W) (q : Int) (wq : (Lit.int .u32 q).wf = true) (o0 o1 o2 o3 o4 o5 t0 t1 t2 t3 : Int) :
    Calls Tryd.prog 3 #[.int .u32 q, .agg #[.int .u32 o0, .int .i64 o1, .int .i64 o2, .int .i64 o3, .int .i64 o4, .int .i64 o5], .agg #[.int .u32 t0, .int .i64 t1, .int .i64 t2, .int .i64 t3]] W fun e w' => e = .returned (.bool true) ∧ Below W.heap.size W w' := by
  have wq' : 0 ≤ q ∧ q ≤ 4294967295 := by simpa [Lit.wf, IntKind.min, IntKind.max, IntKind.signed, IntKind.bits] using wq
  obtain ⟨Q, rfl⟩ := Int.eq_ofNat_of_zero_le wq'.1
  have hQ : Q < 4294967296 := by omega
  clear wq wq'
  have HK := Lib.hid hk
  clear hk
  obtain ⟨x0, x1, x2, x3, x4, x5, hx⟩ := otsA_form Q
  obtain ⟨y0, y1, y2, y3, hy⟩ := treeA_form Q
  obtain ⟨E, hE⟩ : ∃ E, E = otsE Q := ⟨_, rfl⟩
  obtain ⟨F, hF⟩ : ∃ F, F = treeE Q := ⟨_, rfl⟩
  obtain ⟨L, hL⟩ : ∃ L, L = lvs t3 := ⟨_, rfl⟩
  have H1 := Lib.hid (show ∀ X, M.ok X → Calls Tryd.prog 9 #[.int .u32 (Q : Int)] X fun e w' => e = .returned (.tuple #[.agg #[.int .u32 x0, .int .i64 x1, .int .i64 x2, .int .i64 x3, .int .i64 x4, .int .i64 x5], .int .i64 (E : Int)]) ∧ Below X.heap.size X w' from fun X g => by rw [hE]; have h := M.ots Q X hQ g; rw [hx] at h; exact h)
  have H2 := Lib.hid (show ∀ X, Calls Tryd.prog 10 #[.int .u32 (Q : Int)] X fun e w' => e = .returned (.tuple #[.agg #[.int .u32 x0, .int .i64 x1, .int .i64 x2, .int .i64 x3, .int .i64 x4, .int .i64 x5], .int .i64 (E : Int)]) ∧ Below X.heap.size X w' from fun X => by rw [hE]; have h := rots_any Q hQ X; rw [hx] at h; exact h)
  have H3 := Lib.hid (show ∀ X, M.ok X → Calls Tryd.prog 11 #[.int .u32 (Q : Int)] X fun e w' => e = .returned (.tuple #[.agg #[.int .u32 y0, .int .i64 y1, .int .i64 y2, .int .i64 y3], .int .i64 (F : Int)]) ∧ Below X.heap.size X w' from fun X g => by rw [hF]; have h := M.tree Q X hQ g; rw [hy] at h; exact h)
  have H4 := Lib.hid (show ∀ X, Calls Tryd.prog 12 #[.int .u32 (Q : Int)] X fun e w' => e = .returned (.tuple #[.agg #[.int .u32 y0, .int .i64 y1, .int .i64 y2, .int .i64 y3], .int .i64 (F : Int)]) ∧ Below X.heap.size X w' from fun X => by rw [hF]; have h := rtree_any Q hQ X; rw [hy] at h; exact h)
  have H5 := Lib.hid (show ∀ X, M.ok X → Calls Tryd.prog 14 #[.agg #[.int .u32 t0, .int .i64 t1, .int .i64 t2, .int .i64 t3]] X fun e w' => e = .returned (.int .u64 (L : Int)) ∧ Below X.heap.size X w' from fun X g => by rw [hL]; exact M.leaves t0 t1 t2 t3 X g)
  have H6 := Lib.hid (show ∀ X, Calls Tryd.prog 15 #[.agg #[.int .u32 t0, .int .i64 t1, .int .i64 t2, .int .i64 t3]] X fun e w' => e = .returned (.int .u64 (L : Int)) ∧ Below X.heap.size X w' from fun X => by rw [hL]; exact rleaves_any t0 t1 t2 t3 X)
  obtain ⟨r1, hr1⟩ : ∃ r, r = (o1 == t1) := ⟨_, rfl⟩
  obtain ⟨r2, hr2⟩ : ∃ r, r = (o2 == t2) := ⟨_, rfl⟩
  have H7 := Lib.hid (show ∀ X, M.ok X → Calls Tryd.prog 13 #[.agg #[.int .u32 o0, .int .i64 o1, .int .i64 o2, .int .i64 o3, .int .i64 o4, .int .i64 o5], .agg #[.int .u32 t0, .int .i64 t1, .int .i64 t2, .int .i64 t3]] X fun e w' => e = .returned (.bool (r1 && r2)) ∧ Below X.heap.size X w' from fun X g => by rw [hr1, hr2]; exact M.fit o0 o1 o2 o3 o4 o5 t0 t1 t2 t3 X g)
  have e1 : ∀ X, (binOp .eql 24 (.agg #[.int .u32 x0, .int .i64 x1, .int .i64 x2, .int .i64 x3, .int .i64 x4, .int .i64 x5]) (.agg #[.int .u32 x0, .int .i64 x1, .int .i64 x2, .int .i64 x3, .int .i64 x4, .int .i64 x5])).run Tryd.prog X = .ok (.bool true) X := fun X => by have h := eql_ots x0 x1 x2 x3 x4 x5 x0 x1 x2 x3 x4 x5 X; simpa [otsV] using h
  have e2 : ∀ X, (binOp .eql 26 (.agg #[.int .u32 y0, .int .i64 y1, .int .i64 y2, .int .i64 y3]) (.agg #[.int .u32 y0, .int .i64 y1, .int .i64 y2, .int .i64 y3])).run Tryd.prog X = .ok (.bool true) X := fun X => by have h := eql_tree y0 y1 y2 y3 y0 y1 y2 y3 X; simpa [treeV] using h
  have e3 : ∀ X x y, (eqGuard .eql 24 x y (.agg #[.int .u32 x0, .int .i64 x1, .int .i64 x2, .int .i64 x3, .int .i64 x4, .int .i64 x5]) (.agg #[.int .u32 x0, .int .i64 x1, .int .i64 x2, .int .i64 x3, .int .i64 x4, .int .i64 x5])).run Tryd.prog X = .ok () X := fun X x y => guard_ots x0 x1 x2 x3 x4 x5 x0 x1 x2 x3 x4 x5 x y X
  have e4 : ∀ X x y, (eqGuard .eql 26 x y (.agg #[.int .u32 y0, .int .i64 y1, .int .i64 y2, .int .i64 y3]) (.agg #[.int .u32 y0, .int .i64 y1, .int .i64 y2, .int .i64 y3])).run Tryd.prog X = .ok () X := fun X x y => guard_tree y0 y1 y2 y3 y0 y1 y2 y3 x y X
  have z1 : ((E : Int) == (E : Int)) = true := by simp
  have z2 : ((F : Int) == (F : Int)) = true := by simp
  have z3 : ((L : Int) == (L : Int)) = true := by simp
  have b0 := Bk.new W 24 #[.int .u32 o0, .int .i64 o1, .int .i64 o2, .int .i64 o3, .int .i64 o4, .int .i64 o5]
  have b1 := Bk.newAt (W.alloc (.cells #[.int .u32 o0, .int .i64 o1, .int .i64 o2, .int .i64 o3, .int .i64 o4, .int .i64 o5] 24)) 26 #[.int .u32 t0, .int .i64 t1, .int .i64 t2, .int .i64 t3] (W.heap.size + 1) (by simp)
  have b0' := b0.alloc (.cells #[.int .u32 t0, .int .i64 t1, .int .i64 t2, .int .i64 t3] 26)
  have B0 := Lib.hid (show Below W.heap.size W ((W.alloc (.cells #[.int .u32 o0, .int .i64 o1, .int .i64 o2, .int .i64 o3, .int .i64 o4, .int .i64 o5] 24)).alloc (.cells #[.int .u32 t0, .int .i64 t1, .int .i64 t2, .int .i64 t3] 26)) from ((Below.refl _ _).alloc (Nat.le_refl _) _).alloc (by simp) _)
  have P0 := Lib.hid b0'
  have P1 := Lib.hid b1
  clear b0 b1 b0' hx hy hE hF hL
  go_enter Tryd.func3, Tryd.ntmps3
  go_wp2_with (first
    | (go_at_call 8; ((with_reducible refine (awake_true M _ (M.bel HK.out B0.out)).mono ?_); rintro e w1 ⟨rfl, c1⟩; have B1 := Lib.hid (B0.out.trans (c1.mono B0.out.size)); have O1 := Lib.hid (P0.out.below c1 P0.out.lt); have T1 := Lib.hid (P1.out.below c1 P1.out.lt); clear c1))
    | (go_at_call 9; ((with_reducible refine (H1.out _ (M.bel HK.out B1.out)).mono ?_); rintro e w2 ⟨rfl, c2⟩; have B2 := Lib.hid (B1.out.trans (c2.mono B1.out.size)); have O2 := Lib.hid (O1.out.below c2 O1.out.lt); have T2 := Lib.hid (T1.out.below c2 T1.out.lt); have X2 := Lib.hid (Bk.new w2 24 #[.int .u32 x0, .int .i64 x1, .int .i64 x2, .int .i64 x3, .int .i64 x4, .int .i64 x5]); clear c2))
    | (go_at_call 10; ((with_reducible refine (H2.out _).mono ?_); rintro e w3 ⟨rfl, c3⟩; have B3 := Lib.hid ((B2.out.alloc B2.out.size _).trans (c3.mono (by have := B2.out.size; simp; omega))); have O3 := Lib.hid ((O2.out.alloc _).below c3 (O2.out.alloc _).lt); have T3 := Lib.hid ((T2.out.alloc _).below c3 (T2.out.alloc _).lt); have X3 := Lib.hid (X2.out.below c3 X2.out.lt); have Y3 := Lib.hid (Bk.new w3 24 #[.int .u32 x0, .int .i64 x1, .int .i64 x2, .int .i64 x3, .int .i64 x4, .int .i64 x5]); clear c3))
    | (go_at_call 11; ((with_reducible refine (H3.out _ (M.bel HK.out (B3.out.alloc B3.out.size _))).mono ?_); rintro e w4 ⟨rfl, c4⟩; have B4 := Lib.hid ((B3.out.alloc B3.out.size _).trans (c4.mono (by have := B3.out.size; simp; omega))); have O4 := Lib.hid ((O3.out.alloc _).below c4 (O3.out.alloc _).lt); have T4 := Lib.hid ((T3.out.alloc _).below c4 (T3.out.alloc _).lt); have X4 := Lib.hid ((X3.out.alloc _).below c4 (X3.out.alloc _).lt); have Y4 := Lib.hid (Y3.out.below c4 Y3.out.lt); have U4 := Lib.hid (Bk.new w4 26 #[.int .u32 y0, .int .i64 y1, .int .i64 y2, .int .i64 y3]); clear c4))
    | (go_at_call 12; ((with_reducible refine (H4.out _).mono ?_); rintro e w5 ⟨rfl, c5⟩; have B5 := Lib.hid ((B4.out.alloc B4.out.size _).trans (c5.mono (by have := B4.out.size; simp; omega))); have O5 := Lib.hid ((O4.out.alloc _).below c5 (O4.out.alloc _).lt); have T5 := Lib.hid ((T4.out.alloc _).below c5 (T4.out.alloc _).lt); have X5 := Lib.hid ((X4.out.alloc _).below c5 (X4.out.alloc _).lt); have Y5 := Lib.hid ((Y4.out.alloc _).below c5 (Y4.out.alloc _).lt); have U5 := Lib.hid (U4.out.below c5 U4.out.lt); have V5 := Lib.hid (Bk.new w5 26 #[.int .u32 y0, .int .i64 y1, .int .i64 y2, .int .i64 y3]); clear c5)))
  obtain ⟨w6, hw6⟩ : ∃ w6, w5.alloc (.cells #[.int .u32 y0, .int .i64 y1, .int .i64 y2, .int .i64 y3] 26) = w6 := ⟨_, rfl⟩
  obtain ⟨g2, hg2⟩ : ∃ g, g = w2.heap.size := ⟨_, rfl⟩
  obtain ⟨g3, hg3⟩ : ∃ g, g = w3.heap.size := ⟨_, rfl⟩
  obtain ⟨g4, hg4⟩ : ∃ g, g = w4.heap.size := ⟨_, rfl⟩
  obtain ⟨g5, hg5⟩ : ∃ g, g = w5.heap.size := ⟨_, rfl⟩
  have s6 : ST M W g2 g3 g4 g5 o0 o1 o2 o3 o4 o5 t0 t1 t2 t3 x0 x1 x2 x3 x4 x5 y0 y1 y2 y3 w6 := by
    rw [← hw6, hg2, hg3, hg4, hg5]
    exact ⟨M.bel HK.out (B5.out.alloc B5.out.size _), B5.out.alloc B5.out.size _, O5.out.alloc _, T5.out.alloc _, X5.out.alloc _, Y5.out.alloc _, U5.out.alloc _, V5.out⟩
  rw [hw6, ← hg2, ← hg3, ← hg4, ← hg5]
  clear hw6 hg2 hg3 hg4 hg5 B0 B1 B2 B3 B4 B5 P0 P1 O1 O2 O3 O4 O5 T1 T2 T3 T4 T5 X2 X3 X4 X5 Y3 Y4 Y5 U4 U5 V5 H1 H2 H3 H4
  replace hr1 := hr1.symm
  replace hr2 := hr2.symm
  have z4 : (r2 == r2) = true := by simp
  refine wp_region_steady (ST M W g2 g3 g4 g5 o0 o1 o2 o3 o4 o5 t0 t1 t2 t3 x0 x1 x2 x3 x4 x5 y0 y1 y2 y3) (by kernel_rfl) (by kernel_rfl) (s6.next (Below.refl _ _).drew) ?_
  clear s6
  cases hr : r1
  · rw [hr] at hr1 H7
    clear hr
    simp only [Bool.false_and] at H7
    repeat (first | (refine seq_pure (v := ?_) (by rfl) ?_ ?_; rotate_left; (· (intro w' hS; have hC := keepS hS.b0 hS.b1 hS.b2 hS.b3 hS.b4 hS.b5; go_simp; try with_reducible rfl)); simp only [Act.put, List.setIfInBounds_toArray, List.set_cons_zero, List.set_cons_succ]) | (refine seq_skip (by rfl) ?_; simp only [Act.put, List.setIfInBounds_toArray, List.set_cons_zero, List.set_cons_succ]) | fail)
    refine seq_call (f := 13) (args := #[.agg #[.int .u32 o0, .int .i64 o1, .int .i64 o2, .int .i64 o3, .int .i64 o4, .int .i64 o5], .agg #[.int .u32 t0, .int .i64 t1, .int .i64 t2, .int .i64 t3]]) (v := .bool false) (by rfl) ?_ ?_ ?_
    · intro w' hS; go_simp
    · intro w' hS; exact (H7.out _ hS.ok).mono fun e w'' ⟨h1, h2⟩ => ⟨h1, hS.next h2⟩
    simp only [Act.put, List.setIfInBounds_toArray, List.set_cons_zero, List.set_cons_succ]
    repeat (first | (refine seq_pure (v := ?_) (by rfl) ?_ ?_; rotate_left; (· (intro w' hS; have hC := keepS hS.b0 hS.b1 hS.b2 hS.b3 hS.b4 hS.b5; go_simp; try with_reducible rfl)); simp only [Act.put, List.setIfInBounds_toArray, List.set_cons_zero, List.set_cons_succ]) | (refine seq_skip (by rfl) ?_; simp only [Act.put, List.setIfInBounds_toArray, List.set_cons_zero, List.set_cons_succ]) | fail)
    refine seq_call (f := 14) (args := #[.agg #[.int .u32 t0, .int .i64 t1, .int .i64 t2, .int .i64 t3]]) (v := .int .u64 (L : Int)) (by rfl) ?_ ?_ ?_
    · intro w' hS; go_simp
    · intro w' hS; exact (H5.out _ hS.ok).mono fun e w'' ⟨h1, h2⟩ => ⟨h1, hS.next h2⟩
    simp only [Act.put, List.setIfInBounds_toArray, List.set_cons_zero, List.set_cons_succ]
    repeat (first | (refine seq_pure (v := ?_) (by rfl) ?_ ?_; rotate_left; (· (intro w' hS; have hC := keepS hS.b0 hS.b1 hS.b2 hS.b3 hS.b4 hS.b5; go_simp; try with_reducible rfl)); simp only [Act.put, List.setIfInBounds_toArray, List.set_cons_zero, List.set_cons_succ]) | (refine seq_skip (by rfl) ?_; simp only [Act.put, List.setIfInBounds_toArray, List.set_cons_zero, List.set_cons_succ]) | fail)
    refine seq_call (f := 15) (args := #[.agg #[.int .u32 t0, .int .i64 t1, .int .i64 t2, .int .i64 t3]]) (v := .int .u64 (L : Int)) (by rfl) ?_ ?_ ?_
    · intro w' hS; go_simp
    · intro w' hS; exact (H6.out _).mono fun e w'' ⟨h1, h2⟩ => ⟨h1, hS.next h2⟩
    simp only [Act.put, List.setIfInBounds_toArray, List.set_cons_zero, List.set_cons_succ]
    repeat (first | (refine seq_pure (v := ?_) (by rfl) ?_ ?_; rotate_left; (· (intro w' hS; have hC := keepS hS.b0 hS.b1 hS.b2 hS.b3 hS.b4 hS.b5; go_simp; try with_reducible rfl)); simp only [Act.put, List.setIfInBounds_toArray, List.set_cons_zero, List.set_cons_succ]) | (refine seq_skip (by rfl) ?_; simp only [Act.put, List.setIfInBounds_toArray, List.set_cons_zero, List.set_cons_succ]) | fail)
    refine seq_nil ?_
    intro w9 s9
    go_wp2
    go_ret
    exact ⟨rfl, s9.bel⟩
  · rw [hr] at hr1 H7
    clear hr
    simp only [Bool.true_and] at H7
    repeat (first | (refine seq_pure (v := ?_) (by rfl) ?_ ?_; rotate_left; (· (intro w' hS; have hC := keepS hS.b0 hS.b1 hS.b2 hS.b3 hS.b4 hS.b5; go_simp; try with_reducible rfl)); simp only [Act.put, List.setIfInBounds_toArray, List.set_cons_zero, List.set_cons_succ]) | (refine seq_skip (by rfl) ?_; simp only [Act.put, List.setIfInBounds_toArray, List.set_cons_zero, List.set_cons_succ]) | fail)
    refine seq_call (f := 13) (args := #[.agg #[.int .u32 o0, .int .i64 o1, .int .i64 o2, .int .i64 o3, .int .i64 o4, .int .i64 o5], .agg #[.int .u32 t0, .int .i64 t1, .int .i64 t2, .int .i64 t3]]) (v := .bool r2) (by rfl) ?_ ?_ ?_
    · intro w' hS; go_simp
    · intro w' hS; exact (H7.out _ hS.ok).mono fun e w'' ⟨h1, h2⟩ => ⟨h1, hS.next h2⟩
    simp only [Act.put, List.setIfInBounds_toArray, List.set_cons_zero, List.set_cons_succ]
    repeat (first | (refine seq_pure (v := ?_) (by rfl) ?_ ?_; rotate_left; (· (intro w' hS; have hC := keepS hS.b0 hS.b1 hS.b2 hS.b3 hS.b4 hS.b5; go_simp; try with_reducible rfl)); simp only [Act.put, List.setIfInBounds_toArray, List.set_cons_zero, List.set_cons_succ]) | (refine seq_skip (by rfl) ?_; simp only [Act.put, List.setIfInBounds_toArray, List.set_cons_zero, List.set_cons_succ]) | fail)
    refine seq_call (f := 14) (args := #[.agg #[.int .u32 t0, .int .i64 t1, .int .i64 t2, .int .i64 t3]]) (v := .int .u64 (L : Int)) (by rfl) ?_ ?_ ?_
    · intro w' hS; go_simp
    · intro w' hS; exact (H5.out _ hS.ok).mono fun e w'' ⟨h1, h2⟩ => ⟨h1, hS.next h2⟩
    simp only [Act.put, List.setIfInBounds_toArray, List.set_cons_zero, List.set_cons_succ]
    repeat (first | (refine seq_pure (v := ?_) (by rfl) ?_ ?_; rotate_left; (· (intro w' hS; have hC := keepS hS.b0 hS.b1 hS.b2 hS.b3 hS.b4 hS.b5; go_simp; try with_reducible rfl)); simp only [Act.put, List.setIfInBounds_toArray, List.set_cons_zero, List.set_cons_succ]) | (refine seq_skip (by rfl) ?_; simp only [Act.put, List.setIfInBounds_toArray, List.set_cons_zero, List.set_cons_succ]) | fail)
    refine seq_call (f := 15) (args := #[.agg #[.int .u32 t0, .int .i64 t1, .int .i64 t2, .int .i64 t3]]) (v := .int .u64 (L : Int)) (by rfl) ?_ ?_ ?_
    · intro w' hS; go_simp
    · intro w' hS; exact (H6.out _).mono fun e w'' ⟨h1, h2⟩ => ⟨h1, hS.next h2⟩
    simp only [Act.put, List.setIfInBounds_toArray, List.set_cons_zero, List.set_cons_succ]
    repeat (first | (refine seq_pure (v := ?_) (by rfl) ?_ ?_; rotate_left; (· (intro w' hS; have hC := keepS hS.b0 hS.b1 hS.b2 hS.b3 hS.b4 hS.b5; go_simp; try with_reducible rfl)); simp only [Act.put, List.setIfInBounds_toArray, List.set_cons_zero, List.set_cons_succ]) | (refine seq_skip (by rfl) ?_; simp only [Act.put, List.setIfInBounds_toArray, List.set_cons_zero, List.set_cons_succ]) | fail)
    refine seq_nil ?_
    intro w9 s9
    go_wp2
    go_ret
    exact ⟨rfl, s9.bel⟩
end Go.Proofs.YtbkafkpnohbccaaDoor.S8
