/-
  Texts put together: RvJ. No statement is proved here.
-/
import Derived.Test.YtnoflgkjdibblaaGreatDoorWb16

/-
  The document's own Retire. No statement is proved here. (Written by genrvj.py.)
-/
namespace Go.Proofs.YtnoflgkjdibblaaGreatDoor.S21
set_option linter.unusedSimpArgs false
set_option linter.unusedVariables false
set_option maxRecDepth 4096
open Go.RowKit S19 S20

/-- A counter as bytes, in new memory. -/
theorem bytes_call {w : World} {A : Option Addr} {n c : Nat} {hd : List UInt8} (hr : Rd w A n c hd) {y : Cn} (hm : y.May hd.length) (hf : y.Fit) :
    ∀ X, Below w.heap.size w X → Calls Tryz.prog 39 #[.agg y.cells, .slice A n c] X fun e w' => ∃ A' c', e = .returned (.tuple #[.slice A' (y.row hd).length c', .int .i64 0]) ∧ Rd w' A' (y.row hd).length c' (y.row hd) ∧ (∀ a, 0 < (y.row hd).length → A' = some a → w.heap.size ≤ a.block) ∧ Below X.heap.size X w' := fun X hX => by
  have hl := hr.len
  have hb : hd.length ≤ 200 := hm.2.2.2.2.2
  have h := rbytes21_any y A n c hd X hf (hr.below hX) (by omega)
  rw [show y.bytesC hd = 0 from if_pos hm, show y.bytesB hd = y.row hd from if_pos hm] at h
  exact h.mono fun e w' ⟨A', c', h1, h2, h3⟩ => ⟨A', c', h1, Rd.own h2, fun a h0 ha => by obtain ⟨g, hg, hg2⟩ := own_blk h2 h0; rw [hg] at ha; injection ha with ha; rw [← ha]; exact Nat.le_trans hX.size hg2, h3⟩
/-- A row that is new is saved. -/
theorem save_call {N : Nat} {w : World} {h q kc k : Nat} {L : Value} {D : Dk} {Z : Sl} {x : Cn} {hd row : List UInt8} {G S T K : Nat → Prop} (t : Qc N w h q kc L k D Z x hd G S T K) (hc : D.cnt < 1099511627000) (hk : k < 1000000) :
    ∀ X A' lr c', Below w.heap.size w X → Rd X A' lr c' row → (∀ a, 0 < lr → A' = some a → w.heap.size ≤ a.block) → Calls Tryz.prog 40 #[.pointer (some ⟨q, 0, none⟩), .slice A' lr c'] X fun e w' => e = .returned (.int .i64 (Z.saveC D row : Int)) ∧ (∃ L' k' G' S' T', k' ≤ k + 1 ∧ Qc N w' h q kc L' k' (Z.saveD D row) (Z.save D row) x hd G' S' T' K ∧ Sub3 G S T G' S' T' w.heap.size ∧ Mv N (Or3 G (fun x => x = q) T) w w') ∧ (∀ b, w.heap.size ≤ b → b < X.heap.size → w'.heap[b]? = X.heap[b]?) := fun X A' lr c' hX hR hA => by
  have tX := t.grow hX
  have hlt : ∀ b, Or3 G (fun x => x = q) T b → b < w.heap.size := fun b hb => by
    rcases hb with e | e | e
    · exact (t.qs.lt b (.inl e)).2
    · have e' : b = q := e; rw [e']; exact t.qs.rz.lt2
    · exact (t.qs.lt b (.inr (.inr e))).2
  have h := rsave20_any N X h q L k D Z G S T tX.qs A' lr c' row hR (fun a h0 ha hO => by have := hA a h0 ha; have := hlt _ hO; omega) hc hk
  exact h.mono fun e w' p => by
    obtain ⟨h1, L', k', G', S', T', h2, h3, h4, h5⟩ := tX.saved p
    exact ⟨h1, ⟨L', k', G', S', T', h2, h3, Sub3.mono h4 hX.size, (Mv.of (rk_loN t.qs.rk) hX).trans h5 fun b hb => .inl hb⟩, fun b h6 h7 => h5.same b h7 fun hO => by have := hlt b hO; omega⟩
set_option maxHeartbeats 8000000 in
theorem rretire21_any (N : Nat) (w : World) (h q kc : Nat) (L : Value) (k : Nat) (D : Dk) (Z : Sl) (x : Cn) (hd : List UInt8) (G S T K : Nat → Prop) (t : Qc N w h q kc L k D Z x hd G S T K) (ok : x.Ok hd.length) (hc : D.cnt < 1099511627000) (hk : k < 1000000) :
    Calls Tryz.prog 16 #[.pointer (some ⟨kc, 0, none⟩)] w fun e w' => e = .returned (.int .i64 (x.retC hd Z D : Int)) ∧ PostC N h q kc k hd G S T K w (x.retD hd Z D) (x.retZ hd Z D) (x.ret hd Z D) w' := by
  obtain ⟨A, c, hb, hr, hi⟩ := t.rc.ex
  have hNw : N ≤ w.heap.size := rk_loN t.qs.rk
  obtain ⟨n, hn⟩ : ∃ n, n = hd.length := ⟨_, rfl⟩
  have SAME := Lib.hid (show ∀ X, Below w.heap.size w X → PostC N h q kc k hd G S T K w D Z x X from fun X hX => ⟨L, k, G, S, T, by omega, t.grow hX, Sub3.same _ _ _ _, Mv.of hNw hX⟩)
  have KC := Lib.hid (show ∀ X : World, X.heap[kc]? = w.heap[kc]? → X.cell? ⟨kc, 1, none⟩ = some (.int .u64 (x.tot : Int)) ∧ X.cell? ⟨kc, 2, none⟩ = some (.int .u64 (x.bat : Int)) ∧ X.cell? ⟨kc, 3, none⟩ = some (.int .u64 (x.res : Int)) ∧ X.cell? ⟨kc, 4, none⟩ = some (.int .u64 (x.nxt : Int)) ∧ X.cell? ⟨kc, 5, none⟩ = some (.bool x.gone) ∧ X.cell? ⟨kc, 6, none⟩ = some (.slice A n c) ∧ X.cell? ⟨kc, 7, none⟩ = some (.pointer (some ⟨q, 0, none⟩)) from fun X hX => by
    have hq : Bk X kc 48 (rcA x A hd.length c q) := hX.trans hb
    rw [← hn] at hq
    exact ⟨hq.cell 1, hq.cell 2, hq.cell 3, hq.cell 4, hq.cell 5, hq.cell 6, hq.cell 7⟩)
  have LT := Lib.hid t.rc.lt2
  have hmd : x.dead.May hd.length := ok.may
  have hfd : x.dead.Fit := ⟨ok.fit.tot, ok.fit.bat, ok.fit.res, ok.fit.nxt⟩
  have CB := Lib.hid (bytes_call hr hmd hfd)
  obtain ⟨row, hrow⟩ : ∃ r, r = x.dead.row hd := ⟨_, rfl⟩
  have CS := Lib.hid (save_call (row := row) t hc hk)
  have RC := Lib.hid (show x.gone = false → x.retC hd Z D = Z.saveC D row ∧ x.retZ hd Z D = Z.save D row ∧ x.retD hd Z D = Z.saveD D row ∧ x.ret hd Z D = if Z.saveC D row = 0 then x.dead else x from fun e => by
    have e1 : x.retC hd Z D = Z.saveC D row := by rw [Cn.retC, e, hrow]; rfl
    exact ⟨e1, by rw [Cn.retZ, e, hrow]; rfl, by rw [Cn.retD, e, hrow]; rfl, by rw [Cn.ret, e1]⟩)
  have RG := Lib.hid (show x.gone = true → x.retC hd Z D = 0 ∧ x.retZ hd Z D = Z ∧ x.retD hd Z D = D ∧ x.ret hd Z D = x from fun e => by
    have e1 : x.retC hd Z D = 0 := by rw [Cn.retC, e]; rfl
    refine ⟨e1, by rw [Cn.retZ, e]; rfl, by rw [Cn.retD, e]; rfl, ?_⟩
    rw [Cn.ret, e1, if_pos rfl]
    obtain ⟨tt, bb, rr, nx, gn⟩ := x
    have e' : gn = true := e
    rw [e']; rfl)
  obtain ⟨vc, hvc⟩ : ∃ v, v = x.retC hd Z D := ⟨_, rfl⟩
  obtain ⟨vz, hvz⟩ : ∃ v, v = x.retZ hd Z D := ⟨_, rfl⟩
  obtain ⟨vd, hvd⟩ : ∃ v, v = x.retD hd Z D := ⟨_, rfl⟩
  obtain ⟨vx, hvx⟩ : ∃ v, v = x.ret hd Z D := ⟨_, rfl⟩
  rw [← hvc, ← hvz, ← hvd, ← hvx] at RC RG ⊢
  rw [← hrow] at CB
  rw [← hn] at CB
  obtain ⟨lr, hlr⟩ : ∃ l, l = row.length := ⟨_, rfl⟩
  rw [← hlr] at CB
  obtain ⟨sc, hsc⟩ : ∃ s, s = Z.saveC D row := ⟨_, rfl⟩
  rw [← hsc] at CS RC
  obtain ⟨gm, hgm⟩ : ∃ g, g = w.heap.size := ⟨_, rfl⟩
  obtain ⟨tt, bb, rr, nx, gn⟩ := x
  unfold Cn.dead Cn.cells at CB
  simp only at *
  clear hvc hvz hvd hvx ok hb hr hi hNw hn hmd hfd hrow hlr hsc hc hk
  have QT := Lib.hid t
  clear t
  obtain ⟨c1, c2, c3, c4, c5, c6, c7⟩ := KC.out w rfl
  go_enter Tryz.func16, Tryz.ntmps16
  go_upto_region 2 with (fail)
  rw [← hgm]
  have M1 := Lib.hid (show Bk (w.alloc (.cells #[.int .u64 (tt : Int), .int .u64 (bb : Int), .int .u64 (rr : Int), .int .u64 (nx : Int), .bool gn] 46)) gm 46 #[.int .u64 (tt : Int), .int .u64 (bb : Int), .int .u64 (rr : Int), .int .u64 (nx : Int), .bool gn] from Bk.newAt _ _ _ _ hgm.symm)
  have B1 := Lib.hid (show Below w.heap.size w (w.alloc (.cells #[.int .u64 (tt : Int), .int .u64 (bb : Int), .int .u64 (rr : Int), .int .u64 (nx : Int), .bool gn] 46)) from (Below.refl _ _).alloc (Nat.le_refl _) _)
  have GM := Lib.hid (show w.heap.size ≤ gm by rw [hgm]; exact Nat.le_refl _)
  clear hgm c1 c2 c3 c4 c5 c6 c7
  generalize w.alloc (.cells #[.int .u64 (tt : Int), .int .u64 (bb : Int), .int .u64 (rr : Int), .int .u64 (nx : Int), .bool gn] 46) = w1 at *
  have j0 : w1.cell? ⟨gm, 4, none⟩ = some (.bool gn) := M1.out.cell 4
  have u0 := M1.out.frozen 4
  go_upto_region 3 with (fail)
  clear j0 u0
  have M2 := Lib.hid (show Bk (w1.setCell ⟨gm, 4, none⟩ (.bool true)) gm 46 #[.int .u64 (tt : Int), .int .u64 (bb : Int), .int .u64 (rr : Int), .int .u64 (nx : Int), .bool true] from M1.out.put 4 (.bool true))
  have B2 := Lib.hid (show Below w.heap.size w (w1.setCell ⟨gm, 4, none⟩ (.bool true)) from B1.out.setCell (p := ⟨gm, 4, none⟩) GM.out _)
  generalize w1.setCell ⟨gm, 4, none⟩ (.bool true) = w2 at *
  obtain ⟨c1, c2, c3, c4, c5, c6, c7⟩ := KC.out w2 (B2.out.block kc LT.out)
  cases gn
  rotate_left
  · go_wp2
    go_ret
    obtain ⟨e1, e2, e3, e4⟩ := RG.out (by first | rfl | trivial)
    rw [e2, e3, e4]
    exact ⟨by rw [e1]; rfl, SAME.out _ B2.out⟩
  · go_upto_region 5 with (fail)
    clear c1 c2 c3 c4 c5 c6 c7
    have KS := Lib.hid (show ∀ X : World, X.heap[gm]? = w2.heap[gm]? ∧ X.heap[kc]? = w.heap[kc]? → X.cell? ⟨gm, 0, none⟩ = some (.int .u64 (tt : Int)) ∧ X.cell? ⟨gm, 1, none⟩ = some (.int .u64 (bb : Int)) ∧ X.cell? ⟨gm, 2, none⟩ = some (.int .u64 (rr : Int)) ∧ X.cell? ⟨gm, 3, none⟩ = some (.int .u64 (nx : Int)) ∧ X.cell? ⟨gm, 4, none⟩ = some (.bool true) ∧ X.cell? ⟨kc, 6, none⟩ = some (.slice A n c) from fun X hX => by
      have hq : Bk X gm 46 #[.int .u64 (tt : Int), .int .u64 (bb : Int), .int .u64 (rr : Int), .int .u64 (nx : Int), .bool true] := hX.1.trans M2.out
      obtain ⟨c1, c2, c3, c4, c5, c6, c7⟩ := KC.out X hX.2
      exact ⟨hq.cell 0, hq.cell 1, hq.cell 2, hq.cell 3, hq.cell 4, c6⟩)
    have B5D := Lib.hid (show Below w.heap.size w w2.drew from B2.out.drew)
    have K5 := Lib.hid (show w2.drew.heap[gm]? = w2.heap[gm]? ∧ w2.drew.heap[kc]? = w.heap[kc]? from ⟨(Below.refl w2.heap.size w2).drew.block gm M2.out.lt, B5D.out.block kc LT.out⟩)
    (go_region_held3 (fun X => X.cell? ⟨gm, 0, none⟩ = some (.int .u64 (tt : Int)) ∧ X.cell? ⟨gm, 1, none⟩ = some (.int .u64 (bb : Int)) ∧ X.cell? ⟨gm, 2, none⟩ = some (.int .u64 (rr : Int)) ∧ X.cell? ⟨gm, 3, none⟩ = some (.int .u64 (nx : Int)) ∧ X.cell? ⟨gm, 4, none⟩ = some (.bool true) ∧ X.cell? ⟨kc, 6, none⟩ = some (.slice A n c)) (first
      | exact KS.out _ K6.out
      | exact KS.out _ K5.out) (first
      | (go_at_call 39; ((with_reducible refine (CB.out _ B5D.out).mono ?_); rintro e w6 ⟨A6, c6, rfl, r6, i6, b6⟩; have K6 := Lib.hid (show w6.heap[gm]? = w2.heap[gm]? ∧ w6.heap[kc]? = w.heap[kc]? from ⟨(b6.block gm M2.out.drew.lt).trans K5.out.1, (b6.block kc (Nat.lt_of_lt_of_le LT.out B5D.out.size)).trans K5.out.2⟩); have B6 := Lib.hid (B5D.out.trans (b6.mono B5D.out.size)); have R6 := Lib.hid r6; have I6 := Lib.hid i6; have L6 := Lib.hid (Nat.lt_of_lt_of_le M2.out.drew.lt b6.size); clear r6 i6 b6))
      | fail))
    have M6 := Lib.hid (show Bk w6 gm 46 #[.int .u64 (tt : Int), .int .u64 (bb : Int), .int .u64 (rr : Int), .int .u64 (nx : Int), .bool true] from K6.out.1.trans M2.out)
    obtain ⟨c1, c2, c3, c4, c5, c6', c7⟩ := KC.out w6 K6.out.2
    go_upto_region 7 with (go_at_call 40; ((with_reducible refine (CS.out _ _ _ _ B6.out R6.out I6.out).mono ?_); rintro e w7 ⟨rfl, p7, s7⟩; have P7 := Lib.hid p7; have S7 := Lib.hid s7; clear p7 s7))
    clear c1 c2 c3 c4 c5 c6' c7
    have M7 := Lib.hid (show Bk w7 gm 46 #[.int .u64 (tt : Int), .int .u64 (bb : Int), .int .u64 (rr : Int), .int .u64 (nx : Int), .bool true] from (S7.out gm GM.out L6.out).trans M6.out)
    have RCE := Lib.hid (RC.out (by first | rfl | trivial))
    by_cases z : sc = 0
    rotate_left
    · have zz : ¬ (sc : Int) = 0 := by omega
      go_wp2
      go_ret
      obtain ⟨L', k', G', S', T', p1, p2, p3, p4⟩ := P7.out
      obtain ⟨e1, e2, e3, e4⟩ := RCE.out
      rw [e2, e3, e4, if_neg z]
      exact ⟨by rw [e1]; rfl, L', k', G', S', T', p1, p2, p3, p4.mono fun b hb => .inl hb⟩
    · have RC0 := Lib.hid (show vc = 0 ∧ vz = Z.save D row ∧ vd = Z.saveD D row ∧ vx = ⟨tt, bb, rr, nx, true⟩ from by obtain ⟨e1, e2, e3, e4⟩ := RCE.out; exact ⟨by rw [e1, z], e2, e3, by rw [e4, if_pos z]; rfl⟩)
      clear RCE RC
      subst z
      obtain ⟨L', k', G', S', T', p1, p2, p3, p4⟩ := P7.out
      obtain ⟨A7, c7, hb7, _, _⟩ := p2.rc.ex
      have P1 := Lib.hid p1
      have P2 := Lib.hid p2
      have P3 := Lib.hid p3
      have P4 := Lib.hid p4
      have H7 := Lib.hid hb7
      clear p1 p2 p3 p4 hb7
      have m0 : w7.cell? ⟨gm, 0, none⟩ = some (.int .u64 (tt : Int)) := M7.out.cell 0
      have m1 : w7.cell? ⟨gm, 1, none⟩ = some (.int .u64 (bb : Int)) := M7.out.cell 1
      have m2 : w7.cell? ⟨gm, 2, none⟩ = some (.int .u64 (rr : Int)) := M7.out.cell 2
      have m3 : w7.cell? ⟨gm, 3, none⟩ = some (.int .u64 (nx : Int)) := M7.out.cell 3
      have m4 : w7.cell? ⟨gm, 4, none⟩ = some (.bool true) := M7.out.cell 4
      have c1 : w7.cell? ⟨kc, 1, none⟩ = some (.int .u64 (tt : Int)) := H7.out.cell 1
      have c2 : w7.cell? ⟨kc, 2, none⟩ = some (.int .u64 (bb : Int)) := H7.out.cell 2
      have c3 : w7.cell? ⟨kc, 3, none⟩ = some (.int .u64 (rr : Int)) := H7.out.cell 3
      have c4 : w7.cell? ⟨kc, 4, none⟩ = some (.int .u64 (nx : Int)) := H7.out.cell 4
      have c5 : w7.cell? ⟨kc, 5, none⟩ = some (.bool false) := H7.out.cell 5
      have f1 := H7.out.frozen 1
      have f2 := H7.out.frozen 2
      have f3 := H7.out.frozen 3
      have f4 := H7.out.frozen 4
      have f5 := H7.out.frozen 5
      go_wp2
      go_ret
      have Q8 := P2.out.set5 ⟨tt, bb, rr, nx, true⟩
      obtain ⟨e1, e2, e3, e4⟩ := RC0.out
      rw [e2, e3, e4]
      exact ⟨by rw [e1]; rfl, L', k', G', S', T', P1.out, Q8.1, P3.out, (P4.out.mono fun b hb => .inl hb).trans Q8.2 fun b hb => .inl (.inr hb)⟩
end Go.Proofs.YtnoflgkjdibblaaGreatDoor.S21
