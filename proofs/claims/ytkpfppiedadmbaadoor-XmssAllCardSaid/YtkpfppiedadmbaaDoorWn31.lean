/-
  Texts put together: XmR. No statement is proved here.
-/
import Derived.Test.YtkpfppiedadmbaaDoorWn30
import Derived.Test.YtkpfppiedadmbaaDoorWn13

/-
  The walk of layer 16's first statement. No statement is proved here. (Written by genxml.py.)
-/
namespace Go.Proofs.YtkpfppiedadmbaaDoor.S16
set_option linter.unusedSimpArgs false
set_option linter.unusedVariables false
set_option maxRecDepth 4096
open Go.RowKit S15

set_option maxHeartbeats 4000000 in
theorem xmssShapes_walk (M : XC) (w : World) (hk : M.ok w) (L H : Int) : Calls Tryd.prog 3 #[.agg (shA L H)] w (GivesB true w) := by
  have HK := Lib.hid hk
  obtain ⟨mb, hmb⟩ : ∃ mb, mb = mayX L H := ⟨_, rfl⟩
  obtain ⟨T, hT⟩ : ∃ T, T = totX L H := ⟨_, rfl⟩
  obtain ⟨Z, hZ⟩ : ∃ Z, Z = sizeX L H := ⟨_, rfl⟩
  have C1 := Lib.hid (show ∀ X, M.ok X → Calls Tryd.prog 8 #[.agg #[.int .i64 L, .int .i64 H]] X (GivesB mb X) from fun X h => by rw [hmb]; exact M.may L H X h)
  have C2 := Lib.hid (show ∀ X, Calls Tryd.prog 9 #[.agg #[.int .i64 L, .int .i64 H]] X (GivesB mb X) from fun X => by rw [hmb]; exact rmay16_any L H X)
  have C3 := Lib.hid (show ∀ X, M.ok X → Calls Tryd.prog 10 #[.agg #[.int .i64 L, .int .i64 H]] X (GivesV (.int .u64 (T : Int)) X) from fun X h => by rw [hT]; exact M.total L H X h)
  have C4 := Lib.hid (show ∀ X, Calls Tryd.prog 11 #[.agg #[.int .i64 L, .int .i64 H]] X (GivesV (.int .u64 (T : Int)) X) from fun X => by rw [hT]; exact rtot_any L H X)
  have C5 := Lib.hid (show ∀ X, M.ok X → Calls Tryd.prog 12 #[.agg #[.int .i64 L, .int .i64 H]] X (GivesV (.int .i64 (Z : Int)) X) from fun X h => by rw [hZ]; exact M.size L H X h)
  have C6 := Lib.hid (show ∀ X, Calls Tryd.prog 13 #[.agg #[.int .i64 L, .int .i64 H]] X (GivesV (.int .i64 (Z : Int)) X) from fun X => by rw [hZ]; exact rsize_any L H X)
  have z1 : (mb == mb) = true := by simp
  have z2 : ((T : Int) == (T : Int)) = true := by simp
  have z3 : ((Z : Int) == (Z : Int)) = true := by simp
  clear hmb hT hZ hk
  obtain ⟨g, hg⟩ : ∃ g, w.heap.size = g := ⟨_, rfl⟩
  obtain ⟨w0, hw0⟩ : ∃ w0, w.alloc (.cells (shA L H) 23) = w0 := ⟨_, rfl⟩
  have M0 := Lib.hid (show Bk w0 g 23 (shA L H) by rw [← hw0, ← hg]; exact Bk.new _ _ _)
  have B0 := Lib.hid (show Below w.heap.size w w0 by rw [← hw0]; exact (Below.refl _ _).alloc (Nat.le_refl _) _)
  go_enter Tryd.func3, Tryd.ntmps3
  go_upto_region 3 with (go_at_call 7; ((with_reducible refine (awake16 M _ (M.bel HK.out B0.out)).mono ?_); rintro e w1 ⟨rfl, b1⟩; have B1 := Lib.hid (B0.out.trans (b1.mono B0.out.size)); have M1 := Lib.hid (M0.out.below b1 M0.out.lt); clear b1))
  have KS := Lib.hid (show ∀ X, Below w1.heap.size w1 X → X.cell? ⟨g, 0, none⟩ = some (.int .i64 L) ∧ X.cell? ⟨g, 1, none⟩ = some (.int .i64 H) from fun X hX => ⟨(M1.out.below hX M1.out.lt).cell 0, (M1.out.below hX M1.out.lt).cell 1⟩)
  have OK := Lib.hid (show ∀ X, Below w1.heap.size w1 X → M.ok X from fun X hX => M.bel HK.out (B1.out.trans (hX.mono B1.out.size)))
  have NX := Lib.hid (show ∀ X Y, Below w1.heap.size w1 X → Below X.heap.size X Y → Below w1.heap.size w1 Y from fun X Y h h' => h.trans (h'.mono h.size))
  clear hw0 hg
  refine wp_region_steady (fun X => Below w1.heap.size w1 X) (by kernel_rfl) (by kernel_rfl) (Below.refl _ _).drew ?_
  repeat (first | (refine seq_pure (v := ?_) (by rfl) ?_ ?_; rotate_left; (· (intro w' hS; obtain ⟨c0, c1⟩ := KS.out w' hS; go_simp; try with_reducible rfl)); simp only [Act.put, List.setIfInBounds_toArray, List.set_cons_zero, List.set_cons_succ]) | fail)
  refine seq_call (f := 8) (args := #[.agg #[.int .i64 L, .int .i64 H]]) (v := .bool mb) (by rfl) ?_ ?_ ?_
  · intro w' hS; obtain ⟨c0, c1⟩ := KS.out w' hS; go_simp
  · intro w' hS; exact (C1.out _ (OK.out _ hS)).mono fun e w'' ⟨h1, h2⟩ => ⟨h1, NX.out _ _ hS h2⟩
  simp only [Act.put, List.setIfInBounds_toArray, List.set_cons_zero, List.set_cons_succ]
  repeat (first | (refine seq_pure (v := ?_) (by rfl) ?_ ?_; rotate_left; (· (intro w' hS; obtain ⟨c0, c1⟩ := KS.out w' hS; go_simp; try with_reducible rfl)); simp only [Act.put, List.setIfInBounds_toArray, List.set_cons_zero, List.set_cons_succ]) | fail)
  refine seq_call (f := 9) (args := #[.agg #[.int .i64 L, .int .i64 H]]) (v := .bool mb) (by rfl) ?_ ?_ ?_
  · intro w' hS; obtain ⟨c0, c1⟩ := KS.out w' hS; go_simp
  · intro w' hS; exact (C2.out _).mono fun e w'' ⟨h1, h2⟩ => ⟨h1, NX.out _ _ hS h2⟩
  simp only [Act.put, List.setIfInBounds_toArray, List.set_cons_zero, List.set_cons_succ]
  repeat (first | (refine seq_pure (v := ?_) (by rfl) ?_ ?_; rotate_left; (· (intro w' hS; obtain ⟨c0, c1⟩ := KS.out w' hS; go_simp; try with_reducible rfl)); simp only [Act.put, List.setIfInBounds_toArray, List.set_cons_zero, List.set_cons_succ]) | fail)
  refine seq_call (f := 10) (args := #[.agg #[.int .i64 L, .int .i64 H]]) (v := .int .u64 (T : Int)) (by rfl) ?_ ?_ ?_
  · intro w' hS; obtain ⟨c0, c1⟩ := KS.out w' hS; go_simp
  · intro w' hS; exact (C3.out _ (OK.out _ hS)).mono fun e w'' ⟨h1, h2⟩ => ⟨h1, NX.out _ _ hS h2⟩
  simp only [Act.put, List.setIfInBounds_toArray, List.set_cons_zero, List.set_cons_succ]
  repeat (first | (refine seq_pure (v := ?_) (by rfl) ?_ ?_; rotate_left; (· (intro w' hS; obtain ⟨c0, c1⟩ := KS.out w' hS; go_simp; try with_reducible rfl)); simp only [Act.put, List.setIfInBounds_toArray, List.set_cons_zero, List.set_cons_succ]) | fail)
  refine seq_call (f := 11) (args := #[.agg #[.int .i64 L, .int .i64 H]]) (v := .int .u64 (T : Int)) (by rfl) ?_ ?_ ?_
  · intro w' hS; obtain ⟨c0, c1⟩ := KS.out w' hS; go_simp
  · intro w' hS; exact (C4.out _).mono fun e w'' ⟨h1, h2⟩ => ⟨h1, NX.out _ _ hS h2⟩
  simp only [Act.put, List.setIfInBounds_toArray, List.set_cons_zero, List.set_cons_succ]
  repeat (first | (refine seq_pure (v := ?_) (by rfl) ?_ ?_; rotate_left; (· (intro w' hS; obtain ⟨c0, c1⟩ := KS.out w' hS; go_simp; try with_reducible rfl)); simp only [Act.put, List.setIfInBounds_toArray, List.set_cons_zero, List.set_cons_succ]) | fail)
  refine seq_call (f := 12) (args := #[.agg #[.int .i64 L, .int .i64 H]]) (v := .int .i64 (Z : Int)) (by rfl) ?_ ?_ ?_
  · intro w' hS; obtain ⟨c0, c1⟩ := KS.out w' hS; go_simp
  · intro w' hS; exact (C5.out _ (OK.out _ hS)).mono fun e w'' ⟨h1, h2⟩ => ⟨h1, NX.out _ _ hS h2⟩
  simp only [Act.put, List.setIfInBounds_toArray, List.set_cons_zero, List.set_cons_succ]
  repeat (first | (refine seq_pure (v := ?_) (by rfl) ?_ ?_; rotate_left; (· (intro w' hS; obtain ⟨c0, c1⟩ := KS.out w' hS; go_simp; try with_reducible rfl)); simp only [Act.put, List.setIfInBounds_toArray, List.set_cons_zero, List.set_cons_succ]) | fail)
  refine seq_call (f := 13) (args := #[.agg #[.int .i64 L, .int .i64 H]]) (v := .int .i64 (Z : Int)) (by rfl) ?_ ?_ ?_
  · intro w' hS; obtain ⟨c0, c1⟩ := KS.out w' hS; go_simp
  · intro w' hS; exact (C6.out _).mono fun e w'' ⟨h1, h2⟩ => ⟨h1, NX.out _ _ hS h2⟩
  simp only [Act.put, List.setIfInBounds_toArray, List.set_cons_zero, List.set_cons_succ]
  repeat (first | (refine seq_pure (v := ?_) (by rfl) ?_ ?_; rotate_left; (· (intro w' hS; obtain ⟨c0, c1⟩ := KS.out w' hS; go_simp; try with_reducible rfl)); simp only [Act.put, List.setIfInBounds_toArray, List.set_cons_zero, List.set_cons_succ]) | fail)
  refine seq_nil ?_
  intro w9 s9
  go_wp2
  go_ret
  exact ⟨rfl, B1.out.trans (Below.mono s9 B1.out.size)⟩
end Go.Proofs.YtkpfppiedadmbaaDoor.S16
