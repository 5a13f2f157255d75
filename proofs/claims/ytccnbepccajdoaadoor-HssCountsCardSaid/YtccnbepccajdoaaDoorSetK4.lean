/-
  What the landed sets.Tree does. No statement is proved here. (Written by genS4.py.)
-/
import Derived.Test.YtccnbepccajdoaaDoorSetK3
namespace Go.Proofs.YtccnbepccajdoaaDoor.S8
set_option linter.unusedSimpArgs false
set_option linter.unusedVariables false
open Go.RowKit S7

theorem tree_ret {w w' : World} {g2 g3 : Nat} {a b c d : Int} {y : Int} {tmps : Array Value} (h2 : Bk w' g2 41 #[.int .u32 a, .int .i64 b, .int .i64 c, .int .i64 d]) (h3 : Bk w' g3 28 #[.int .i64 y]) (hne : g2 ≠ g3) (hb : Below w.heap.size w w') (hg : w.heap.size ≤ g3)
    (k2 : tmps.getD 2 undef = .pointer (some ⟨g2, 0, none⟩)) (k3 : tmps.getD 3 undef = .pointer (some ⟨g3, 0, none⟩)) :
    bodyPostD Tryd.prog Tryd.f31 (fun e' w' => e' = .returned (.tuple #[treeV a b c d, .int .i64 0]) ∧ Below w.heap.size w w') Exit.ret
      { tmps := tmps, defers := [{ target := Target.fn (Fn.func 44) #[.pointer (some ⟨g3, 0, none⟩)], args := #[] }] } w' := by
  refine leaves_cons (f := 44) (args := #[.pointer (some ⟨g3, 0, none⟩)]) (by simp) (by simp [go_sem]) ?_
  refine (tree1_idle g3 y w' h3).mono ?_
  rintro e1 u' w'' ⟨rfl, rfl, rfl⟩
  have hr := results_cell_cell (P := Tryd.prog) (fn := Tryd.f31) rfl tmps (w'.setCell ⟨g3, 0, none⟩ (.int .i64 0)) g2 g3 _ 28 _ (.int .i64 0) _ k2 (h2.far (show g2 ≠ g3 from hne) _) Tryd.underlying41 rfl Tryd.infoTree k3 (load_code g3 0) (cell_of_one (h3.put 0 _))
  simp [Leaves, settle, hr]
  exact ⟨rfl, hb.setCell hg _⟩
theorem tree_bad {w w' : World} {g2 g3 : Nat} {tmps : Array Value} (h2 : Bk w' g2 41 #[.int .u32 0, .int .i64 0, .int .i64 0, .int .i64 0]) (h3 : Bk w' g3 28 #[.int .i64 0]) (hne : g2 ≠ g3) (hb : Below w.heap.size w w') (hg : w.heap.size ≤ g3)
    (k2 : tmps.getD 2 undef = .pointer (some ⟨g2, 0, none⟩)) (k3 : tmps.getD 3 undef = .pointer (some ⟨g3, 0, none⟩)) :
    bodyPostD Tryd.prog Tryd.f31 (fun e' w' => e' = .returned (.tuple #[treeV 0 0 0 0, .int .i64 4]) ∧ Below w.heap.size w w') (Exit.panic [LV.wrg 4])
      { tmps := tmps, defers := [{ target := Target.fn (Fn.func 44) #[.pointer (some ⟨g3, 0, none⟩)], args := #[] }] } w' := by
  refine leaves_cons (f := 44) (args := #[.pointer (some ⟨g3, 0, none⟩)]) (by simp) (by simp [go_sem]) ?_
  refine (tree1_caught g3 0 4 [] w' h3).mono ?_
  rintro e1 u' w'' ⟨rfl, rfl, w1, hb1, rfl⟩
  have h2' := h2.below hb1 h2.lt
  have h3' := h3.below hb1 h3.lt
  have hr := results_cell_cell (P := Tryd.prog) (fn := Tryd.f31) rfl tmps (w1.setCell ⟨g3, 0, none⟩ (.int .i64 4)) g2 g3 _ 28 _ (.int .i64 4) _ k2 (h2'.far (show g2 ≠ g3 from hne) _) Tryd.underlying41 rfl Tryd.infoTree k3 (load_code g3 4) (cell_of_one (h3'.put 0 _))
  simp [Leaves, settle, hr]
  exact ⟨rfl, (hb.trans (hb1.mono hb.size)).setCell hg _⟩
set_option maxRecDepth 100000 in
set_option maxHeartbeats 4000000 in
theorem tree_no (c : Nat) (hc : c < 4294967296) (hno : okT c = false) (w : World) (h : GS w) : Calls Tryd.prog 31 #[.int .u32 (c : Int)] w fun e w' => e = .returned (.tuple #[treeV 0 0 0 0, .int .i64 4]) ∧ Below w.heap.size w w' := by
  have hmf : ∀ (fn : Fn) (first cap : Array Value) (w : World), (Instr.makeFunc fn first cap).run Tryd.prog w = .ok (.func fn first cap) w := fun _ _ _ _ => rfl
  by_cases hlo : c < 4026531841
  · have HB := Lib.hid (show ∀ X, Calls Tryd.prog 45 #[.int .u32 (c : Int), .int .u32 5, .int .i64 5] X fun e w' => e = .panicked [LV.wrg 4] ∧ Below X.heap.size X w' from fun X => find_bad 5 5 c (.inr rfl) (by omega) hc (by simp [okT] at hno; omega) X)
    have q1 : decide ((c : Int) < 4026531841) = true := by simp; omega
    clear hno h hlo
    go_enter_defers Tryd.func31, Tryd.ntmps31
    go_wp2_with (go_at_call 45; ((with_reducible refine (HB.out _).mono ?_); rintro e w1 ⟨rfl, b1⟩; have B1 := Lib.hid b1; clear b1))
    exact tree_bad (w := w) (g2 := w.heap.size) (g3 := w.heap.size + 1) ((Bk.new w _ _ |>.alloc _).below B1.out (by simp; omega)) ((Bk.newAt _ _ _ _ (by simp)).below B1.out (by simp)) (by omega) ((two_bel w _ _).trans (B1.out.mono (by simp; omega))) (by omega) rfl rfl
  · have HB := Lib.hid (show ∀ X, Calls Tryd.prog 45 #[.int .u32 (c : Int), .int .u32 4026531841, .int .i64 4] X fun e w' => e = .panicked [LV.wrg 4] ∧ Below X.heap.size X w' from fun X => by
      have h := find_bad 4026531841 4 c (.inl rfl) (by omega) hc (by simp [okT] at hno; omega) X
      rw [show ((4026531841 : Nat) : Int) = 4026531841 from by omega] at h
      exact h)
    have q1 : decide ((c : Int) < 4026531841) = false := by simp; omega
    clear hno h hlo
    go_enter_defers Tryd.func31, Tryd.ntmps31
    go_wp2_with (go_at_call 45; ((with_reducible refine (HB.out _).mono ?_); rintro e w1 ⟨rfl, b1⟩; have B1 := Lib.hid b1; clear b1))
    exact tree_bad (w := w) (g2 := w.heap.size) (g3 := w.heap.size + 1) ((Bk.new w _ _ |>.alloc _).below B1.out (by simp; omega)) ((Bk.newAt _ _ _ _ (by simp)).below B1.out (by simp)) (by omega) ((two_bel w _ _).trans (B1.out.mono (by simp; omega))) (by omega) rfl rfl
abbrev zT (k : Nat) : Value := ([.int .u32 0, .int .i64 0, .int .i64 0, .int .i64 0] : List Value).getD k undef
abbrev vT (a b c d : Int) (k : Nat) : Value := ([.int .u32 a, .int .i64 b, .int .i64 c, .int .i64 d] : List Value).getD k undef
theorem hgt_get (j : Nat) (h : j < 5) : Value.int .i64 (([5, 10, 15, 20, 25] : List Int).getD j 0) = .int .i64 ((5 * (1 + j) : Nat) : Int) := by
  obtain rfl | rfl | rfl | rfl | rfl : j = 0 ∨ j = 1 ∨ j = 2 ∨ j = 3 ∨ j = 4 := by omega
  all_goals rfl
theorem low_get (j : Nat) (h : j < 4) : Value.int .i64 (([1, 2, 3, 4] : List Int).getD j 0) = .int .i64 ((1 + j : Nat) : Int) := by
  obtain rfl | rfl | rfl | rfl : j = 0 ∨ j = 1 ∨ j = 2 ∨ j = 3 := by omega
  all_goals rfl
set_option maxHeartbeats 4000000 in
theorem tree_hi (c i : Nat) (hc : c = 5 + i) (hi : i < 20) (w : World) (h : GS w) : Calls Tryd.prog 31 #[.int .u32 (c : Int)] w fun e w' => e = .returned (.tuple #[treeV (c : Int) (tK c) (tN c) (tH c), .int .i64 0]) ∧ Below w.heap.size w w' := by
  have hmf : ∀ (fn : Fn) (first cap : Array Value) (w : World), (Instr.makeFunc fn first cap).run Tryd.prog w = .ok (.func fn first cap) w := fun _ _ _ _ => rfl
  have hlo : c ≤ 24 := by omega
  have e1 : tI c = i / 5 := by unfold tI; rw [if_pos hlo, hc, Nat.add_sub_cancel_left]
  obtain ⟨J, hJ⟩ : ∃ J, J = i % 5 := ⟨_, rfl⟩
  obtain ⟨K, hK⟩ : ∃ K, K = tK c := ⟨_, rfl⟩
  obtain ⟨N, hN⟩ : ∃ N, N = tN c := ⟨_, rfl⟩
  obtain ⟨V, hV⟩ : ∃ V, V = tH c := ⟨_, rfl⟩
  have hJV : V = 5 * (1 + J) := by rw [hV, hJ, tH, if_pos hlo, hc, Nat.add_sub_cancel_left]
  have HF := Lib.hid (show ∀ X, GS X → Calls Tryd.prog 45 #[.int .u32 (c : Int), .int .u32 5, .int .i64 5] X fun e w' => e = .returned (.tuple #[.agg #[.int .i64 (K : Int), .int .i64 (N : Int)], .int .i64 (J : Int)]) ∧ Below X.heap.size X w' from fun X g => by
    have h := find_ok 5 5 i (.inr rfl) (by omega) (by omega) X g
    rw [← hJ, ← e1, ← hc] at h
    rw [hK, hN]
    exact h)
  have hw : w.cell? ⟨0, J, none⟩ = some (.int .i64 (V : Int)) := by
    rw [hJV, ← hgt_get J (by omega)]
    exact (h.hs J (by omega)).1
  have HG := Lib.hid h
  rw [← hK, ← hN, ← hV]
  have j4 : J < 5 := by omega
  have hgl := (h.hs 0 (by omega)).2
  have hcl : decide ((c : Int) < 4026531841) = true := by simp; omega
  have hcm : c < 4294967296 := by omega
  clear e1 hc hJ hK hN hV h hi hJV hlo
  obtain ⟨g2, hg2⟩ : ∃ g2, g2 = w.heap.size := ⟨_, rfl⟩
  obtain ⟨g3, hg3⟩ : ∃ g3, g3 = w.heap.size + 1 := ⟨_, rfl⟩
  go_enter_defers Tryd.func31, Tryd.ntmps31
  go_upto_region 4 with (go_at_call 45; ((with_reducible refine (HF.out _ (HG.out.below (two_bel _ _ _))).mono ?_); rintro e w1 ⟨rfl, b1⟩))
  obtain ⟨g4, hg4⟩ : ∃ g4, g4 = w1.heap.size := ⟨_, rfl⟩
  obtain ⟨w2, hw2⟩ : ∃ w2, w1.alloc (.cells #[.int .i64 (K : Int), .int .i64 (N : Int)] 86) = w2 := ⟨_, rfl⟩
  have hs1 := b1.size
  simp at hs1
  have O3 : Bk w2 g2 41 #[.int .u32 0, .int .i64 0, .int .i64 0, .int .i64 0] := by
    rw [← hw2, hg2]
    exact ((Bk.new w _ _ |>.alloc _).below b1 (by simp; omega)).alloc _
  have r3 : RO w g3 g4 K N w2 := by
    rw [← hw2]
    refine ⟨((two_bel w _ _).trans (b1.mono (by simp; omega))).alloc (by omega) _, ?_, ?_⟩
    · rw [hg3]
      exact ((Bk.newAt _ _ _ _ (by simp)).below b1 (by simp)).alloc _
    · rw [hg4]
      exact Bk.new _ _ _
  rw [hw2, ← hg3, ← hg2, ← hg4]
  have n23 : g3 ≠ g2 := by omega
  have n24 : g4 ≠ g2 := by omega
  have n34 : g4 ≠ g3 := by omega
  have l2 : w.heap.size ≤ g2 := by omega
  have l3 : w.heap.size ≤ g3 := by omega
  clear hw2 hg2 hg3 hg4 b1 hs1 HF
  have ji : (J : Int) < 5 := by omega
  refine SM.wp_region_steadyN (SM.Lit g2 41 8 10 4 (vT c K N V) zT (RO w g3 g4 K N)) 18 (by kernel_rfl) (by kernel_rfl) rfl ⟨O3.drew, (fun _ k _ => SM.getD_rep 18 _), r3.drew⟩ ?_
  clear r3 O3
  (refine SM.seq_pure (v := ?_) (by rfl) (fun L w h => h.pure _ (by intro k hk; omega) (by omega)) ?_ ?_; rotate_left; (· (intro L w' hS; have f0 := hS.r.c4.cell 0; have f1 := hS.r.c4.cell 1; have f2 := (hS.r.bel.cell (p := ⟨0, J, none⟩) hgl).trans hw; simp at f0 f1; go_simp; try with_reducible rfl)); simp only [Act.put, List.setIfInBounds_toArray, List.set_cons_zero, List.set_cons_succ])
  (refine SM.seq_pure (v := ?_) (by rfl) (fun L w h => h.pure _ (by intro k hk; omega) (by omega)) ?_ ?_; rotate_left; (· (intro L w' hS; have f0 := hS.r.c4.cell 0; have f1 := hS.r.c4.cell 1; have f2 := (hS.r.bel.cell (p := ⟨0, J, none⟩) hgl).trans hw; simp at f0 f1; go_simp; try with_reducible rfl)); simp only [Act.put, List.setIfInBounds_toArray, List.set_cons_zero, List.set_cons_succ])
  (refine SM.seq_pure (v := ?_) (by rfl) (fun L w h => h.pure _ (by intro k hk; omega) (by omega)) ?_ ?_; rotate_left; (· (intro L w' hS; have f0 := hS.r.c4.cell 0; have f1 := hS.r.c4.cell 1; have f2 := (hS.r.bel.cell (p := ⟨0, J, none⟩) hgl).trans hw; simp at f0 f1; go_simp; try with_reducible rfl)); simp only [Act.put, List.setIfInBounds_toArray, List.set_cons_zero, List.set_cons_succ])
  (refine SM.seq_pure (v := ?_) (by rfl) (fun L w h => h.pure _ (by intro k hk; omega) (by omega)) ?_ ?_; rotate_left; (· (intro L w' hS; have f0 := hS.r.c4.cell 0; have f1 := hS.r.c4.cell 1; have f2 := (hS.r.bel.cell (p := ⟨0, J, none⟩) hgl).trans hw; simp at f0 f1; go_simp; try with_reducible rfl)); simp only [Act.put, List.setIfInBounds_toArray, List.set_cons_zero, List.set_cons_succ])
  (refine SM.seq_pure (v := ?_) (by rfl) (fun L w h => h.pure _ (by intro k hk; omega) (by omega)) ?_ ?_; rotate_left; (· (intro L w' hS; have f0 := hS.r.c4.cell 0; have f1 := hS.r.c4.cell 1; have f2 := (hS.r.bel.cell (p := ⟨0, J, none⟩) hgl).trans hw; simp at f0 f1; go_simp; try with_reducible rfl)); simp only [Act.put, List.setIfInBounds_toArray, List.set_cons_zero, List.set_cons_succ])
  (refine SM.seq_pure (v := ?_) (by rfl) (fun L w h => h.pure _ (by intro k hk; omega) (by omega)) ?_ ?_; rotate_left; (· (intro L w' hS; have f0 := hS.r.c4.cell 0; have f1 := hS.r.c4.cell 1; have f2 := (hS.r.bel.cell (p := ⟨0, J, none⟩) hgl).trans hw; simp at f0 f1; go_simp; try with_reducible rfl)); simp only [Act.put, List.setIfInBounds_toArray, List.set_cons_zero, List.set_cons_succ])
  (refine SM.seq_pure (v := ?_) (by rfl) (fun L w h => h.pure _ (by intro k hk; omega) (by omega)) ?_ ?_; rotate_left; (· (intro L w' hS; have f0 := hS.r.c4.cell 0; have f1 := hS.r.c4.cell 1; have f2 := (hS.r.bel.cell (p := ⟨0, J, none⟩) hgl).trans hw; simp at f0 f1; go_simp; try with_reducible rfl)); simp only [Act.put, List.setIfInBounds_toArray, List.set_cons_zero, List.set_cons_succ])
  (refine SM.seq_pure (v := ?_) (by rfl) (fun L w h => h.pure _ (by intro k hk; omega) (by omega)) ?_ ?_; rotate_left; (· (intro L w' hS; have f0 := hS.r.c4.cell 0; have f1 := hS.r.c4.cell 1; have f2 := (hS.r.bel.cell (p := ⟨0, J, none⟩) hgl).trans hw; simp at f0 f1; go_simp; try with_reducible rfl)); simp only [Act.put, List.setIfInBounds_toArray, List.set_cons_zero, List.set_cons_succ])
  refine SM.seq_store (by rfl) ?_ ?_
  · intro L w' hL h0 h1 hS
    have hz := hS.zeros h0
    have hb := hS.out
    rw [hz] at hb
    obtain ⟨x0, e0⟩ := hS.at_ 0 (by omega)
    obtain ⟨x1, e1⟩ := hS.at_ 1 (by omega)
    obtain ⟨x2, e2⟩ := hS.at_ 2 (by omega)
    obtain ⟨x3, e3⟩ := hS.at_ 3 (by omega)
    have z0 := hS.free 0
    have z1 := hS.free 1
    have z2 := hS.free 2
    have z3 := hS.free 3
    refine ⟨(((w'.setCell ⟨g2, 0, none⟩ (.int .u32 0)).setCell ⟨g2, 1, none⟩ (.int .i64 0)).setCell ⟨g2, 2, none⟩ (.int .i64 0)).setCell ⟨g2, 3, none⟩ (.int .i64 0), ?_, ?_⟩
    · clear hz hb hS
      go_simp
    · refine hS.lay h0 (by omega) _ ?_ ?_ (by rw [hL]; decide)
      · rw [hz]
        exact (((hb.put 0 (.int .u32 0)).put 1 (.int .i64 0)).put 2 (.int .i64 0)).put 3 (.int .i64 0)
      · exact (((hS.r.put l2 n23 n24 _).put l2 n23 n24 _).put l2 n23 n24 _).put l2 n23 n24 _
  simp only [Act.put, List.setIfInBounds_toArray, List.set_cons_zero, List.set_cons_succ]
  (refine SM.seq_pure (v := ?_) (by rfl) (fun L w h => h.pure _ (by intro k hk; omega) (by omega)) ?_ ?_; rotate_left; (· (intro L w' hS; go_simp; try with_reducible rfl)); simp only [Act.put, List.setIfInBounds_toArray, List.set_cons_zero, List.set_cons_succ])
  refine SM.seq_store (by rfl) ?_ ?_
  · intro L w' hL h0 h1 hS
    obtain ⟨x, e0⟩ := hS.at_ 0 (by omega)
    have z0 := hS.free 0
    refine ⟨w'.setCell ⟨g2, 0, none⟩ (.int .u32 (c : Int)), ?_, hS.store 0 (by omega) (by rw [hL]; decide) (h1 ⟨8, .phase⟩ (by simp) rfl) (fun X hX => hX.put l2 n23 n24 _)⟩
    clear hS h0 h1
    go_simp
  simp only [Act.put, List.setIfInBounds_toArray, List.set_cons_zero, List.set_cons_succ]
  (refine SM.seq_pure (v := ?_) (by rfl) (fun L w h => h.pure _ (by intro k hk; omega) (by omega)) ?_ ?_; rotate_left; (· (intro L w' hS; go_simp; try with_reducible rfl)); simp only [Act.put, List.setIfInBounds_toArray, List.set_cons_zero, List.set_cons_succ])
  refine SM.seq_store (by rfl) ?_ ?_
  · intro L w' hL h0 h1 hS
    obtain ⟨x, e0⟩ := hS.at_ 1 (by omega)
    have z0 := hS.free 1
    refine ⟨w'.setCell ⟨g2, 1, none⟩ (.int .i64 (K : Int)), ?_, hS.store 1 (by omega) (by rw [hL]; decide) (h1 ⟨8, .phase⟩ (by simp) rfl) (fun X hX => hX.put l2 n23 n24 _)⟩
    clear hS h0 h1
    go_simp
  simp only [Act.put, List.setIfInBounds_toArray, List.set_cons_zero, List.set_cons_succ]
  (refine SM.seq_pure (v := ?_) (by rfl) (fun L w h => h.pure _ (by intro k hk; omega) (by omega)) ?_ ?_; rotate_left; (· (intro L w' hS; go_simp; try with_reducible rfl)); simp only [Act.put, List.setIfInBounds_toArray, List.set_cons_zero, List.set_cons_succ])
  refine SM.seq_store (by rfl) ?_ ?_
  · intro L w' hL h0 h1 hS
    obtain ⟨x, e0⟩ := hS.at_ 2 (by omega)
    have z0 := hS.free 2
    refine ⟨w'.setCell ⟨g2, 2, none⟩ (.int .i64 (N : Int)), ?_, hS.store 2 (by omega) (by rw [hL]; decide) (h1 ⟨8, .phase⟩ (by simp) rfl) (fun X hX => hX.put l2 n23 n24 _)⟩
    clear hS h0 h1
    go_simp
  simp only [Act.put, List.setIfInBounds_toArray, List.set_cons_zero, List.set_cons_succ]
  (refine SM.seq_pure (v := ?_) (by rfl) (fun L w h => h.pure _ (by intro k hk; omega) (by omega)) ?_ ?_; rotate_left; (· (intro L w' hS; go_simp; try with_reducible rfl)); simp only [Act.put, List.setIfInBounds_toArray, List.set_cons_zero, List.set_cons_succ])
  refine SM.seq_store (by rfl) ?_ ?_
  · intro L w' hL h0 h1 hS
    obtain ⟨x, e0⟩ := hS.at_ 3 (by omega)
    have z0 := hS.free 3
    refine ⟨w'.setCell ⟨g2, 3, none⟩ (.int .i64 (V : Int)), ?_, hS.store 3 (by omega) (by rw [hL]; decide) (h1 ⟨8, .phase⟩ (by simp) rfl) (fun X hX => hX.put l2 n23 n24 _)⟩
    clear hS h0 h1
    go_simp
  simp only [Act.put, List.setIfInBounds_toArray, List.set_cons_zero, List.set_cons_succ]
  refine SM.seq_store (by rfl) ?_ ?_
  · intro L w' hL h0 h1 hS
    have e0 := hS.r.c3.cell 0
    have z0 := hS.r.c3.frozen 0
    simp at e0
    refine ⟨w'.setCell ⟨g3, 0, none⟩ (.int .i64 0), ?_, ?_⟩
    · clear hS h0 h1
      go_simp
    · have h9 : SM.Lit g2 41 8 10 4 (vT c K N V) zT (RO w g3 g4 K N) L (w'.setCell ⟨g3, 0, none⟩ (.int .i64 0)) := ⟨hS.out.far (show g2 ≠ g3 from fun e => n23 e.symm) _, hS.zero, hS.r.code l3 n34⟩
      exact h9.pure _ (by intro k hk; omega) (by omega)
  simp only [Act.put, List.setIfInBounds_toArray, List.set_cons_zero, List.set_cons_succ]
  refine SM.seq_nil ?_
  intro w4 s4
  have O4 : Bk w4 g2 41 #[.int .u32 (c : Int), .int .i64 (K : Int), .int .i64 (N : Int), .int .i64 (V : Int)] := s4.out
  have r4 := s4.r
  clear s4
  go_wp2
  exact tree_ret (w := w) O4 r4.c3 (fun e => n23 e.symm) r4.bel l3 rfl rfl
set_option maxHeartbeats 4000000 in
theorem tree_lo (c i : Nat) (hc : c = 4026531841 + i) (hi : i < 16) (w : World) (h : GS w) : Calls Tryd.prog 31 #[.int .u32 (c : Int)] w fun e w' => e = .returned (.tuple #[treeV (c : Int) (tK c) (tN c) (tH c), .int .i64 0]) ∧ Below w.heap.size w w' := by
  have hmf : ∀ (fn : Fn) (first cap : Array Value) (w : World), (Instr.makeFunc fn first cap).run Tryd.prog w = .ok (.func fn first cap) w := fun _ _ _ _ => rfl
  have hlo : ¬ c ≤ 24 := by omega
  have e1 : tI c = i / 4 := by unfold tI; rw [if_neg hlo, hc, Nat.add_sub_cancel_left]
  obtain ⟨J, hJ⟩ : ∃ J, J = i % 4 := ⟨_, rfl⟩
  obtain ⟨K, hK⟩ : ∃ K, K = tK c := ⟨_, rfl⟩
  obtain ⟨N, hN⟩ : ∃ N, N = tN c := ⟨_, rfl⟩
  obtain ⟨V, hV⟩ : ∃ V, V = tH c := ⟨_, rfl⟩
  have hJV : V = 1 + J := by rw [hV, hJ, tH, if_neg hlo, hc, Nat.add_sub_cancel_left]
  have HF := Lib.hid (show ∀ X, GS X → Calls Tryd.prog 45 #[.int .u32 (c : Int), .int .u32 4026531841, .int .i64 4] X fun e w' => e = .returned (.tuple #[.agg #[.int .i64 (K : Int), .int .i64 (N : Int)], .int .i64 (J : Int)]) ∧ Below X.heap.size X w' from fun X g => by
    have h := find_ok 4026531841 4 i (.inl rfl) (by omega) (by omega) X g
    rw [← hJ, ← e1, ← hc, show ((4026531841 : Nat) : Int) = 4026531841 from by omega] at h
    rw [hK, hN]
    exact h)
  have hw : w.cell? ⟨1, J, none⟩ = some (.int .i64 (V : Int)) := by
    rw [hJV, ← low_get J (by omega)]
    exact (h.lo J (by omega)).1
  have HG := Lib.hid h
  rw [← hK, ← hN, ← hV]
  have j4 : J < 4 := by omega
  have hgl := (h.lo 0 (by omega)).2
  have hcl : decide ((c : Int) < 4026531841) = false := by simp; omega
  have hcm : c < 4294967296 := by omega
  clear e1 hc hJ hK hN hV h hi hJV hlo
  obtain ⟨g2, hg2⟩ : ∃ g2, g2 = w.heap.size := ⟨_, rfl⟩
  obtain ⟨g3, hg3⟩ : ∃ g3, g3 = w.heap.size + 1 := ⟨_, rfl⟩
  go_enter_defers Tryd.func31, Tryd.ntmps31
  go_upto_region 6 with (go_at_call 45; ((with_reducible refine (HF.out _ (HG.out.below (two_bel _ _ _))).mono ?_); rintro e w1 ⟨rfl, b1⟩))
  obtain ⟨g4, hg4⟩ : ∃ g4, g4 = w1.heap.size := ⟨_, rfl⟩
  obtain ⟨w2, hw2⟩ : ∃ w2, w1.alloc (.cells #[.int .i64 (K : Int), .int .i64 (N : Int)] 86) = w2 := ⟨_, rfl⟩
  have hs1 := b1.size
  simp at hs1
  have O3 : Bk w2 g2 41 #[.int .u32 0, .int .i64 0, .int .i64 0, .int .i64 0] := by
    rw [← hw2, hg2]
    exact ((Bk.new w _ _ |>.alloc _).below b1 (by simp; omega)).alloc _
  have r3 : RO w g3 g4 K N w2 := by
    rw [← hw2]
    refine ⟨((two_bel w _ _).trans (b1.mono (by simp; omega))).alloc (by omega) _, ?_, ?_⟩
    · rw [hg3]
      exact ((Bk.newAt _ _ _ _ (by simp)).below b1 (by simp)).alloc _
    · rw [hg4]
      exact Bk.new _ _ _
  rw [hw2, ← hg3, ← hg2, ← hg4]
  have n23 : g3 ≠ g2 := by omega
  have n24 : g4 ≠ g2 := by omega
  have n34 : g4 ≠ g3 := by omega
  have l2 : w.heap.size ≤ g2 := by omega
  have l3 : w.heap.size ≤ g3 := by omega
  clear hw2 hg2 hg3 hg4 b1 hs1 HF
  have ji : (J : Int) < 4 := by omega
  refine SM.wp_region_steadyN (SM.Lit g2 41 8 10 4 (vT c K N V) zT (RO w g3 g4 K N)) 18 (by kernel_rfl) (by kernel_rfl) rfl ⟨O3.drew, (fun _ k _ => SM.getD_rep 18 _), r3.drew⟩ ?_
  clear r3 O3
  (refine SM.seq_pure (v := ?_) (by rfl) (fun L w h => h.pure _ (by intro k hk; omega) (by omega)) ?_ ?_; rotate_left; (· (intro L w' hS; have f0 := hS.r.c4.cell 0; have f1 := hS.r.c4.cell 1; have f2 := (hS.r.bel.cell (p := ⟨1, J, none⟩) hgl).trans hw; simp at f0 f1; go_simp; try with_reducible rfl)); simp only [Act.put, List.setIfInBounds_toArray, List.set_cons_zero, List.set_cons_succ])
  (refine SM.seq_pure (v := ?_) (by rfl) (fun L w h => h.pure _ (by intro k hk; omega) (by omega)) ?_ ?_; rotate_left; (· (intro L w' hS; have f0 := hS.r.c4.cell 0; have f1 := hS.r.c4.cell 1; have f2 := (hS.r.bel.cell (p := ⟨1, J, none⟩) hgl).trans hw; simp at f0 f1; go_simp; try with_reducible rfl)); simp only [Act.put, List.setIfInBounds_toArray, List.set_cons_zero, List.set_cons_succ])
  (refine SM.seq_pure (v := ?_) (by rfl) (fun L w h => h.pure _ (by intro k hk; omega) (by omega)) ?_ ?_; rotate_left; (· (intro L w' hS; have f0 := hS.r.c4.cell 0; have f1 := hS.r.c4.cell 1; have f2 := (hS.r.bel.cell (p := ⟨1, J, none⟩) hgl).trans hw; simp at f0 f1; go_simp; try with_reducible rfl)); simp only [Act.put, List.setIfInBounds_toArray, List.set_cons_zero, List.set_cons_succ])
  (refine SM.seq_pure (v := ?_) (by rfl) (fun L w h => h.pure _ (by intro k hk; omega) (by omega)) ?_ ?_; rotate_left; (· (intro L w' hS; have f0 := hS.r.c4.cell 0; have f1 := hS.r.c4.cell 1; have f2 := (hS.r.bel.cell (p := ⟨1, J, none⟩) hgl).trans hw; simp at f0 f1; go_simp; try with_reducible rfl)); simp only [Act.put, List.setIfInBounds_toArray, List.set_cons_zero, List.set_cons_succ])
  (refine SM.seq_pure (v := ?_) (by rfl) (fun L w h => h.pure _ (by intro k hk; omega) (by omega)) ?_ ?_; rotate_left; (· (intro L w' hS; have f0 := hS.r.c4.cell 0; have f1 := hS.r.c4.cell 1; have f2 := (hS.r.bel.cell (p := ⟨1, J, none⟩) hgl).trans hw; simp at f0 f1; go_simp; try with_reducible rfl)); simp only [Act.put, List.setIfInBounds_toArray, List.set_cons_zero, List.set_cons_succ])
  (refine SM.seq_pure (v := ?_) (by rfl) (fun L w h => h.pure _ (by intro k hk; omega) (by omega)) ?_ ?_; rotate_left; (· (intro L w' hS; have f0 := hS.r.c4.cell 0; have f1 := hS.r.c4.cell 1; have f2 := (hS.r.bel.cell (p := ⟨1, J, none⟩) hgl).trans hw; simp at f0 f1; go_simp; try with_reducible rfl)); simp only [Act.put, List.setIfInBounds_toArray, List.set_cons_zero, List.set_cons_succ])
  (refine SM.seq_pure (v := ?_) (by rfl) (fun L w h => h.pure _ (by intro k hk; omega) (by omega)) ?_ ?_; rotate_left; (· (intro L w' hS; have f0 := hS.r.c4.cell 0; have f1 := hS.r.c4.cell 1; have f2 := (hS.r.bel.cell (p := ⟨1, J, none⟩) hgl).trans hw; simp at f0 f1; go_simp; try with_reducible rfl)); simp only [Act.put, List.setIfInBounds_toArray, List.set_cons_zero, List.set_cons_succ])
  (refine SM.seq_pure (v := ?_) (by rfl) (fun L w h => h.pure _ (by intro k hk; omega) (by omega)) ?_ ?_; rotate_left; (· (intro L w' hS; have f0 := hS.r.c4.cell 0; have f1 := hS.r.c4.cell 1; have f2 := (hS.r.bel.cell (p := ⟨1, J, none⟩) hgl).trans hw; simp at f0 f1; go_simp; try with_reducible rfl)); simp only [Act.put, List.setIfInBounds_toArray, List.set_cons_zero, List.set_cons_succ])
  refine SM.seq_store (by rfl) ?_ ?_
  · intro L w' hL h0 h1 hS
    have hz := hS.zeros h0
    have hb := hS.out
    rw [hz] at hb
    obtain ⟨x0, e0⟩ := hS.at_ 0 (by omega)
    obtain ⟨x1, e1⟩ := hS.at_ 1 (by omega)
    obtain ⟨x2, e2⟩ := hS.at_ 2 (by omega)
    obtain ⟨x3, e3⟩ := hS.at_ 3 (by omega)
    have z0 := hS.free 0
    have z1 := hS.free 1
    have z2 := hS.free 2
    have z3 := hS.free 3
    refine ⟨(((w'.setCell ⟨g2, 0, none⟩ (.int .u32 0)).setCell ⟨g2, 1, none⟩ (.int .i64 0)).setCell ⟨g2, 2, none⟩ (.int .i64 0)).setCell ⟨g2, 3, none⟩ (.int .i64 0), ?_, ?_⟩
    · clear hz hb hS
      go_simp
    · refine hS.lay h0 (by omega) _ ?_ ?_ (by rw [hL]; decide)
      · rw [hz]
        exact (((hb.put 0 (.int .u32 0)).put 1 (.int .i64 0)).put 2 (.int .i64 0)).put 3 (.int .i64 0)
      · exact (((hS.r.put l2 n23 n24 _).put l2 n23 n24 _).put l2 n23 n24 _).put l2 n23 n24 _
  simp only [Act.put, List.setIfInBounds_toArray, List.set_cons_zero, List.set_cons_succ]
  (refine SM.seq_pure (v := ?_) (by rfl) (fun L w h => h.pure _ (by intro k hk; omega) (by omega)) ?_ ?_; rotate_left; (· (intro L w' hS; go_simp; try with_reducible rfl)); simp only [Act.put, List.setIfInBounds_toArray, List.set_cons_zero, List.set_cons_succ])
  refine SM.seq_store (by rfl) ?_ ?_
  · intro L w' hL h0 h1 hS
    obtain ⟨x, e0⟩ := hS.at_ 0 (by omega)
    have z0 := hS.free 0
    refine ⟨w'.setCell ⟨g2, 0, none⟩ (.int .u32 (c : Int)), ?_, hS.store 0 (by omega) (by rw [hL]; decide) (h1 ⟨8, .phase⟩ (by simp) rfl) (fun X hX => hX.put l2 n23 n24 _)⟩
    clear hS h0 h1
    go_simp
  simp only [Act.put, List.setIfInBounds_toArray, List.set_cons_zero, List.set_cons_succ]
  (refine SM.seq_pure (v := ?_) (by rfl) (fun L w h => h.pure _ (by intro k hk; omega) (by omega)) ?_ ?_; rotate_left; (· (intro L w' hS; go_simp; try with_reducible rfl)); simp only [Act.put, List.setIfInBounds_toArray, List.set_cons_zero, List.set_cons_succ])
  refine SM.seq_store (by rfl) ?_ ?_
  · intro L w' hL h0 h1 hS
    obtain ⟨x, e0⟩ := hS.at_ 1 (by omega)
    have z0 := hS.free 1
    refine ⟨w'.setCell ⟨g2, 1, none⟩ (.int .i64 (K : Int)), ?_, hS.store 1 (by omega) (by rw [hL]; decide) (h1 ⟨8, .phase⟩ (by simp) rfl) (fun X hX => hX.put l2 n23 n24 _)⟩
    clear hS h0 h1
    go_simp
  simp only [Act.put, List.setIfInBounds_toArray, List.set_cons_zero, List.set_cons_succ]
  (refine SM.seq_pure (v := ?_) (by rfl) (fun L w h => h.pure _ (by intro k hk; omega) (by omega)) ?_ ?_; rotate_left; (· (intro L w' hS; go_simp; try with_reducible rfl)); simp only [Act.put, List.setIfInBounds_toArray, List.set_cons_zero, List.set_cons_succ])
  refine SM.seq_store (by rfl) ?_ ?_
  · intro L w' hL h0 h1 hS
    obtain ⟨x, e0⟩ := hS.at_ 2 (by omega)
    have z0 := hS.free 2
    refine ⟨w'.setCell ⟨g2, 2, none⟩ (.int .i64 (N : Int)), ?_, hS.store 2 (by omega) (by rw [hL]; decide) (h1 ⟨8, .phase⟩ (by simp) rfl) (fun X hX => hX.put l2 n23 n24 _)⟩
    clear hS h0 h1
    go_simp
  simp only [Act.put, List.setIfInBounds_toArray, List.set_cons_zero, List.set_cons_succ]
  (refine SM.seq_pure (v := ?_) (by rfl) (fun L w h => h.pure _ (by intro k hk; omega) (by omega)) ?_ ?_; rotate_left; (· (intro L w' hS; go_simp; try with_reducible rfl)); simp only [Act.put, List.setIfInBounds_toArray, List.set_cons_zero, List.set_cons_succ])
  refine SM.seq_store (by rfl) ?_ ?_
  · intro L w' hL h0 h1 hS
    obtain ⟨x, e0⟩ := hS.at_ 3 (by omega)
    have z0 := hS.free 3
    refine ⟨w'.setCell ⟨g2, 3, none⟩ (.int .i64 (V : Int)), ?_, hS.store 3 (by omega) (by rw [hL]; decide) (h1 ⟨8, .phase⟩ (by simp) rfl) (fun X hX => hX.put l2 n23 n24 _)⟩
    clear hS h0 h1
    go_simp
  simp only [Act.put, List.setIfInBounds_toArray, List.set_cons_zero, List.set_cons_succ]
  refine SM.seq_store (by rfl) ?_ ?_
  · intro L w' hL h0 h1 hS
    have e0 := hS.r.c3.cell 0
    have z0 := hS.r.c3.frozen 0
    simp at e0
    refine ⟨w'.setCell ⟨g3, 0, none⟩ (.int .i64 0), ?_, ?_⟩
    · clear hS h0 h1
      go_simp
    · have h9 : SM.Lit g2 41 8 10 4 (vT c K N V) zT (RO w g3 g4 K N) L (w'.setCell ⟨g3, 0, none⟩ (.int .i64 0)) := ⟨hS.out.far (show g2 ≠ g3 from fun e => n23 e.symm) _, hS.zero, hS.r.code l3 n34⟩
      exact h9.pure _ (by intro k hk; omega) (by omega)
  simp only [Act.put, List.setIfInBounds_toArray, List.set_cons_zero, List.set_cons_succ]
  refine SM.seq_nil ?_
  intro w4 s4
  have O4 : Bk w4 g2 41 #[.int .u32 (c : Int), .int .i64 (K : Int), .int .i64 (N : Int), .int .i64 (V : Int)] := s4.out
  have r4 := s4.r
  clear s4
  go_wp2
  exact tree_ret (w := w) O4 r4.c3 (fun e => n23 e.symm) r4.bel l3 rfl rfl
end Go.Proofs.YtccnbepccajdoaaDoor.S8
