/-
  What the landed sets.Ots does. No statement is proved here.
-/
import Derived.Test.YtccnbepccajdoaaDoorSetK2
import Derived.Test.YtccnbepccajdoaaDoorDigK5
import Derived.Test.YtccnbepccajdoaaDoorLit
import Derived.Deep.Cut
namespace Go.Proofs.YtccnbepccajdoaaDoor.S8
set_option linter.unusedSimpArgs false
set_option linter.unusedVariables false
open Go.RowKit S7

theorem results_cell_cell {P : Program} {fn : Func} {p q : Tmp} {ty ty' : TypeId} (h : fn.results = #[.cell p ty, .cell q ty']) (tmps : Array Value) (w : World) (g g' : Nat) (t t' : TypeId) (cs : Array Value) (v : Value) (d : TypeDesc)
    (hp : tmps.getD p undef = .pointer (some ⟨g, 0, none⟩)) (hg : Bk w g t cs)
    (hu : P.underlying ty = some d) (hd : (match d with | .struct _ | .array _ _ => true | _ => false) = true) (hi : (P.info? ty).map (·.size) = some cs.size)
    (hq : tmps.getD q undef = .pointer (some ⟨g', 0, none⟩)) (hr : ∀ w, w.cell? ⟨g', 0, none⟩ = some v → (loadVar ty' ⟨g', 0, none⟩).run P w = .ok v w) (hc : w.cell? ⟨g', 0, none⟩ = some v) :
    (results fn tmps).run P w = .ok (.tuple #[.agg cs, v]) w := by
  have hp' : tmps[p]?.getD undef = .pointer (some ⟨g, 0, none⟩) := by simpa using hp
  have hq' : tmps[q]?.getD undef = .pointer (some ⟨g', 0, none⟩) := by simpa using hq
  simp [results, h, hp', hq', asAddr, run_loadVar_row w g t ty cs (0, 0) d hg hu hd hi, hr w hc]
theorem Tryd.infoOts : (Tryd.prog.info? 39).map (·.size) = some 6 := by kernel_rfl
theorem Tryd.infoTree : (Tryd.prog.info? 41).map (·.size) = some 4 := by kernel_rfl
theorem load_code (g : Nat) (n : Int) (w : World) (h : w.cell? ⟨g, 0, none⟩ = some (.int .i64 n)) : (loadVar 28 ⟨g, 0, none⟩).run Tryd.prog w = .ok (.int .i64 n) w := by
  go_simp
theorem ots_ret {w w' : World} {g2 g3 : Nat} {a b c d e f : Int} {y : Int} {tmps : Array Value} (h2 : Bk w' g2 39 #[.int .u32 a, .int .i64 b, .int .i64 c, .int .i64 d, .int .i64 e, .int .i64 f]) (h3 : Bk w' g3 28 #[.int .i64 y]) (hne : g2 ≠ g3) (hb : Below w.heap.size w w') (hg : w.heap.size ≤ g3)
    (k2 : tmps.getD 2 undef = .pointer (some ⟨g2, 0, none⟩)) (k3 : tmps.getD 3 undef = .pointer (some ⟨g3, 0, none⟩)) :
    bodyPostD Tryd.prog Tryd.f40 (fun e' w' => e' = .returned (.tuple #[otsV a b c d e f, .int .i64 0]) ∧ Below w.heap.size w w') Exit.ret
      { tmps := tmps, defers := [{ target := Target.fn (Fn.func 49) #[.pointer (some ⟨g3, 0, none⟩)], args := #[] }] } w' := by
  refine leaves_cons (f := 49) (args := #[.pointer (some ⟨g3, 0, none⟩)]) (by simp) (by simp [go_sem]) ?_
  refine (ots1_idle g3 y w' h3).mono ?_
  rintro e1 u' w'' ⟨rfl, rfl, rfl⟩
  have hr := results_cell_cell (P := Tryd.prog) (fn := Tryd.f40) rfl tmps (w'.setCell ⟨g3, 0, none⟩ (.int .i64 0)) g2 g3 _ 28 _ (.int .i64 0) _ k2 (h2.far (show g2 ≠ g3 from hne) _) Tryd.underlying39 rfl Tryd.infoOts k3 (load_code g3 0) (cell_of_one (h3.put 0 _))
  simp [Leaves, settle, hr]
  exact ⟨rfl, hb.setCell hg _⟩
theorem ots_bad {w w' : World} {g2 g3 : Nat} {tmps : Array Value} (h2 : Bk w' g2 39 #[.int .u32 0, .int .i64 0, .int .i64 0, .int .i64 0, .int .i64 0, .int .i64 0]) (h3 : Bk w' g3 28 #[.int .i64 0]) (hne : g2 ≠ g3) (hb : Below w.heap.size w w') (hg : w.heap.size ≤ g3)
    (k2 : tmps.getD 2 undef = .pointer (some ⟨g2, 0, none⟩)) (k3 : tmps.getD 3 undef = .pointer (some ⟨g3, 0, none⟩)) :
    bodyPostD Tryd.prog Tryd.f40 (fun e' w' => e' = .returned (.tuple #[otsV 0 0 0 0 0 0, .int .i64 4]) ∧ Below w.heap.size w w') (Exit.panic [LV.wrg 4])
      { tmps := tmps, defers := [{ target := Target.fn (Fn.func 49) #[.pointer (some ⟨g3, 0, none⟩)], args := #[] }] } w' := by
  refine leaves_cons (f := 49) (args := #[.pointer (some ⟨g3, 0, none⟩)]) (by simp) (by simp [go_sem]) ?_
  refine (ots1_caught g3 0 4 [] w' h3).mono ?_
  rintro e1 u' w'' ⟨rfl, rfl, w1, hb1, rfl⟩
  have h2' := h2.below hb1 h2.lt
  have h3' := h3.below hb1 h3.lt
  have hr := results_cell_cell (P := Tryd.prog) (fn := Tryd.f40) rfl tmps (w1.setCell ⟨g3, 0, none⟩ (.int .i64 4)) g2 g3 _ 28 _ (.int .i64 4) _ k2 (h2'.far (show g2 ≠ g3 from hne) _) Tryd.underlying39 rfl Tryd.infoOts k3 (load_code g3 4) (cell_of_one (h3'.put 0 _))
  simp [Leaves, settle, hr]
  exact ⟨rfl, (hb.trans (hb1.mono hb.size)).setCell hg _⟩
theorem two_bel (w : World) (o o' : Obj) : Below w.heap.size w ((w.alloc o).alloc o') := ((Below.refl _ _).alloc (Nat.le_refl _) o).alloc (by simp) o'
set_option maxHeartbeats 4000000 in
theorem ots_no (c : Nat) (hc : c < 4294967296) (hno : okO c = false) (w : World) (h : GS w) : Calls Tryd.prog 40 #[.int .u32 (c : Int)] w fun e w' => e = .returned (.tuple #[otsV 0 0 0 0 0 0, .int .i64 4]) ∧ Below w.heap.size w w' := by
  have hmf : ∀ (fn : Fn) (first cap : Array Value) (w : World), (Instr.makeFunc fn first cap).run Tryd.prog w = .ok (.func fn first cap) w := fun _ _ _ _ => rfl
  have HB := Lib.hid (show ∀ X, Calls Tryd.prog 45 #[.int .u32 (c : Int), .int .u32 1, .int .i64 4] X fun e w' => e = .panicked [LV.wrg 4] ∧ Below X.heap.size X w' from fun X => find_bad 1 4 c (.inl rfl) (by omega) hc (by simp [okO] at hno; omega) X)
  clear hno h
  go_enter_defers Tryd.func40, Tryd.ntmps40
  go_wp2_with (go_at_call 45; ((with_reducible refine (HB.out _).mono ?_); rintro e w1 ⟨rfl, b1⟩; have B1 := Lib.hid b1; clear b1))
  exact ots_bad (w := w) (g2 := w.heap.size) (g3 := w.heap.size + 1) ((Bk.new w _ _ |>.alloc _).below B1.out (by simp; omega)) ((Bk.newAt _ _ _ _ (by simp)).below B1.out (by simp)) (by omega) ((two_bel w _ _).trans (B1.out.mono (by simp; omega))) (by omega) rfl rfl
theorem wid_get (j : Nat) (h : j < 4) : Value.int .i64 (([1, 2, 4, 8] : List Int).getD j 0) = .int .i64 (pkW j : Int) := by
  obtain rfl | rfl | rfl | rfl : j = 0 ∨ j = 1 ∨ j = 2 ∨ j = 3 := by omega
  all_goals rfl
/-- What stays through the literal. -/
structure RO (W : World) (g3 g4 : Nat) (K N : Int) (X : World) : Prop where
  bel : Below W.heap.size W X
  c3 : Bk X g3 28 #[.int .i64 0]
  c4 : Bk X g4 86 #[.int .i64 K, .int .i64 N]
theorem RO.put {W X : World} {g3 g4 : Nat} {K N : Int} (h : RO W g3 g4 K N X) {p : Addr} (h2 : W.heap.size ≤ p.block) (h3 : g3 ≠ p.block) (h4 : g4 ≠ p.block) (v : Value) : RO W g3 g4 K N (X.setCell p v) :=
  ⟨h.bel.setCell h2 v, h.c3.far h3 v, h.c4.far h4 v⟩
theorem RO.code {W X : World} {g3 g4 : Nat} {K N : Int} (h : RO W g3 g4 K N X) (h2 : W.heap.size ≤ g3) (h4 : g4 ≠ g3) : RO W g3 g4 K N (X.setCell ⟨g3, 0, none⟩ (.int .i64 0)) :=
  ⟨h.bel.setCell h2 _, h.c3.put 0 _, h.c4.far h4 _⟩
theorem RO.drew {W X : World} {g3 g4 : Nat} {K N : Int} (h : RO W g3 g4 K N X) : RO W g3 g4 K N X.drew := ⟨h.bel.drew, h.c3.drew, h.c4.drew⟩
abbrev zO (k : Nat) : Value := ([.int .u32 0, .int .i64 0, .int .i64 0, .int .i64 0, .int .i64 0, .int .i64 0] : List Value).getD k undef
abbrev vO (a b c d e f : Int) (k : Nat) : Value := ([.int .u32 a, .int .i64 b, .int .i64 c, .int .i64 d, .int .i64 e, .int .i64 f] : List Value).getD k undef
set_option maxHeartbeats 4000000 in
theorem ots_yes (c i : Nat) (hc : c = 1 + i) (hi : i < 16) (w : World) (h : GS w) (hd : S7.WOk w) : Calls Tryd.prog 40 #[.int .u32 (c : Int)] w fun e w' => e = .returned (.tuple #[otsV (c : Int) (oK c) (oN c) (oW c) (oP c) (oS c), .int .i64 0]) ∧ Below w.heap.size w w' := by
  have hmf : ∀ (fn : Fn) (first cap : Array Value) (w : World), (Instr.makeFunc fn first cap).run Tryd.prog w = .ok (.func fn first cap) w := fun _ _ _ _ => rfl
  have e1 : oI c = i / 4 := by unfold oI; rw [hc]; congr 1; omega
  obtain ⟨J, hJ⟩ : ∃ J, J = i % 4 := ⟨_, rfl⟩
  obtain ⟨K, hK⟩ : ∃ K, K = oK c := ⟨_, rfl⟩
  obtain ⟨N, hN⟩ : ∃ N, N = oN c := ⟨_, rfl⟩
  obtain ⟨P, hP⟩ : ∃ P, P = oP c := ⟨_, rfl⟩
  obtain ⟨S, hS⟩ : ∃ S, S = oS c := ⟨_, rfl⟩
  obtain ⟨V, hV⟩ : ∃ V, V = oW c := ⟨_, rfl⟩
  have hJV : V = pkW J := by rw [hV, hJ, oW, hc]; congr 2; omega
  have HF := Lib.hid (show ∀ X, GS X → Calls Tryd.prog 45 #[.int .u32 (c : Int), .int .u32 1, .int .i64 4] X fun e w' => e = .returned (.tuple #[.agg #[.int .i64 (K : Int), .int .i64 (N : Int)], .int .i64 (J : Int)]) ∧ Below X.heap.size X w' from fun X g => by
    have h := find_ok 1 4 i (.inl rfl) (by omega) (by omega) X g
    rw [← hJ, ← e1, ← hc] at h
    rw [hK, hN]
    exact h)
  obtain ⟨U, hU⟩ : ∃ U, U = shU N V := ⟨_, rfl⟩
  obtain ⟨T, hT⟩ : ∃ T, T = shV N V := ⟨_, rfl⟩
  have hok : okO c = true := by simp [okO, hc]; omega
  obtain ⟨p1, p2, p3⟩ := oP_small c hok
  rw [← hP, ← hN, ← hV, ← hU, ← hT] at p3
  rw [← hP] at p1
  have HS := Lib.hid (show ∀ X, S7.WOk X → Calls Tryd.prog 50 #[.int .i64 (N : Int), .int .i64 (V : Int)] X fun e w' => e = .returned (.tuple #[.int .i64 (U : Int), .int .i64 (T : Int), .int .i64 (S : Int)]) ∧ X = w' from fun X g => by
    have h := shapeW (N : Int) (V : Int) X g
    have hok2 : okS (N : Int) (V : Int) = true := by
      have h1 := szN_cases (oI c)
      rw [show szN (oI c) = N from hN.symm] at h1
      have h2 := may_wid (show wid V from by rw [hV]; exact oW_wid c)
      rcases h1 with h1 | h1 <;> simp [okS, h1, h2]
    rw [shW, if_pos hok2] at h
    simp only [Int.toNat_natCast] at h
    rw [← hU, ← hT, show shL N V = S by rw [hS, hN, hV]; rfl] at h
    exact h)
  have hw : w.cell? ⟨2, J, none⟩ = some (.int .i64 (V : Int)) := by
    rw [hJV, ← wid_get J (by omega)]
    exact (h.wd J (by omega)).1
  have q1 : (U : Int) + (T : Int) = (P : Int) := by omega
  have q2 : P ≤ 265 := p1
  have HG := Lib.hid h
  have HD := Lib.hid hd
  rw [← hK, ← hN, ← hV, ← hP, ← hS]
  have k16 : c ≤ 16 := by omega
  have j4 : J < 4 := by omega
  have hgl := (h.wd 0 (by omega)).2
  clear e1 hc hJ hK hN hP hS hV hU hT hok p1 p2 p3 h hd hi hJV
  obtain ⟨g2, hg2⟩ : ∃ g2, g2 = w.heap.size := ⟨_, rfl⟩
  obtain ⟨g3, hg3⟩ : ∃ g3, g3 = w.heap.size + 1 := ⟨_, rfl⟩
  go_enter_defers Tryd.func40, Tryd.ntmps40
  go_upto_region 3 with (go_at_call 45; ((with_reducible refine (HF.out _ (HG.out.below (two_bel _ _ _))).mono ?_); rintro e w1 ⟨rfl, b1⟩))
  obtain ⟨g4, hg4⟩ : ∃ g4, g4 = w1.heap.size := ⟨_, rfl⟩
  obtain ⟨w2, hw2⟩ : ∃ w2, w1.alloc (.cells #[.int .i64 (K : Int), .int .i64 (N : Int)] 86) = w2 := ⟨_, rfl⟩
  have hs1 := b1.size
  simp at hs1
  have O2 : Bk w2 g2 39 #[.int .u32 0, .int .i64 0, .int .i64 0, .int .i64 0, .int .i64 0, .int .i64 0] := by
    rw [← hw2, hg2]
    exact ((Bk.new w _ _ |>.alloc _).below b1 (by simp; omega)).alloc _
  have r2 : RO w g3 g4 K N w2 := by
    rw [← hw2]
    refine ⟨((two_bel w _ _).trans (b1.mono (by simp; omega))).alloc (by omega) _, ?_, ?_⟩
    · rw [hg3]
      exact ((Bk.newAt _ _ _ _ (by simp)).below b1 (by simp)).alloc _
    · rw [hg4]
      exact Bk.new _ _ _
  rw [hw2, ← hg3, ← hg2, ← hg4]
  have n23 : g3 ≠ g2 := by omega
  have n24 : g4 ≠ g2 := by omega
  have n34 : g4 ≠ g3 := by omega
  have l2 : w.heap.size ≤ g2 := by omega
  have l3 : w.heap.size ≤ g3 := by omega
  clear hw2 hg2 hg3 hg4 b1 hs1 HF
  have ji : (J : Int) < 4 := by omega
  have wP : IntKind.i64.wrap (P : Int) = (P : Int) := by rw [IntKind.wrap_i64]; omega
  refine SM.wp_region_steadyN (fun _ X => RO w g3 g4 K N X ∧ Bk X g2 39 #[.int .u32 0, .int .i64 0, .int .i64 0, .int .i64 0, .int .i64 0, .int .i64 0]) 13 (by kernel_rfl) (by kernel_rfl) rfl ⟨r2.drew, O2.drew⟩ ?_
  clear r2 O2
  (refine SM.seq_pure (v := ?_) (by rfl) (fun _ _ h => h) ?_ ?_; rotate_left; (· (intro L w' hS; have f0 := hS.1.c4.cell 0; have f1 := hS.1.c4.cell 1; have f2 := (hS.1.bel.cell (p := ⟨2, J, none⟩) hgl).trans hw; simp at f0 f1; go_simp; try with_reducible rfl)); simp only [Act.put, List.setIfInBounds_toArray, List.set_cons_zero, List.set_cons_succ])
  (refine SM.seq_pure (v := ?_) (by rfl) (fun _ _ h => h) ?_ ?_; rotate_left; (· (intro L w' hS; have f0 := hS.1.c4.cell 0; have f1 := hS.1.c4.cell 1; have f2 := (hS.1.bel.cell (p := ⟨2, J, none⟩) hgl).trans hw; simp at f0 f1; go_simp; try with_reducible rfl)); simp only [Act.put, List.setIfInBounds_toArray, List.set_cons_zero, List.set_cons_succ])
  (refine SM.seq_pure (v := ?_) (by rfl) (fun _ _ h => h) ?_ ?_; rotate_left; (· (intro L w' hS; have f0 := hS.1.c4.cell 0; have f1 := hS.1.c4.cell 1; have f2 := (hS.1.bel.cell (p := ⟨2, J, none⟩) hgl).trans hw; simp at f0 f1; go_simp; try with_reducible rfl)); simp only [Act.put, List.setIfInBounds_toArray, List.set_cons_zero, List.set_cons_succ])
  (refine SM.seq_pure (v := ?_) (by rfl) (fun _ _ h => h) ?_ ?_; rotate_left; (· (intro L w' hS; have f0 := hS.1.c4.cell 0; have f1 := hS.1.c4.cell 1; have f2 := (hS.1.bel.cell (p := ⟨2, J, none⟩) hgl).trans hw; simp at f0 f1; go_simp; try with_reducible rfl)); simp only [Act.put, List.setIfInBounds_toArray, List.set_cons_zero, List.set_cons_succ])
  (refine SM.seq_pure (v := ?_) (by rfl) (fun _ _ h => h) ?_ ?_; rotate_left; (· (intro L w' hS; have f0 := hS.1.c4.cell 0; have f1 := hS.1.c4.cell 1; have f2 := (hS.1.bel.cell (p := ⟨2, J, none⟩) hgl).trans hw; simp at f0 f1; go_simp; try with_reducible rfl)); simp only [Act.put, List.setIfInBounds_toArray, List.set_cons_zero, List.set_cons_succ])
  refine SM.seq_call (f := 50) (args := #[.int .i64 (N : Int), .int .i64 (V : Int)]) (v := .tuple #[.int .i64 (U : Int), .int .i64 (T : Int), .int .i64 (S : Int)]) (by rfl) ?_ ?_ ?_
  · intro L w' hS; go_simp
  · intro L w' hS; exact (HS.out _ (HD.out.below (hS.1.bel))).mono fun e w'' ⟨h1, h2⟩ => ⟨h1, by rw [← h2]; exact hS⟩
  simp only [Act.put, List.setIfInBounds_toArray, List.set_cons_zero, List.set_cons_succ]
  (refine SM.seq_pure (v := ?_) (by rfl) (fun _ _ h => h) ?_ ?_; rotate_left; (· (intro L w' hS; go_simp; try with_reducible rfl)); simp only [Act.put, List.setIfInBounds_toArray, List.set_cons_zero, List.set_cons_succ])
  (refine SM.seq_pure (v := ?_) (by rfl) (fun _ _ h => h) ?_ ?_; rotate_left; (· (intro L w' hS; go_simp; try with_reducible rfl)); simp only [Act.put, List.setIfInBounds_toArray, List.set_cons_zero, List.set_cons_succ])
  (refine SM.seq_pure (v := ?_) (by rfl) (fun _ _ h => h) ?_ ?_; rotate_left; (· (intro L w' hS; go_simp; try with_reducible rfl)); simp only [Act.put, List.setIfInBounds_toArray, List.set_cons_zero, List.set_cons_succ])
  (refine SM.seq_pure (v := ?_) (by rfl) (fun _ _ h => h) ?_ ?_; rotate_left; (· (intro L w' hS; go_simp; try with_reducible rfl)); simp only [Act.put, List.setIfInBounds_toArray, List.set_cons_zero, List.set_cons_succ])
  (refine SM.seq_pure (v := ?_) (by rfl) (fun _ _ h => h) ?_ ?_; rotate_left; (· (intro L w' hS; go_simp; try with_reducible rfl)); simp only [Act.put, List.setIfInBounds_toArray, List.set_cons_zero, List.set_cons_succ])
  (refine SM.seq_pure (v := ?_) (by rfl) (fun _ _ h => h) ?_ ?_; rotate_left; (· (intro L w' hS; go_simp; try with_reducible rfl)); simp only [Act.put, List.setIfInBounds_toArray, List.set_cons_zero, List.set_cons_succ])
  (refine SM.seq_pure (v := ?_) (by rfl) (fun _ _ h => h) ?_ ?_; rotate_left; (· (intro L w' hS; go_simp; try with_reducible rfl)); simp only [Act.put, List.setIfInBounds_toArray, List.set_cons_zero, List.set_cons_succ])
  refine SM.seq_nil ?_
  rintro w3 ⟨r3, O3⟩
  go_upto_region 4 with (fail)
  refine SM.wp_region_steadyN (SM.Lit g2 39 12 14 6 (vO c K N V P S) zO (RO w g3 g4 K N)) 26 (by kernel_rfl) (by kernel_rfl) rfl ⟨O3.drew, (fun _ k _ => SM.getD_rep 26 _), r3.drew⟩ ?_
  clear r3 O3
  (refine SM.seq_pure (v := ?_) (by rfl) (fun L w h => h.pure _ (by intro k hk; omega) (by omega)) ?_ ?_; rotate_left; (· (intro L w' hS; have f0 := hS.r.c4.cell 0; have f1 := hS.r.c4.cell 1; have f2 := (hS.r.bel.cell (p := ⟨2, J, none⟩) hgl).trans hw; simp at f0 f1; go_simp; try with_reducible rfl)); simp only [Act.put, List.setIfInBounds_toArray, List.set_cons_zero, List.set_cons_succ])
  (refine SM.seq_pure (v := ?_) (by rfl) (fun L w h => h.pure _ (by intro k hk; omega) (by omega)) ?_ ?_; rotate_left; (· (intro L w' hS; have f0 := hS.r.c4.cell 0; have f1 := hS.r.c4.cell 1; have f2 := (hS.r.bel.cell (p := ⟨2, J, none⟩) hgl).trans hw; simp at f0 f1; go_simp; try with_reducible rfl)); simp only [Act.put, List.setIfInBounds_toArray, List.set_cons_zero, List.set_cons_succ])
  (refine SM.seq_pure (v := ?_) (by rfl) (fun L w h => h.pure _ (by intro k hk; omega) (by omega)) ?_ ?_; rotate_left; (· (intro L w' hS; have f0 := hS.r.c4.cell 0; have f1 := hS.r.c4.cell 1; have f2 := (hS.r.bel.cell (p := ⟨2, J, none⟩) hgl).trans hw; simp at f0 f1; go_simp; try with_reducible rfl)); simp only [Act.put, List.setIfInBounds_toArray, List.set_cons_zero, List.set_cons_succ])
  (refine SM.seq_pure (v := ?_) (by rfl) (fun L w h => h.pure _ (by intro k hk; omega) (by omega)) ?_ ?_; rotate_left; (· (intro L w' hS; have f0 := hS.r.c4.cell 0; have f1 := hS.r.c4.cell 1; have f2 := (hS.r.bel.cell (p := ⟨2, J, none⟩) hgl).trans hw; simp at f0 f1; go_simp; try with_reducible rfl)); simp only [Act.put, List.setIfInBounds_toArray, List.set_cons_zero, List.set_cons_succ])
  (refine SM.seq_pure (v := ?_) (by rfl) (fun L w h => h.pure _ (by intro k hk; omega) (by omega)) ?_ ?_; rotate_left; (· (intro L w' hS; have f0 := hS.r.c4.cell 0; have f1 := hS.r.c4.cell 1; have f2 := (hS.r.bel.cell (p := ⟨2, J, none⟩) hgl).trans hw; simp at f0 f1; go_simp; try with_reducible rfl)); simp only [Act.put, List.setIfInBounds_toArray, List.set_cons_zero, List.set_cons_succ])
  (refine SM.seq_pure (v := ?_) (by rfl) (fun L w h => h.pure _ (by intro k hk; omega) (by omega)) ?_ ?_; rotate_left; (· (intro L w' hS; have f0 := hS.r.c4.cell 0; have f1 := hS.r.c4.cell 1; have f2 := (hS.r.bel.cell (p := ⟨2, J, none⟩) hgl).trans hw; simp at f0 f1; go_simp; try with_reducible rfl)); simp only [Act.put, List.setIfInBounds_toArray, List.set_cons_zero, List.set_cons_succ])
  (refine SM.seq_pure (v := ?_) (by rfl) (fun L w h => h.pure _ (by intro k hk; omega) (by omega)) ?_ ?_; rotate_left; (· (intro L w' hS; have f0 := hS.r.c4.cell 0; have f1 := hS.r.c4.cell 1; have f2 := (hS.r.bel.cell (p := ⟨2, J, none⟩) hgl).trans hw; simp at f0 f1; go_simp; try with_reducible rfl)); simp only [Act.put, List.setIfInBounds_toArray, List.set_cons_zero, List.set_cons_succ])
  (refine SM.seq_pure (v := ?_) (by rfl) (fun L w h => h.pure _ (by intro k hk; omega) (by omega)) ?_ ?_; rotate_left; (· (intro L w' hS; have f0 := hS.r.c4.cell 0; have f1 := hS.r.c4.cell 1; have f2 := (hS.r.bel.cell (p := ⟨2, J, none⟩) hgl).trans hw; simp at f0 f1; go_simp; try with_reducible rfl)); simp only [Act.put, List.setIfInBounds_toArray, List.set_cons_zero, List.set_cons_succ])
  (refine SM.seq_pure (v := ?_) (by rfl) (fun L w h => h.pure _ (by intro k hk; omega) (by omega)) ?_ ?_; rotate_left; (· (intro L w' hS; have f0 := hS.r.c4.cell 0; have f1 := hS.r.c4.cell 1; have f2 := (hS.r.bel.cell (p := ⟨2, J, none⟩) hgl).trans hw; simp at f0 f1; go_simp; try with_reducible rfl)); simp only [Act.put, List.setIfInBounds_toArray, List.set_cons_zero, List.set_cons_succ])
  (refine SM.seq_pure (v := ?_) (by rfl) (fun L w h => h.pure _ (by intro k hk; omega) (by omega)) ?_ ?_; rotate_left; (· (intro L w' hS; have f0 := hS.r.c4.cell 0; have f1 := hS.r.c4.cell 1; have f2 := (hS.r.bel.cell (p := ⟨2, J, none⟩) hgl).trans hw; simp at f0 f1; go_simp; try with_reducible rfl)); simp only [Act.put, List.setIfInBounds_toArray, List.set_cons_zero, List.set_cons_succ])
  (refine SM.seq_pure (v := ?_) (by rfl) (fun L w h => h.pure _ (by intro k hk; omega) (by omega)) ?_ ?_; rotate_left; (· (intro L w' hS; have f0 := hS.r.c4.cell 0; have f1 := hS.r.c4.cell 1; have f2 := (hS.r.bel.cell (p := ⟨2, J, none⟩) hgl).trans hw; simp at f0 f1; go_simp; try with_reducible rfl)); simp only [Act.put, List.setIfInBounds_toArray, List.set_cons_zero, List.set_cons_succ])
  (refine SM.seq_pure (v := ?_) (by rfl) (fun L w h => h.pure _ (by intro k hk; omega) (by omega)) ?_ ?_; rotate_left; (· (intro L w' hS; have f0 := hS.r.c4.cell 0; have f1 := hS.r.c4.cell 1; have f2 := (hS.r.bel.cell (p := ⟨2, J, none⟩) hgl).trans hw; simp at f0 f1; go_simp; try with_reducible rfl)); simp only [Act.put, List.setIfInBounds_toArray, List.set_cons_zero, List.set_cons_succ])
  refine SM.seq_store (by rfl) ?_ ?_
  · intro L w' hL h0 h1 hS
    have hz := hS.zeros h0
    have hb := hS.out
    rw [hz] at hb
    obtain ⟨x0, e0⟩ := hS.at_ 0 (by omega)
    obtain ⟨x1, e1⟩ := hS.at_ 1 (by omega)
    obtain ⟨x2, e2⟩ := hS.at_ 2 (by omega)
    obtain ⟨x3, e3⟩ := hS.at_ 3 (by omega)
    obtain ⟨x4, e4⟩ := hS.at_ 4 (by omega)
    obtain ⟨x5, e5⟩ := hS.at_ 5 (by omega)
    have z0 := hS.free 0
    have z1 := hS.free 1
    have z2 := hS.free 2
    have z3 := hS.free 3
    have z4 := hS.free 4
    have z5 := hS.free 5
    refine ⟨(((((w'.setCell ⟨g2, 0, none⟩ (.int .u32 0)).setCell ⟨g2, 1, none⟩ (.int .i64 0)).setCell ⟨g2, 2, none⟩ (.int .i64 0)).setCell ⟨g2, 3, none⟩ (.int .i64 0)).setCell ⟨g2, 4, none⟩ (.int .i64 0)).setCell ⟨g2, 5, none⟩ (.int .i64 0), ?_, ?_⟩
    · clear hz hb hS
      go_simp
    · refine hS.lay h0 (by omega) _ ?_ ?_ (by rw [hL]; decide)
      · rw [hz]
        exact (((((hb.put 0 (.int .u32 0)).put 1 (.int .i64 0)).put 2 (.int .i64 0)).put 3 (.int .i64 0)).put 4 (.int .i64 0)).put 5 (.int .i64 0)
      · exact (((((hS.r.put l2 n23 n24 _).put l2 n23 n24 _).put l2 n23 n24 _).put l2 n23 n24 _).put l2 n23 n24 _).put l2 n23 n24 _
  simp only [Act.put, List.setIfInBounds_toArray, List.set_cons_zero, List.set_cons_succ]
  (refine SM.seq_pure (v := ?_) (by rfl) (fun L w h => h.pure _ (by intro k hk; omega) (by omega)) ?_ ?_; rotate_left; (· (intro L w' hS; go_simp; try with_reducible rfl)); simp only [Act.put, List.setIfInBounds_toArray, List.set_cons_zero, List.set_cons_succ])
  refine SM.seq_store (by rfl) ?_ ?_
  · intro L w' hL h0 h1 hS
    obtain ⟨x, e0⟩ := hS.at_ 0 (by omega)
    have z0 := hS.free 0
    refine ⟨w'.setCell ⟨g2, 0, none⟩ (.int .u32 (c : Int)), ?_, hS.store 0 (by omega) (by rw [hL]; decide) (h1 ⟨12, .phase⟩ (by simp) rfl) (fun X hX => hX.put l2 n23 n24 _)⟩
    clear hS h0 h1
    go_simp
  simp only [Act.put, List.setIfInBounds_toArray, List.set_cons_zero, List.set_cons_succ]
  (refine SM.seq_pure (v := ?_) (by rfl) (fun L w h => h.pure _ (by intro k hk; omega) (by omega)) ?_ ?_; rotate_left; (· (intro L w' hS; go_simp; try with_reducible rfl)); simp only [Act.put, List.setIfInBounds_toArray, List.set_cons_zero, List.set_cons_succ])
  refine SM.seq_store (by rfl) ?_ ?_
  · intro L w' hL h0 h1 hS
    obtain ⟨x, e0⟩ := hS.at_ 1 (by omega)
    have z0 := hS.free 1
    refine ⟨w'.setCell ⟨g2, 1, none⟩ (.int .i64 (K : Int)), ?_, hS.store 1 (by omega) (by rw [hL]; decide) (h1 ⟨12, .phase⟩ (by simp) rfl) (fun X hX => hX.put l2 n23 n24 _)⟩
    clear hS h0 h1
    go_simp
  simp only [Act.put, List.setIfInBounds_toArray, List.set_cons_zero, List.set_cons_succ]
  (refine SM.seq_pure (v := ?_) (by rfl) (fun L w h => h.pure _ (by intro k hk; omega) (by omega)) ?_ ?_; rotate_left; (· (intro L w' hS; go_simp; try with_reducible rfl)); simp only [Act.put, List.setIfInBounds_toArray, List.set_cons_zero, List.set_cons_succ])
  refine SM.seq_store (by rfl) ?_ ?_
  · intro L w' hL h0 h1 hS
    obtain ⟨x, e0⟩ := hS.at_ 2 (by omega)
    have z0 := hS.free 2
    refine ⟨w'.setCell ⟨g2, 2, none⟩ (.int .i64 (N : Int)), ?_, hS.store 2 (by omega) (by rw [hL]; decide) (h1 ⟨12, .phase⟩ (by simp) rfl) (fun X hX => hX.put l2 n23 n24 _)⟩
    clear hS h0 h1
    go_simp
  simp only [Act.put, List.setIfInBounds_toArray, List.set_cons_zero, List.set_cons_succ]
  (refine SM.seq_pure (v := ?_) (by rfl) (fun L w h => h.pure _ (by intro k hk; omega) (by omega)) ?_ ?_; rotate_left; (· (intro L w' hS; go_simp; try with_reducible rfl)); simp only [Act.put, List.setIfInBounds_toArray, List.set_cons_zero, List.set_cons_succ])
  refine SM.seq_store (by rfl) ?_ ?_
  · intro L w' hL h0 h1 hS
    obtain ⟨x, e0⟩ := hS.at_ 3 (by omega)
    have z0 := hS.free 3
    refine ⟨w'.setCell ⟨g2, 3, none⟩ (.int .i64 (V : Int)), ?_, hS.store 3 (by omega) (by rw [hL]; decide) (h1 ⟨12, .phase⟩ (by simp) rfl) (fun X hX => hX.put l2 n23 n24 _)⟩
    clear hS h0 h1
    go_simp
  simp only [Act.put, List.setIfInBounds_toArray, List.set_cons_zero, List.set_cons_succ]
  (refine SM.seq_pure (v := ?_) (by rfl) (fun L w h => h.pure _ (by intro k hk; omega) (by omega)) ?_ ?_; rotate_left; (· (intro L w' hS; go_simp; try with_reducible rfl)); simp only [Act.put, List.setIfInBounds_toArray, List.set_cons_zero, List.set_cons_succ])
  refine SM.seq_store (by rfl) ?_ ?_
  · intro L w' hL h0 h1 hS
    obtain ⟨x, e0⟩ := hS.at_ 4 (by omega)
    have z0 := hS.free 4
    refine ⟨w'.setCell ⟨g2, 4, none⟩ (.int .i64 (P : Int)), ?_, hS.store 4 (by omega) (by rw [hL]; decide) (h1 ⟨12, .phase⟩ (by simp) rfl) (fun X hX => hX.put l2 n23 n24 _)⟩
    clear hS h0 h1
    go_simp
  simp only [Act.put, List.setIfInBounds_toArray, List.set_cons_zero, List.set_cons_succ]
  (refine SM.seq_pure (v := ?_) (by rfl) (fun L w h => h.pure _ (by intro k hk; omega) (by omega)) ?_ ?_; rotate_left; (· (intro L w' hS; go_simp; try with_reducible rfl)); simp only [Act.put, List.setIfInBounds_toArray, List.set_cons_zero, List.set_cons_succ])
  refine SM.seq_store (by rfl) ?_ ?_
  · intro L w' hL h0 h1 hS
    obtain ⟨x, e0⟩ := hS.at_ 5 (by omega)
    have z0 := hS.free 5
    refine ⟨w'.setCell ⟨g2, 5, none⟩ (.int .i64 (S : Int)), ?_, hS.store 5 (by omega) (by rw [hL]; decide) (h1 ⟨12, .phase⟩ (by simp) rfl) (fun X hX => hX.put l2 n23 n24 _)⟩
    clear hS h0 h1
    go_simp
  simp only [Act.put, List.setIfInBounds_toArray, List.set_cons_zero, List.set_cons_succ]
  refine SM.seq_store (by rfl) ?_ ?_
  · intro L w' hL h0 h1 hS
    have e0 := hS.r.c3.cell 0
    have z0 := hS.r.c3.frozen 0
    simp at e0
    refine ⟨w'.setCell ⟨g3, 0, none⟩ (.int .i64 0), ?_, ?_⟩
    · clear hS h0 h1
      go_simp
    · have h9 : SM.Lit g2 39 12 14 6 (vO c K N V P S) zO (RO w g3 g4 K N) L (w'.setCell ⟨g3, 0, none⟩ (.int .i64 0)) := ⟨hS.out.far (show g2 ≠ g3 from fun e => n23 e.symm) _, hS.zero, hS.r.code l3 n34⟩
      exact h9.pure _ (by intro k hk; omega) (by omega)
  simp only [Act.put, List.setIfInBounds_toArray, List.set_cons_zero, List.set_cons_succ]
  refine SM.seq_nil ?_
  intro w4 s4
  have O4 : Bk w4 g2 39 #[.int .u32 (c : Int), .int .i64 (K : Int), .int .i64 (N : Int), .int .i64 (V : Int), .int .i64 (P : Int), .int .i64 (S : Int)] := s4.out
  have r4 := s4.r
  clear s4
  go_wp2
  exact ots_ret (w := w) O4 r4.c3 (fun e => n23 e.symm) r4.bel l3 rfl rfl
end Go.Proofs.YtccnbepccajdoaaDoor.S8
