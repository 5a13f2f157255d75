/-
  What the document's own pair of sets is (tearoffref12.Sets). No statement is proved here. (Written by genh11.py.)
-/
import Derived.Test.YtccnbepccajdoaaDoorHs2
import Derived.Test.YtccnbepccajdoaaDoorSetR
namespace Go.Proofs.YtccnbepccajdoaaDoor.S13
set_option linter.unusedSimpArgs false
set_option linter.unusedVariables false
open Go.RowKit S7 S8

def z6 : Array Value := #[.int .u32 0, .int .i64 0, .int .i64 0, .int .i64 0, .int .i64 0, .int .i64 0]
def z4 : Array Value := #[.int .u32 0, .int .i64 0, .int .i64 0, .int .i64 0]
/-- What holds in the region of Sets. -/
structure IR (W : World) (g2 g3 g5 g7 : Nat) (v6 v4 : Array Value) (L : Array Bool) (X : World) : Prop where
  bel : Below W.heap.size W X
  b5 : Bk X g5 39 v6
  b7 : Bk X g7 41 v4
  b2 : Bk X g2 39 (if L.getD 22 false = true then v6 else z6)
  b3 : Bk X g3 41 (if L.getD 23 false = true then v4 else z4)
theorem IR.pure {W X : World} {g2 g3 g5 g7 : Nat} {v6 v4 : Array Value} {L : Array Bool} (h : IR W g2 g3 g5 g7 v6 v4 L X) (i : Nat) (h1 : i ≠ 22) (h2 : i ≠ 23) : IR W g2 g3 g5 g7 v6 v4 (L.setIfInBounds i true) X :=
  ⟨h.bel, h.b5, h.b7, by rw [SG.getD_ne h1]; exact h.b2, by rw [SG.getD_ne h2]; exact h.b3⟩
theorem six_size {v6 : Array Value} (hv : v6.size = 6) (c : Bool) : (if c = true then v6 else z6).size = v6.size := by
  split
  · rfl
  · rw [hv]; rfl
theorem four_size {v4 : Array Value} (hv : v4.size = 4) (c : Bool) : (if c = true then v4 else z4).size = v4.size := by
  split
  · rfl
  · rw [hv]; rfl
theorem IR.two {W X : World} {g2 g3 g5 g7 : Nat} {v6 v4 : Array Value} {L : Array Bool} (h : IR W g2 g3 g5 g7 v6 v4 L X) (hv : v6.size = 6) (hL : 22 < L.size) (hW : W.heap.size ≤ g2) (n3 : g3 ≠ g2) (n5 : g5 ≠ g2) (n7 : g7 ≠ g2) : IR W g2 g3 g5 g7 v6 v4 (L.setIfInBounds 22 true) (X.setCells g2 0 v6.toList) := by
  refine ⟨below_cells g2 hW _ _ _ h.bel, far_cells g2 n5 _ _ _ h.b5, far_cells g2 n7 _ _ _ h.b7, ?_, ?_⟩
  · rw [SG.getD_new hL, if_pos rfl]
    exact bk_cells h.b2 (six_size hv _)
  · rw [SG.getD_ne (by omega)]
    exact far_cells g2 n3 _ _ _ h.b3
theorem IR.three {W X : World} {g2 g3 g5 g7 : Nat} {v6 v4 : Array Value} {L : Array Bool} (h : IR W g2 g3 g5 g7 v6 v4 L X) (hv : v4.size = 4) (hL : 23 < L.size) (hW : W.heap.size ≤ g3) (n2 : g2 ≠ g3) (n5 : g5 ≠ g3) (n7 : g7 ≠ g3) : IR W g2 g3 g5 g7 v6 v4 (L.setIfInBounds 23 true) (X.setCells g3 0 v4.toList) := by
  refine ⟨below_cells g3 hW _ _ _ h.bel, far_cells g3 n5 _ _ _ h.b5, far_cells g3 n7 _ _ _ h.b7, ?_, ?_⟩
  · rw [SG.getD_ne (by omega)]
    exact far_cells g3 n2 _ _ _ h.b2
  · rw [SG.getD_new hL, if_pos rfl]
    exact bk_cells h.b3 (four_size hv _)
theorem results_three {P : Program} {fn : Func} {p q r : Tmp} {ty ty' : TypeId} (h : fn.results = #[.cell p ty, .cell q ty', .tmp r]) (tmps : Array Value) (w : World) (g g' : Nat) (t t' : TypeId) (cs cs' : Array Value) (d d' : TypeDesc)
    (hp : tmps.getD p undef = .pointer (some ⟨g, 0, none⟩)) (hg : Bk w g t cs) (hu : P.underlying ty = some d) (hd : (match d with | .struct _ | .array _ _ => true | _ => false) = true) (hi : (P.info? ty).map (·.size) = some cs.size)
    (hq : tmps.getD q undef = .pointer (some ⟨g', 0, none⟩)) (hg' : Bk w g' t' cs') (hu' : P.underlying ty' = some d') (hd' : (match d' with | .struct _ | .array _ _ => true | _ => false) = true) (hi' : (P.info? ty').map (·.size) = some cs'.size) :
    (results fn tmps).run P w = .ok (.tuple #[.agg cs, .agg cs', tmps.getD r undef]) w := by
  have hp' : tmps[p]?.getD undef = .pointer (some ⟨g, 0, none⟩) := by simpa using hp
  have hq' : tmps[q]?.getD undef = .pointer (some ⟨g', 0, none⟩) := by simpa using hq
  simp [results, h, hp', hq', asAddr, run_loadVar_row w g t ty cs (0, 0) d hg hu hd hi, run_loadVar_row w g' t' ty' cs' (0, 0) d' hg' hu' hd' hi']

set_option maxRecDepth 100000 in
set_option maxHeartbeats 4000000 in
theorem rsets_a (a b : Nat) (o0 o1 o2 o3 o4 o5 t0 t1 t2 t3 : Int) (w : World)
    (HO : Hid (∀ X, Calls Tryd.prog 24 #[.int .u32 (a : Int)] X fun e w' => e = .returned (.tuple #[.agg #[.int .u32 o0, .int .i64 o1, .int .i64 o2, .int .i64 o3, .int .i64 o4, .int .i64 o5], .int .i64 4]) ∧ Below X.heap.size X w'))
    (HT : Hid (∀ X, Calls Tryd.prog 25 #[.int .u32 (b : Int)] X fun e w' => e = .returned (.tuple #[.agg #[.int .u32 t0, .int .i64 t1, .int .i64 t2, .int .i64 t3], .int .i64 4]) ∧ Below X.heap.size X w')) :
    Calls Tryd.prog 11 #[.agg #[.int .u32 (a : Int), .int .u32 (b : Int)]] w fun e w' => e = .returned (.tuple #[.agg #[.int .u32 o0, .int .i64 o1, .int .i64 o2, .int .i64 o3, .int .i64 o4, .int .i64 o5], .agg #[.int .u32 t0, .int .i64 t1, .int .i64 t2, .int .i64 t3], .bool false]) ∧ Below w.heap.size w w' := by
  have hbx := Bk.new w 34 #[.int .u32 (a : Int), .int .u32 (b : Int)]
  have HX := Lib.hid ((hbx.alloc (.cells z6 39)).alloc (.cells z4 41))
  have H2 := Lib.hid ((Bk.newAt (w.alloc (.cells #[.int .u32 (a : Int), .int .u32 (b : Int)] 34)) 39 z6 (w.heap.size + 1) (by simp)).alloc (.cells z4 41))
  have H3 := Lib.hid (Bk.newAt ((w.alloc (.cells #[.int .u32 (a : Int), .int .u32 (b : Int)] 34)).alloc (.cells z6 39)) 41 z4 (w.heap.size + 1 + 1) (by simp))
  have B0 := Lib.hid ((two_bel w (.cells #[.int .u32 (a : Int), .int .u32 (b : Int)] 34) (.cells z6 39)).alloc (by simp; omega) (.cells z4 41))
  have s0 : (((w.alloc (.cells #[.int .u32 (a : Int), .int .u32 (b : Int)] 34)).alloc (.cells z6 39)).alloc (.cells z4 41)).heap.size = w.heap.size + 3 := by simp
  have S0' := Lib.hid s0
  clear hbx s0
  unfold z6 z4 at HX H2 H3 B0 S0'
  go_enter Tryd.func11, Tryd.ntmps11
  go_upto_region 3 with (first
    | (go_at_call 24; ((with_reducible refine (HO.out _).mono ?_); rintro e w1 ⟨rfl, b1⟩; have X1 := Lib.hid (HX.out.below b1 HX.out.lt); have R1 := Lib.hid (H2.out.below b1 H2.out.lt); have T1 := Lib.hid (H3.out.below b1 H3.out.lt); have B1 := Lib.hid (B0.out.trans (b1.mono B0.out.size)); have z1 := b1.size; rw [S0'.out] at z1; have c0 := X1.out.cell 0; have c1 := X1.out.cell 1; simp at c0 c1; have zz : w.heap.size < w1.heap.size := Nat.lt_of_lt_of_le (Nat.lt_add_of_pos_right (by decide)) z1; clear b1))
    | (go_at_call 25; ((with_reducible refine (HT.out _).mono ?_); rintro e w2 ⟨rfl, b2⟩; have Y2 := Lib.hid ((Bk.new w1 39 #[.int .u32 o0, .int .i64 o1, .int .i64 o2, .int .i64 o3, .int .i64 o4, .int .i64 o5]).below b2 (by simp)); have R2 := Lib.hid ((R1.out.alloc (.cells #[.int .u32 o0, .int .i64 o1, .int .i64 o2, .int .i64 o3, .int .i64 o4, .int .i64 o5] 39)).below b2 (by simp; omega)); have T2 := Lib.hid ((T1.out.alloc (.cells #[.int .u32 o0, .int .i64 o1, .int .i64 o2, .int .i64 o3, .int .i64 o4, .int .i64 o5] 39)).below b2 (by simp; omega)); have B2 := Lib.hid ((B1.out.alloc B1.out.size (.cells #[.int .u32 o0, .int .i64 o1, .int .i64 o2, .int .i64 o3, .int .i64 o4, .int .i64 o5] 39)).trans (b2.mono (by simp; omega))); have z2 := b2.size; simp at z2; clear b2)))
  obtain ⟨g2, hg2⟩ : ∃ g, g = w.heap.size + 1 := ⟨_, rfl⟩
  obtain ⟨g3, hg3⟩ : ∃ g, g = w.heap.size + 1 + 1 := ⟨_, rfl⟩
  obtain ⟨g5, hg5⟩ : ∃ g, g = w1.heap.size := ⟨_, rfl⟩
  obtain ⟨g7, hg7⟩ : ∃ g, g = w2.heap.size := ⟨_, rfl⟩
  have hI : IR w g2 g3 g5 g7 #[.int .u32 o0, .int .i64 o1, .int .i64 o2, .int .i64 o3, .int .i64 o4, .int .i64 o5] #[.int .u32 t0, .int .i64 t1, .int .i64 t2, .int .i64 t3] (Array.replicate 25 false) (w2.alloc (.cells #[.int .u32 t0, .int .i64 t1, .int .i64 t2, .int .i64 t3] 41)).drew := by
    rw [hg2, hg3, hg5, hg7]
    refine ⟨(B2.out.alloc (by omega) _).drew, (Y2.out.alloc _).drew, (Bk.new _ _ _).drew, ?_, ?_⟩
    · rw [SG.getD_rep, if_neg (by simp)]
      exact (R2.out.alloc _).drew
    · rw [SG.getD_rep, if_neg (by simp)]
      exact (T2.out.alloc _).drew
  have l2 : w.heap.size ≤ g2 := by omega
  have l3 : w.heap.size ≤ g3 := by omega
  have n32 : g3 ≠ g2 := by omega
  have n52 : g5 ≠ g2 := by omega
  have n72 : g7 ≠ g2 := by omega
  have n23 : g2 ≠ g3 := by omega
  have n53 : g5 ≠ g3 := by omega
  have n73 : g7 ≠ g3 := by omega
  rw [← hg3, ← hg2, ← hg5, ← hg7]
  clear hg2 hg3 hg5 hg7
  refine SG.wp_region_ghost (γ := Unit) (fun _ => [.agg #[.int .u32 o0, .int .i64 o1, .int .i64 o2, .int .i64 o3, .int .i64 o4, .int .i64 o5], .agg #[.int .u32 t0, .int .i64 t1, .int .i64 t2, .int .i64 t3], .int .i64 4, .bool false, .bool false, undef, undef, .bool false, .bool false, undef, undef, undef, undef, undef, .bool false, .bool false, undef, undef, undef, undef, undef, .bool false, undef, undef, .bool false]) (fun _ => IR w g2 g3 g5 g7 #[.int .u32 o0, .int .i64 o1, .int .i64 o2, .int .i64 o3, .int .i64 o4, .int .i64 o5] #[.int .u32 t0, .int .i64 t1, .int .i64 t2, .int .i64 t3]) 25 (by kernel_rfl) (by kernel_rfl) rfl () hI ?_
  clear hI
  refine SG.seq_pure (fun _ => .agg #[.int .u32 o0, .int .i64 o1, .int .i64 o2, .int .i64 o3, .int .i64 o4, .int .i64 o5]) (fun _ => rfl) (fun _ => by rfl) (fun _ L X hL h => h.pure 0 (by decide) (by decide)) ?_ ?_
  · intro _ L X hS; have f0 := hS.b5.cell 0; have f1 := hS.b5.cell 1; have f2 := hS.b5.cell 2; have f3 := hS.b5.cell 3; have f4 := hS.b5.cell 4; have f5 := hS.b5.cell 5; simp at f0 f1 f2 f3 f4 f5; go_simp
  simp only [Act.put, List.setIfInBounds_toArray, List.set_cons_zero, List.set_cons_succ]
  refine SG.seq_pure (fun _ => .agg #[.int .u32 t0, .int .i64 t1, .int .i64 t2, .int .i64 t3]) (fun _ => rfl) (fun _ => by rfl) (fun _ L X hL h => h.pure 1 (by decide) (by decide)) ?_ ?_
  · intro _ L X hS; have f0 := hS.b7.cell 0; have f1 := hS.b7.cell 1; have f2 := hS.b7.cell 2; have f3 := hS.b7.cell 3; simp at f0 f1 f2 f3; go_simp
  simp only [Act.put, List.setIfInBounds_toArray, List.set_cons_zero, List.set_cons_succ]
  refine SG.seq_pure (fun _ => .int .i64 4) (fun _ => rfl) (fun _ => by rfl) (fun _ L X hL h => h.pure 2 (by decide) (by decide)) ?_ ?_
  · intro _ L X hS; go_simp
  simp only [Act.put, List.setIfInBounds_toArray, List.set_cons_zero, List.set_cons_succ]
  refine SG.seq_pure (fun _ => .bool false) (fun _ => rfl) (fun _ => by rfl) (fun _ L X hL h => h.pure 3 (by decide) (by decide)) ?_ ?_
  · intro _ L X hS; go_simp
  simp only [Act.put, List.setIfInBounds_toArray, List.set_cons_zero, List.set_cons_succ]
  refine SG.seq_pure (fun _ => .bool false) (fun _ => rfl) (fun _ => by rfl) (fun _ L X hL h => h.pure 4 (by decide) (by decide)) ?_ ?_
  · intro _ L X hS; go_simp
  simp only [Act.put, List.setIfInBounds_toArray, List.set_cons_zero, List.set_cons_succ]
  refine SG.seq_skip (fun _ => rfl) (fun _ => by rfl) (fun _ L X hL h => h.pure 5 (by decide) (by decide)) ?_
  simp only [Act.put, List.setIfInBounds_toArray, List.set_cons_zero, List.set_cons_succ]
  refine SG.seq_skip (fun _ => rfl) (fun _ => by rfl) (fun _ L X hL h => h.pure 6 (by decide) (by decide)) ?_
  simp only [Act.put, List.setIfInBounds_toArray, List.set_cons_zero, List.set_cons_succ]
  refine SG.seq_pure (fun _ => .bool false) (fun _ => rfl) (fun _ => by rfl) (fun _ L X hL h => h.pure 7 (by decide) (by decide)) ?_ ?_
  · intro _ L X hS; go_simp
  simp only [Act.put, List.setIfInBounds_toArray, List.set_cons_zero, List.set_cons_succ]
  refine SG.seq_pure (fun _ => .bool false) (fun _ => rfl) (fun _ => by rfl) (fun _ L X hL h => h.pure 8 (by decide) (by decide)) ?_ ?_
  · intro _ L X hS; go_simp
  simp only [Act.put, List.setIfInBounds_toArray, List.set_cons_zero, List.set_cons_succ]
  refine SG.seq_skip (fun _ => rfl) (fun _ => by rfl) (fun _ L X hL h => h.pure 9 (by decide) (by decide)) ?_
  simp only [Act.put, List.setIfInBounds_toArray, List.set_cons_zero, List.set_cons_succ]
  refine SG.seq_skip (fun _ => rfl) (fun _ => by rfl) (fun _ L X hL h => h.pure 10 (by decide) (by decide)) ?_
  simp only [Act.put, List.setIfInBounds_toArray, List.set_cons_zero, List.set_cons_succ]
  refine SG.seq_skip (fun _ => rfl) (fun _ => by rfl) (fun _ L X hL h => h.pure 11 (by decide) (by decide)) ?_
  simp only [Act.put, List.setIfInBounds_toArray, List.set_cons_zero, List.set_cons_succ]
  refine SG.seq_skip (fun _ => rfl) (fun _ => by rfl) (fun _ L X hL h => h.pure 12 (by decide) (by decide)) ?_
  simp only [Act.put, List.setIfInBounds_toArray, List.set_cons_zero, List.set_cons_succ]
  refine SG.seq_skip (fun _ => rfl) (fun _ => by rfl) (fun _ L X hL h => h.pure 13 (by decide) (by decide)) ?_
  simp only [Act.put, List.setIfInBounds_toArray, List.set_cons_zero, List.set_cons_succ]
  refine SG.seq_pure (fun _ => .bool false) (fun _ => rfl) (fun _ => by rfl) (fun _ L X hL h => h.pure 14 (by decide) (by decide)) ?_ ?_
  · intro _ L X hS; go_simp
  simp only [Act.put, List.setIfInBounds_toArray, List.set_cons_zero, List.set_cons_succ]
  refine SG.seq_pure (fun _ => .bool false) (fun _ => rfl) (fun _ => by rfl) (fun _ L X hL h => h.pure 15 (by decide) (by decide)) ?_ ?_
  · intro _ L X hS; go_simp
  simp only [Act.put, List.setIfInBounds_toArray, List.set_cons_zero, List.set_cons_succ]
  refine SG.seq_skip (fun _ => rfl) (fun _ => by rfl) (fun _ L X hL h => h.pure 16 (by decide) (by decide)) ?_
  simp only [Act.put, List.setIfInBounds_toArray, List.set_cons_zero, List.set_cons_succ]
  refine SG.seq_skip (fun _ => rfl) (fun _ => by rfl) (fun _ L X hL h => h.pure 17 (by decide) (by decide)) ?_
  simp only [Act.put, List.setIfInBounds_toArray, List.set_cons_zero, List.set_cons_succ]
  refine SG.seq_skip (fun _ => rfl) (fun _ => by rfl) (fun _ L X hL h => h.pure 18 (by decide) (by decide)) ?_
  simp only [Act.put, List.setIfInBounds_toArray, List.set_cons_zero, List.set_cons_succ]
  refine SG.seq_skip (fun _ => rfl) (fun _ => by rfl) (fun _ L X hL h => h.pure 19 (by decide) (by decide)) ?_
  simp only [Act.put, List.setIfInBounds_toArray, List.set_cons_zero, List.set_cons_succ]
  refine SG.seq_skip (fun _ => rfl) (fun _ => by rfl) (fun _ L X hL h => h.pure 20 (by decide) (by decide)) ?_
  simp only [Act.put, List.setIfInBounds_toArray, List.set_cons_zero, List.set_cons_succ]
  refine SG.seq_pure (fun _ => .bool false) (fun _ => rfl) (fun _ => by rfl) (fun _ L X hL h => h.pure 21 (by decide) (by decide)) ?_ ?_
  · intro _ L X hS; go_simp
  simp only [Act.put, List.setIfInBounds_toArray, List.set_cons_zero, List.set_cons_succ]
  refine SG.seq_store (fun _ => rfl) (fun _ => by rfl) ?_ ?_
  · intro _ L X hL h0 hd hS
    exact ⟨_, run_store_row 39 _ _ rfl g2 _ _ #[.int .u32 o0, .int .i64 o1, .int .i64 o2, .int .i64 o3, .int .i64 o4, .int .i64 o5] (by rfl) (by rfl) hS.b2 (six_size rfl _) Tryd.infoOts (all_oneCell_toArray (by simp [Value.oneCell'])), hS.two rfl (by rw [hL]; decide) l2 n32 n52 n72⟩
  simp only [Act.put, List.setIfInBounds_toArray, List.set_cons_zero, List.set_cons_succ]
  refine SG.seq_store (fun _ => rfl) (fun _ => by rfl) ?_ ?_
  · intro _ L X hL h0 hd hS
    exact ⟨_, run_store_row 41 _ _ rfl g3 _ _ #[.int .u32 t0, .int .i64 t1, .int .i64 t2, .int .i64 t3] (by rfl) (by rfl) hS.b3 (four_size rfl _) Tryd.infoTree (all_oneCell_toArray (by simp [Value.oneCell'])), hS.three rfl (by rw [hL]; decide) l3 n23 n53 n73⟩
  simp only [Act.put, List.setIfInBounds_toArray, List.set_cons_zero, List.set_cons_succ]
  refine SG.seq_pure (fun _ => .bool false) (fun _ => rfl) (fun _ => by rfl) (fun _ L X hL h => h.pure 24 (by decide) (by decide)) ?_ ?_
  · intro _ L X hS; go_simp
  simp only [Act.put, List.setIfInBounds_toArray, List.set_cons_zero, List.set_cons_succ]
  refine SG.seq_nil (fun _ X hS => ?_)
  have e2 := hS.b2
  have e3 := hS.b3
  rw [if_pos (by rfl)] at e2 e3
  have E2 := Lib.hid e2
  have E3 := Lib.hid e3
  have EB := Lib.hid hS.bel
  clear hS e2 e3
  go_wp2
  refine bodyPost_ret (results_three rfl _ _ g2 g3 _ _ #[.int .u32 o0, .int .i64 o1, .int .i64 o2, .int .i64 o3, .int .i64 o4, .int .i64 o5] #[.int .u32 t0, .int .i64 t1, .int .i64 t2, .int .i64 t3] _ _ rfl E2.out Tryd.underlying39 rfl Tryd.infoOts rfl E3.out Tryd.underlying41 rfl Tryd.infoTree) rfl ?_
  exact ⟨rfl, EB.out⟩

set_option maxRecDepth 100000 in
set_option maxHeartbeats 4000000 in
theorem rsets_b (a b : Nat) (o0 o1 o2 o3 o4 o5 t0 t1 t2 t3 : Int) (w : World)
    (HO : Hid (∀ X, Calls Tryd.prog 24 #[.int .u32 (a : Int)] X fun e w' => e = .returned (.tuple #[.agg #[.int .u32 o0, .int .i64 o1, .int .i64 o2, .int .i64 o3, .int .i64 o4, .int .i64 o5], .int .i64 0]) ∧ Below X.heap.size X w'))
    (HT : Hid (∀ X, Calls Tryd.prog 25 #[.int .u32 (b : Int)] X fun e w' => e = .returned (.tuple #[.agg #[.int .u32 t0, .int .i64 t1, .int .i64 t2, .int .i64 t3], .int .i64 4]) ∧ Below X.heap.size X w')) :
    Calls Tryd.prog 11 #[.agg #[.int .u32 (a : Int), .int .u32 (b : Int)]] w fun e w' => e = .returned (.tuple #[.agg #[.int .u32 o0, .int .i64 o1, .int .i64 o2, .int .i64 o3, .int .i64 o4, .int .i64 o5], .agg #[.int .u32 t0, .int .i64 t1, .int .i64 t2, .int .i64 t3], .bool false]) ∧ Below w.heap.size w w' := by
  have hbx := Bk.new w 34 #[.int .u32 (a : Int), .int .u32 (b : Int)]
  have HX := Lib.hid ((hbx.alloc (.cells z6 39)).alloc (.cells z4 41))
  have H2 := Lib.hid ((Bk.newAt (w.alloc (.cells #[.int .u32 (a : Int), .int .u32 (b : Int)] 34)) 39 z6 (w.heap.size + 1) (by simp)).alloc (.cells z4 41))
  have H3 := Lib.hid (Bk.newAt ((w.alloc (.cells #[.int .u32 (a : Int), .int .u32 (b : Int)] 34)).alloc (.cells z6 39)) 41 z4 (w.heap.size + 1 + 1) (by simp))
  have B0 := Lib.hid ((two_bel w (.cells #[.int .u32 (a : Int), .int .u32 (b : Int)] 34) (.cells z6 39)).alloc (by simp; omega) (.cells z4 41))
  have s0 : (((w.alloc (.cells #[.int .u32 (a : Int), .int .u32 (b : Int)] 34)).alloc (.cells z6 39)).alloc (.cells z4 41)).heap.size = w.heap.size + 3 := by simp
  have S0' := Lib.hid s0
  clear hbx s0
  unfold z6 z4 at HX H2 H3 B0 S0'
  go_enter Tryd.func11, Tryd.ntmps11
  go_upto_region 3 with (first
    | (go_at_call 24; ((with_reducible refine (HO.out _).mono ?_); rintro e w1 ⟨rfl, b1⟩; have X1 := Lib.hid (HX.out.below b1 HX.out.lt); have R1 := Lib.hid (H2.out.below b1 H2.out.lt); have T1 := Lib.hid (H3.out.below b1 H3.out.lt); have B1 := Lib.hid (B0.out.trans (b1.mono B0.out.size)); have z1 := b1.size; rw [S0'.out] at z1; have c0 := X1.out.cell 0; have c1 := X1.out.cell 1; simp at c0 c1; have zz : w.heap.size < w1.heap.size := Nat.lt_of_lt_of_le (Nat.lt_add_of_pos_right (by decide)) z1; clear b1))
    | (go_at_call 25; ((with_reducible refine (HT.out _).mono ?_); rintro e w2 ⟨rfl, b2⟩; have Y2 := Lib.hid ((Bk.new w1 39 #[.int .u32 o0, .int .i64 o1, .int .i64 o2, .int .i64 o3, .int .i64 o4, .int .i64 o5]).below b2 (by simp)); have R2 := Lib.hid ((R1.out.alloc (.cells #[.int .u32 o0, .int .i64 o1, .int .i64 o2, .int .i64 o3, .int .i64 o4, .int .i64 o5] 39)).below b2 (by simp; omega)); have T2 := Lib.hid ((T1.out.alloc (.cells #[.int .u32 o0, .int .i64 o1, .int .i64 o2, .int .i64 o3, .int .i64 o4, .int .i64 o5] 39)).below b2 (by simp; omega)); have B2 := Lib.hid ((B1.out.alloc B1.out.size (.cells #[.int .u32 o0, .int .i64 o1, .int .i64 o2, .int .i64 o3, .int .i64 o4, .int .i64 o5] 39)).trans (b2.mono (by simp; omega))); have z2 := b2.size; simp at z2; clear b2)))
  obtain ⟨g2, hg2⟩ : ∃ g, g = w.heap.size + 1 := ⟨_, rfl⟩
  obtain ⟨g3, hg3⟩ : ∃ g, g = w.heap.size + 1 + 1 := ⟨_, rfl⟩
  obtain ⟨g5, hg5⟩ : ∃ g, g = w1.heap.size := ⟨_, rfl⟩
  obtain ⟨g7, hg7⟩ : ∃ g, g = w2.heap.size := ⟨_, rfl⟩
  have hI : IR w g2 g3 g5 g7 #[.int .u32 o0, .int .i64 o1, .int .i64 o2, .int .i64 o3, .int .i64 o4, .int .i64 o5] #[.int .u32 t0, .int .i64 t1, .int .i64 t2, .int .i64 t3] (Array.replicate 25 false) (w2.alloc (.cells #[.int .u32 t0, .int .i64 t1, .int .i64 t2, .int .i64 t3] 41)).drew := by
    rw [hg2, hg3, hg5, hg7]
    refine ⟨(B2.out.alloc (by omega) _).drew, (Y2.out.alloc _).drew, (Bk.new _ _ _).drew, ?_, ?_⟩
    · rw [SG.getD_rep, if_neg (by simp)]
      exact (R2.out.alloc _).drew
    · rw [SG.getD_rep, if_neg (by simp)]
      exact (T2.out.alloc _).drew
  have l2 : w.heap.size ≤ g2 := by omega
  have l3 : w.heap.size ≤ g3 := by omega
  have n32 : g3 ≠ g2 := by omega
  have n52 : g5 ≠ g2 := by omega
  have n72 : g7 ≠ g2 := by omega
  have n23 : g2 ≠ g3 := by omega
  have n53 : g5 ≠ g3 := by omega
  have n73 : g7 ≠ g3 := by omega
  rw [← hg3, ← hg2, ← hg5, ← hg7]
  clear hg2 hg3 hg5 hg7
  refine SG.wp_region_ghost (γ := Unit) (fun _ => [.agg #[.int .u32 o0, .int .i64 o1, .int .i64 o2, .int .i64 o3, .int .i64 o4, .int .i64 o5], .agg #[.int .u32 t0, .int .i64 t1, .int .i64 t2, .int .i64 t3], .int .i64 0, .bool true, .bool true, .int .i64 4, .bool false, .bool false, .bool false, undef, undef, undef, undef, undef, .bool false, .bool false, undef, undef, undef, undef, undef, .bool false, undef, undef, .bool false]) (fun _ => IR w g2 g3 g5 g7 #[.int .u32 o0, .int .i64 o1, .int .i64 o2, .int .i64 o3, .int .i64 o4, .int .i64 o5] #[.int .u32 t0, .int .i64 t1, .int .i64 t2, .int .i64 t3]) 25 (by kernel_rfl) (by kernel_rfl) rfl () hI ?_
  clear hI
  refine SG.seq_pure (fun _ => .agg #[.int .u32 o0, .int .i64 o1, .int .i64 o2, .int .i64 o3, .int .i64 o4, .int .i64 o5]) (fun _ => rfl) (fun _ => by rfl) (fun _ L X hL h => h.pure 0 (by decide) (by decide)) ?_ ?_
  · intro _ L X hS; have f0 := hS.b5.cell 0; have f1 := hS.b5.cell 1; have f2 := hS.b5.cell 2; have f3 := hS.b5.cell 3; have f4 := hS.b5.cell 4; have f5 := hS.b5.cell 5; simp at f0 f1 f2 f3 f4 f5; go_simp
  simp only [Act.put, List.setIfInBounds_toArray, List.set_cons_zero, List.set_cons_succ]
  refine SG.seq_pure (fun _ => .agg #[.int .u32 t0, .int .i64 t1, .int .i64 t2, .int .i64 t3]) (fun _ => rfl) (fun _ => by rfl) (fun _ L X hL h => h.pure 1 (by decide) (by decide)) ?_ ?_
  · intro _ L X hS; have f0 := hS.b7.cell 0; have f1 := hS.b7.cell 1; have f2 := hS.b7.cell 2; have f3 := hS.b7.cell 3; simp at f0 f1 f2 f3; go_simp
  simp only [Act.put, List.setIfInBounds_toArray, List.set_cons_zero, List.set_cons_succ]
  refine SG.seq_pure (fun _ => .int .i64 0) (fun _ => rfl) (fun _ => by rfl) (fun _ L X hL h => h.pure 2 (by decide) (by decide)) ?_ ?_
  · intro _ L X hS; go_simp
  simp only [Act.put, List.setIfInBounds_toArray, List.set_cons_zero, List.set_cons_succ]
  refine SG.seq_pure (fun _ => .bool true) (fun _ => rfl) (fun _ => by rfl) (fun _ L X hL h => h.pure 3 (by decide) (by decide)) ?_ ?_
  · intro _ L X hS; go_simp
  simp only [Act.put, List.setIfInBounds_toArray, List.set_cons_zero, List.set_cons_succ]
  refine SG.seq_pure (fun _ => .bool true) (fun _ => rfl) (fun _ => by rfl) (fun _ L X hL h => h.pure 4 (by decide) (by decide)) ?_ ?_
  · intro _ L X hS; go_simp
  simp only [Act.put, List.setIfInBounds_toArray, List.set_cons_zero, List.set_cons_succ]
  refine SG.seq_pure (fun _ => .int .i64 4) (fun _ => rfl) (fun _ => by rfl) (fun _ L X hL h => h.pure 5 (by decide) (by decide)) ?_ ?_
  · intro _ L X hS; go_simp
  simp only [Act.put, List.setIfInBounds_toArray, List.set_cons_zero, List.set_cons_succ]
  refine SG.seq_pure (fun _ => .bool false) (fun _ => rfl) (fun _ => by rfl) (fun _ L X hL h => h.pure 6 (by decide) (by decide)) ?_ ?_
  · intro _ L X hS; go_simp
  simp only [Act.put, List.setIfInBounds_toArray, List.set_cons_zero, List.set_cons_succ]
  refine SG.seq_pure (fun _ => .bool false) (fun _ => rfl) (fun _ => by rfl) (fun _ L X hL h => h.pure 7 (by decide) (by decide)) ?_ ?_
  · intro _ L X hS; go_simp
  simp only [Act.put, List.setIfInBounds_toArray, List.set_cons_zero, List.set_cons_succ]
  refine SG.seq_pure (fun _ => .bool false) (fun _ => rfl) (fun _ => by rfl) (fun _ L X hL h => h.pure 8 (by decide) (by decide)) ?_ ?_
  · intro _ L X hS; go_simp
  simp only [Act.put, List.setIfInBounds_toArray, List.set_cons_zero, List.set_cons_succ]
  refine SG.seq_skip (fun _ => rfl) (fun _ => by rfl) (fun _ L X hL h => h.pure 9 (by decide) (by decide)) ?_
  simp only [Act.put, List.setIfInBounds_toArray, List.set_cons_zero, List.set_cons_succ]
  refine SG.seq_skip (fun _ => rfl) (fun _ => by rfl) (fun _ L X hL h => h.pure 10 (by decide) (by decide)) ?_
  simp only [Act.put, List.setIfInBounds_toArray, List.set_cons_zero, List.set_cons_succ]
  refine SG.seq_skip (fun _ => rfl) (fun _ => by rfl) (fun _ L X hL h => h.pure 11 (by decide) (by decide)) ?_
  simp only [Act.put, List.setIfInBounds_toArray, List.set_cons_zero, List.set_cons_succ]
  refine SG.seq_skip (fun _ => rfl) (fun _ => by rfl) (fun _ L X hL h => h.pure 12 (by decide) (by decide)) ?_
  simp only [Act.put, List.setIfInBounds_toArray, List.set_cons_zero, List.set_cons_succ]
  refine SG.seq_skip (fun _ => rfl) (fun _ => by rfl) (fun _ L X hL h => h.pure 13 (by decide) (by decide)) ?_
  simp only [Act.put, List.setIfInBounds_toArray, List.set_cons_zero, List.set_cons_succ]
  refine SG.seq_pure (fun _ => .bool false) (fun _ => rfl) (fun _ => by rfl) (fun _ L X hL h => h.pure 14 (by decide) (by decide)) ?_ ?_
  · intro _ L X hS; go_simp
  simp only [Act.put, List.setIfInBounds_toArray, List.set_cons_zero, List.set_cons_succ]
  refine SG.seq_pure (fun _ => .bool false) (fun _ => rfl) (fun _ => by rfl) (fun _ L X hL h => h.pure 15 (by decide) (by decide)) ?_ ?_
  · intro _ L X hS; go_simp
  simp only [Act.put, List.setIfInBounds_toArray, List.set_cons_zero, List.set_cons_succ]
  refine SG.seq_skip (fun _ => rfl) (fun _ => by rfl) (fun _ L X hL h => h.pure 16 (by decide) (by decide)) ?_
  simp only [Act.put, List.setIfInBounds_toArray, List.set_cons_zero, List.set_cons_succ]
  refine SG.seq_skip (fun _ => rfl) (fun _ => by rfl) (fun _ L X hL h => h.pure 17 (by decide) (by decide)) ?_
  simp only [Act.put, List.setIfInBounds_toArray, List.set_cons_zero, List.set_cons_succ]
  refine SG.seq_skip (fun _ => rfl) (fun _ => by rfl) (fun _ L X hL h => h.pure 18 (by decide) (by decide)) ?_
  simp only [Act.put, List.setIfInBounds_toArray, List.set_cons_zero, List.set_cons_succ]
  refine SG.seq_skip (fun _ => rfl) (fun _ => by rfl) (fun _ L X hL h => h.pure 19 (by decide) (by decide)) ?_
  simp only [Act.put, List.setIfInBounds_toArray, List.set_cons_zero, List.set_cons_succ]
  refine SG.seq_skip (fun _ => rfl) (fun _ => by rfl) (fun _ L X hL h => h.pure 20 (by decide) (by decide)) ?_
  simp only [Act.put, List.setIfInBounds_toArray, List.set_cons_zero, List.set_cons_succ]
  refine SG.seq_pure (fun _ => .bool false) (fun _ => rfl) (fun _ => by rfl) (fun _ L X hL h => h.pure 21 (by decide) (by decide)) ?_ ?_
  · intro _ L X hS; go_simp
  simp only [Act.put, List.setIfInBounds_toArray, List.set_cons_zero, List.set_cons_succ]
  refine SG.seq_store (fun _ => rfl) (fun _ => by rfl) ?_ ?_
  · intro _ L X hL h0 hd hS
    exact ⟨_, run_store_row 39 _ _ rfl g2 _ _ #[.int .u32 o0, .int .i64 o1, .int .i64 o2, .int .i64 o3, .int .i64 o4, .int .i64 o5] (by rfl) (by rfl) hS.b2 (six_size rfl _) Tryd.infoOts (all_oneCell_toArray (by simp [Value.oneCell'])), hS.two rfl (by rw [hL]; decide) l2 n32 n52 n72⟩
  simp only [Act.put, List.setIfInBounds_toArray, List.set_cons_zero, List.set_cons_succ]
  refine SG.seq_store (fun _ => rfl) (fun _ => by rfl) ?_ ?_
  · intro _ L X hL h0 hd hS
    exact ⟨_, run_store_row 41 _ _ rfl g3 _ _ #[.int .u32 t0, .int .i64 t1, .int .i64 t2, .int .i64 t3] (by rfl) (by rfl) hS.b3 (four_size rfl _) Tryd.infoTree (all_oneCell_toArray (by simp [Value.oneCell'])), hS.three rfl (by rw [hL]; decide) l3 n23 n53 n73⟩
  simp only [Act.put, List.setIfInBounds_toArray, List.set_cons_zero, List.set_cons_succ]
  refine SG.seq_pure (fun _ => .bool false) (fun _ => rfl) (fun _ => by rfl) (fun _ L X hL h => h.pure 24 (by decide) (by decide)) ?_ ?_
  · intro _ L X hS; go_simp
  simp only [Act.put, List.setIfInBounds_toArray, List.set_cons_zero, List.set_cons_succ]
  refine SG.seq_nil (fun _ X hS => ?_)
  have e2 := hS.b2
  have e3 := hS.b3
  rw [if_pos (by rfl)] at e2 e3
  have E2 := Lib.hid e2
  have E3 := Lib.hid e3
  have EB := Lib.hid hS.bel
  clear hS e2 e3
  go_wp2
  refine bodyPost_ret (results_three rfl _ _ g2 g3 _ _ #[.int .u32 o0, .int .i64 o1, .int .i64 o2, .int .i64 o3, .int .i64 o4, .int .i64 o5] #[.int .u32 t0, .int .i64 t1, .int .i64 t2, .int .i64 t3] _ _ rfl E2.out Tryd.underlying39 rfl Tryd.infoOts rfl E3.out Tryd.underlying41 rfl Tryd.infoTree) rfl ?_
  exact ⟨rfl, EB.out⟩

set_option maxRecDepth 100000 in
set_option maxHeartbeats 4000000 in
theorem rsets_e (a b : Nat) (o0 o1 o2 o3 o4 o5 t0 t1 t2 t3 : Int) (w : World)
    (HO : Hid (∀ X, Calls Tryd.prog 24 #[.int .u32 (a : Int)] X fun e w' => e = .returned (.tuple #[.agg #[.int .u32 o0, .int .i64 o1, .int .i64 o2, .int .i64 o3, .int .i64 o4, .int .i64 o5], .int .i64 4]) ∧ Below X.heap.size X w'))
    (HT : Hid (∀ X, Calls Tryd.prog 25 #[.int .u32 (b : Int)] X fun e w' => e = .returned (.tuple #[.agg #[.int .u32 t0, .int .i64 t1, .int .i64 t2, .int .i64 t3], .int .i64 0]) ∧ Below X.heap.size X w')) :
    Calls Tryd.prog 11 #[.agg #[.int .u32 (a : Int), .int .u32 (b : Int)]] w fun e w' => e = .returned (.tuple #[.agg #[.int .u32 o0, .int .i64 o1, .int .i64 o2, .int .i64 o3, .int .i64 o4, .int .i64 o5], .agg #[.int .u32 t0, .int .i64 t1, .int .i64 t2, .int .i64 t3], .bool false]) ∧ Below w.heap.size w w' := by
  have hbx := Bk.new w 34 #[.int .u32 (a : Int), .int .u32 (b : Int)]
  have HX := Lib.hid ((hbx.alloc (.cells z6 39)).alloc (.cells z4 41))
  have H2 := Lib.hid ((Bk.newAt (w.alloc (.cells #[.int .u32 (a : Int), .int .u32 (b : Int)] 34)) 39 z6 (w.heap.size + 1) (by simp)).alloc (.cells z4 41))
  have H3 := Lib.hid (Bk.newAt ((w.alloc (.cells #[.int .u32 (a : Int), .int .u32 (b : Int)] 34)).alloc (.cells z6 39)) 41 z4 (w.heap.size + 1 + 1) (by simp))
  have B0 := Lib.hid ((two_bel w (.cells #[.int .u32 (a : Int), .int .u32 (b : Int)] 34) (.cells z6 39)).alloc (by simp; omega) (.cells z4 41))
  have s0 : (((w.alloc (.cells #[.int .u32 (a : Int), .int .u32 (b : Int)] 34)).alloc (.cells z6 39)).alloc (.cells z4 41)).heap.size = w.heap.size + 3 := by simp
  have S0' := Lib.hid s0
  clear hbx s0
  unfold z6 z4 at HX H2 H3 B0 S0'
  go_enter Tryd.func11, Tryd.ntmps11
  go_upto_region 3 with (first
    | (go_at_call 24; ((with_reducible refine (HO.out _).mono ?_); rintro e w1 ⟨rfl, b1⟩; have X1 := Lib.hid (HX.out.below b1 HX.out.lt); have R1 := Lib.hid (H2.out.below b1 H2.out.lt); have T1 := Lib.hid (H3.out.below b1 H3.out.lt); have B1 := Lib.hid (B0.out.trans (b1.mono B0.out.size)); have z1 := b1.size; rw [S0'.out] at z1; have c0 := X1.out.cell 0; have c1 := X1.out.cell 1; simp at c0 c1; have zz : w.heap.size < w1.heap.size := Nat.lt_of_lt_of_le (Nat.lt_add_of_pos_right (by decide)) z1; clear b1))
    | (go_at_call 25; ((with_reducible refine (HT.out _).mono ?_); rintro e w2 ⟨rfl, b2⟩; have Y2 := Lib.hid ((Bk.new w1 39 #[.int .u32 o0, .int .i64 o1, .int .i64 o2, .int .i64 o3, .int .i64 o4, .int .i64 o5]).below b2 (by simp)); have R2 := Lib.hid ((R1.out.alloc (.cells #[.int .u32 o0, .int .i64 o1, .int .i64 o2, .int .i64 o3, .int .i64 o4, .int .i64 o5] 39)).below b2 (by simp; omega)); have T2 := Lib.hid ((T1.out.alloc (.cells #[.int .u32 o0, .int .i64 o1, .int .i64 o2, .int .i64 o3, .int .i64 o4, .int .i64 o5] 39)).below b2 (by simp; omega)); have B2 := Lib.hid ((B1.out.alloc B1.out.size (.cells #[.int .u32 o0, .int .i64 o1, .int .i64 o2, .int .i64 o3, .int .i64 o4, .int .i64 o5] 39)).trans (b2.mono (by simp; omega))); have z2 := b2.size; simp at z2; clear b2)))
  obtain ⟨g2, hg2⟩ : ∃ g, g = w.heap.size + 1 := ⟨_, rfl⟩
  obtain ⟨g3, hg3⟩ : ∃ g, g = w.heap.size + 1 + 1 := ⟨_, rfl⟩
  obtain ⟨g5, hg5⟩ : ∃ g, g = w1.heap.size := ⟨_, rfl⟩
  obtain ⟨g7, hg7⟩ : ∃ g, g = w2.heap.size := ⟨_, rfl⟩
  have hI : IR w g2 g3 g5 g7 #[.int .u32 o0, .int .i64 o1, .int .i64 o2, .int .i64 o3, .int .i64 o4, .int .i64 o5] #[.int .u32 t0, .int .i64 t1, .int .i64 t2, .int .i64 t3] (Array.replicate 25 false) (w2.alloc (.cells #[.int .u32 t0, .int .i64 t1, .int .i64 t2, .int .i64 t3] 41)).drew := by
    rw [hg2, hg3, hg5, hg7]
    refine ⟨(B2.out.alloc (by omega) _).drew, (Y2.out.alloc _).drew, (Bk.new _ _ _).drew, ?_, ?_⟩
    · rw [SG.getD_rep, if_neg (by simp)]
      exact (R2.out.alloc _).drew
    · rw [SG.getD_rep, if_neg (by simp)]
      exact (T2.out.alloc _).drew
  have l2 : w.heap.size ≤ g2 := by omega
  have l3 : w.heap.size ≤ g3 := by omega
  have n32 : g3 ≠ g2 := by omega
  have n52 : g5 ≠ g2 := by omega
  have n72 : g7 ≠ g2 := by omega
  have n23 : g2 ≠ g3 := by omega
  have n53 : g5 ≠ g3 := by omega
  have n73 : g7 ≠ g3 := by omega
  rw [← hg3, ← hg2, ← hg5, ← hg7]
  clear hg2 hg3 hg5 hg7
  refine SG.wp_region_ghost (γ := Unit) (fun _ => [.agg #[.int .u32 o0, .int .i64 o1, .int .i64 o2, .int .i64 o3, .int .i64 o4, .int .i64 o5], .agg #[.int .u32 t0, .int .i64 t1, .int .i64 t2, .int .i64 t3], .int .i64 4, .bool false, .bool false, undef, undef, .bool false, .bool false, undef, undef, undef, undef, undef, .bool false, .bool false, undef, undef, undef, undef, undef, .bool false, undef, undef, .bool false]) (fun _ => IR w g2 g3 g5 g7 #[.int .u32 o0, .int .i64 o1, .int .i64 o2, .int .i64 o3, .int .i64 o4, .int .i64 o5] #[.int .u32 t0, .int .i64 t1, .int .i64 t2, .int .i64 t3]) 25 (by kernel_rfl) (by kernel_rfl) rfl () hI ?_
  clear hI
  refine SG.seq_pure (fun _ => .agg #[.int .u32 o0, .int .i64 o1, .int .i64 o2, .int .i64 o3, .int .i64 o4, .int .i64 o5]) (fun _ => rfl) (fun _ => by rfl) (fun _ L X hL h => h.pure 0 (by decide) (by decide)) ?_ ?_
  · intro _ L X hS; have f0 := hS.b5.cell 0; have f1 := hS.b5.cell 1; have f2 := hS.b5.cell 2; have f3 := hS.b5.cell 3; have f4 := hS.b5.cell 4; have f5 := hS.b5.cell 5; simp at f0 f1 f2 f3 f4 f5; go_simp
  simp only [Act.put, List.setIfInBounds_toArray, List.set_cons_zero, List.set_cons_succ]
  refine SG.seq_pure (fun _ => .agg #[.int .u32 t0, .int .i64 t1, .int .i64 t2, .int .i64 t3]) (fun _ => rfl) (fun _ => by rfl) (fun _ L X hL h => h.pure 1 (by decide) (by decide)) ?_ ?_
  · intro _ L X hS; have f0 := hS.b7.cell 0; have f1 := hS.b7.cell 1; have f2 := hS.b7.cell 2; have f3 := hS.b7.cell 3; simp at f0 f1 f2 f3; go_simp
  simp only [Act.put, List.setIfInBounds_toArray, List.set_cons_zero, List.set_cons_succ]
  refine SG.seq_pure (fun _ => .int .i64 4) (fun _ => rfl) (fun _ => by rfl) (fun _ L X hL h => h.pure 2 (by decide) (by decide)) ?_ ?_
  · intro _ L X hS; go_simp
  simp only [Act.put, List.setIfInBounds_toArray, List.set_cons_zero, List.set_cons_succ]
  refine SG.seq_pure (fun _ => .bool false) (fun _ => rfl) (fun _ => by rfl) (fun _ L X hL h => h.pure 3 (by decide) (by decide)) ?_ ?_
  · intro _ L X hS; go_simp
  simp only [Act.put, List.setIfInBounds_toArray, List.set_cons_zero, List.set_cons_succ]
  refine SG.seq_pure (fun _ => .bool false) (fun _ => rfl) (fun _ => by rfl) (fun _ L X hL h => h.pure 4 (by decide) (by decide)) ?_ ?_
  · intro _ L X hS; go_simp
  simp only [Act.put, List.setIfInBounds_toArray, List.set_cons_zero, List.set_cons_succ]
  refine SG.seq_skip (fun _ => rfl) (fun _ => by rfl) (fun _ L X hL h => h.pure 5 (by decide) (by decide)) ?_
  simp only [Act.put, List.setIfInBounds_toArray, List.set_cons_zero, List.set_cons_succ]
  refine SG.seq_skip (fun _ => rfl) (fun _ => by rfl) (fun _ L X hL h => h.pure 6 (by decide) (by decide)) ?_
  simp only [Act.put, List.setIfInBounds_toArray, List.set_cons_zero, List.set_cons_succ]
  refine SG.seq_pure (fun _ => .bool false) (fun _ => rfl) (fun _ => by rfl) (fun _ L X hL h => h.pure 7 (by decide) (by decide)) ?_ ?_
  · intro _ L X hS; go_simp
  simp only [Act.put, List.setIfInBounds_toArray, List.set_cons_zero, List.set_cons_succ]
  refine SG.seq_pure (fun _ => .bool false) (fun _ => rfl) (fun _ => by rfl) (fun _ L X hL h => h.pure 8 (by decide) (by decide)) ?_ ?_
  · intro _ L X hS; go_simp
  simp only [Act.put, List.setIfInBounds_toArray, List.set_cons_zero, List.set_cons_succ]
  refine SG.seq_skip (fun _ => rfl) (fun _ => by rfl) (fun _ L X hL h => h.pure 9 (by decide) (by decide)) ?_
  simp only [Act.put, List.setIfInBounds_toArray, List.set_cons_zero, List.set_cons_succ]
  refine SG.seq_skip (fun _ => rfl) (fun _ => by rfl) (fun _ L X hL h => h.pure 10 (by decide) (by decide)) ?_
  simp only [Act.put, List.setIfInBounds_toArray, List.set_cons_zero, List.set_cons_succ]
  refine SG.seq_skip (fun _ => rfl) (fun _ => by rfl) (fun _ L X hL h => h.pure 11 (by decide) (by decide)) ?_
  simp only [Act.put, List.setIfInBounds_toArray, List.set_cons_zero, List.set_cons_succ]
  refine SG.seq_skip (fun _ => rfl) (fun _ => by rfl) (fun _ L X hL h => h.pure 12 (by decide) (by decide)) ?_
  simp only [Act.put, List.setIfInBounds_toArray, List.set_cons_zero, List.set_cons_succ]
  refine SG.seq_skip (fun _ => rfl) (fun _ => by rfl) (fun _ L X hL h => h.pure 13 (by decide) (by decide)) ?_
  simp only [Act.put, List.setIfInBounds_toArray, List.set_cons_zero, List.set_cons_succ]
  refine SG.seq_pure (fun _ => .bool false) (fun _ => rfl) (fun _ => by rfl) (fun _ L X hL h => h.pure 14 (by decide) (by decide)) ?_ ?_
  · intro _ L X hS; go_simp
  simp only [Act.put, List.setIfInBounds_toArray, List.set_cons_zero, List.set_cons_succ]
  refine SG.seq_pure (fun _ => .bool false) (fun _ => rfl) (fun _ => by rfl) (fun _ L X hL h => h.pure 15 (by decide) (by decide)) ?_ ?_
  · intro _ L X hS; go_simp
  simp only [Act.put, List.setIfInBounds_toArray, List.set_cons_zero, List.set_cons_succ]
  refine SG.seq_skip (fun _ => rfl) (fun _ => by rfl) (fun _ L X hL h => h.pure 16 (by decide) (by decide)) ?_
  simp only [Act.put, List.setIfInBounds_toArray, List.set_cons_zero, List.set_cons_succ]
  refine SG.seq_skip (fun _ => rfl) (fun _ => by rfl) (fun _ L X hL h => h.pure 17 (by decide) (by decide)) ?_
  simp only [Act.put, List.setIfInBounds_toArray, List.set_cons_zero, List.set_cons_succ]
  refine SG.seq_skip (fun _ => rfl) (fun _ => by rfl) (fun _ L X hL h => h.pure 18 (by decide) (by decide)) ?_
  simp only [Act.put, List.setIfInBounds_toArray, List.set_cons_zero, List.set_cons_succ]
  refine SG.seq_skip (fun _ => rfl) (fun _ => by rfl) (fun _ L X hL h => h.pure 19 (by decide) (by decide)) ?_
  simp only [Act.put, List.setIfInBounds_toArray, List.set_cons_zero, List.set_cons_succ]
  refine SG.seq_skip (fun _ => rfl) (fun _ => by rfl) (fun _ L X hL h => h.pure 20 (by decide) (by decide)) ?_
  simp only [Act.put, List.setIfInBounds_toArray, List.set_cons_zero, List.set_cons_succ]
  refine SG.seq_pure (fun _ => .bool false) (fun _ => rfl) (fun _ => by rfl) (fun _ L X hL h => h.pure 21 (by decide) (by decide)) ?_ ?_
  · intro _ L X hS; go_simp
  simp only [Act.put, List.setIfInBounds_toArray, List.set_cons_zero, List.set_cons_succ]
  refine SG.seq_store (fun _ => rfl) (fun _ => by rfl) ?_ ?_
  · intro _ L X hL h0 hd hS
    exact ⟨_, run_store_row 39 _ _ rfl g2 _ _ #[.int .u32 o0, .int .i64 o1, .int .i64 o2, .int .i64 o3, .int .i64 o4, .int .i64 o5] (by rfl) (by rfl) hS.b2 (six_size rfl _) Tryd.infoOts (all_oneCell_toArray (by simp [Value.oneCell'])), hS.two rfl (by rw [hL]; decide) l2 n32 n52 n72⟩
  simp only [Act.put, List.setIfInBounds_toArray, List.set_cons_zero, List.set_cons_succ]
  refine SG.seq_store (fun _ => rfl) (fun _ => by rfl) ?_ ?_
  · intro _ L X hL h0 hd hS
    exact ⟨_, run_store_row 41 _ _ rfl g3 _ _ #[.int .u32 t0, .int .i64 t1, .int .i64 t2, .int .i64 t3] (by rfl) (by rfl) hS.b3 (four_size rfl _) Tryd.infoTree (all_oneCell_toArray (by simp [Value.oneCell'])), hS.three rfl (by rw [hL]; decide) l3 n23 n53 n73⟩
  simp only [Act.put, List.setIfInBounds_toArray, List.set_cons_zero, List.set_cons_succ]
  refine SG.seq_pure (fun _ => .bool false) (fun _ => rfl) (fun _ => by rfl) (fun _ L X hL h => h.pure 24 (by decide) (by decide)) ?_ ?_
  · intro _ L X hS; go_simp
  simp only [Act.put, List.setIfInBounds_toArray, List.set_cons_zero, List.set_cons_succ]
  refine SG.seq_nil (fun _ X hS => ?_)
  have e2 := hS.b2
  have e3 := hS.b3
  rw [if_pos (by rfl)] at e2 e3
  have E2 := Lib.hid e2
  have E3 := Lib.hid e3
  have EB := Lib.hid hS.bel
  clear hS e2 e3
  go_wp2
  refine bodyPost_ret (results_three rfl _ _ g2 g3 _ _ #[.int .u32 o0, .int .i64 o1, .int .i64 o2, .int .i64 o3, .int .i64 o4, .int .i64 o5] #[.int .u32 t0, .int .i64 t1, .int .i64 t2, .int .i64 t3] _ _ rfl E2.out Tryd.underlying39 rfl Tryd.infoOts rfl E3.out Tryd.underlying41 rfl Tryd.infoTree) rfl ?_
  exact ⟨rfl, EB.out⟩

set_option maxRecDepth 100000 in
set_option maxHeartbeats 4000000 in
theorem rsets_c (a b : Nat) (o0 o1 o2 o3 o4 o5 t0 t1 t2 t3 : Int) (hC : (o1 == t1) = false) (w : World)
    (HO : Hid (∀ X, Calls Tryd.prog 24 #[.int .u32 (a : Int)] X fun e w' => e = .returned (.tuple #[.agg #[.int .u32 o0, .int .i64 o1, .int .i64 o2, .int .i64 o3, .int .i64 o4, .int .i64 o5], .int .i64 0]) ∧ Below X.heap.size X w'))
    (HT : Hid (∀ X, Calls Tryd.prog 25 #[.int .u32 (b : Int)] X fun e w' => e = .returned (.tuple #[.agg #[.int .u32 t0, .int .i64 t1, .int .i64 t2, .int .i64 t3], .int .i64 0]) ∧ Below X.heap.size X w')) :
    Calls Tryd.prog 11 #[.agg #[.int .u32 (a : Int), .int .u32 (b : Int)]] w fun e w' => e = .returned (.tuple #[.agg #[.int .u32 o0, .int .i64 o1, .int .i64 o2, .int .i64 o3, .int .i64 o4, .int .i64 o5], .agg #[.int .u32 t0, .int .i64 t1, .int .i64 t2, .int .i64 t3], .bool false]) ∧ Below w.heap.size w w' := by
  have hbx := Bk.new w 34 #[.int .u32 (a : Int), .int .u32 (b : Int)]
  have HX := Lib.hid ((hbx.alloc (.cells z6 39)).alloc (.cells z4 41))
  have H2 := Lib.hid ((Bk.newAt (w.alloc (.cells #[.int .u32 (a : Int), .int .u32 (b : Int)] 34)) 39 z6 (w.heap.size + 1) (by simp)).alloc (.cells z4 41))
  have H3 := Lib.hid (Bk.newAt ((w.alloc (.cells #[.int .u32 (a : Int), .int .u32 (b : Int)] 34)).alloc (.cells z6 39)) 41 z4 (w.heap.size + 1 + 1) (by simp))
  have B0 := Lib.hid ((two_bel w (.cells #[.int .u32 (a : Int), .int .u32 (b : Int)] 34) (.cells z6 39)).alloc (by simp; omega) (.cells z4 41))
  have s0 : (((w.alloc (.cells #[.int .u32 (a : Int), .int .u32 (b : Int)] 34)).alloc (.cells z6 39)).alloc (.cells z4 41)).heap.size = w.heap.size + 3 := by simp
  have S0' := Lib.hid s0
  clear hbx s0
  unfold z6 z4 at HX H2 H3 B0 S0'
  go_enter Tryd.func11, Tryd.ntmps11
  go_upto_region 3 with (first
    | (go_at_call 24; ((with_reducible refine (HO.out _).mono ?_); rintro e w1 ⟨rfl, b1⟩; have X1 := Lib.hid (HX.out.below b1 HX.out.lt); have R1 := Lib.hid (H2.out.below b1 H2.out.lt); have T1 := Lib.hid (H3.out.below b1 H3.out.lt); have B1 := Lib.hid (B0.out.trans (b1.mono B0.out.size)); have z1 := b1.size; rw [S0'.out] at z1; have c0 := X1.out.cell 0; have c1 := X1.out.cell 1; simp at c0 c1; have zz : w.heap.size < w1.heap.size := Nat.lt_of_lt_of_le (Nat.lt_add_of_pos_right (by decide)) z1; clear b1))
    | (go_at_call 25; ((with_reducible refine (HT.out _).mono ?_); rintro e w2 ⟨rfl, b2⟩; have Y2 := Lib.hid ((Bk.new w1 39 #[.int .u32 o0, .int .i64 o1, .int .i64 o2, .int .i64 o3, .int .i64 o4, .int .i64 o5]).below b2 (by simp)); have R2 := Lib.hid ((R1.out.alloc (.cells #[.int .u32 o0, .int .i64 o1, .int .i64 o2, .int .i64 o3, .int .i64 o4, .int .i64 o5] 39)).below b2 (by simp; omega)); have T2 := Lib.hid ((T1.out.alloc (.cells #[.int .u32 o0, .int .i64 o1, .int .i64 o2, .int .i64 o3, .int .i64 o4, .int .i64 o5] 39)).below b2 (by simp; omega)); have B2 := Lib.hid ((B1.out.alloc B1.out.size (.cells #[.int .u32 o0, .int .i64 o1, .int .i64 o2, .int .i64 o3, .int .i64 o4, .int .i64 o5] 39)).trans (b2.mono (by simp; omega))); have z2 := b2.size; simp at z2; clear b2)))
  obtain ⟨g2, hg2⟩ : ∃ g, g = w.heap.size + 1 := ⟨_, rfl⟩
  obtain ⟨g3, hg3⟩ : ∃ g, g = w.heap.size + 1 + 1 := ⟨_, rfl⟩
  obtain ⟨g5, hg5⟩ : ∃ g, g = w1.heap.size := ⟨_, rfl⟩
  obtain ⟨g7, hg7⟩ : ∃ g, g = w2.heap.size := ⟨_, rfl⟩
  have hI : IR w g2 g3 g5 g7 #[.int .u32 o0, .int .i64 o1, .int .i64 o2, .int .i64 o3, .int .i64 o4, .int .i64 o5] #[.int .u32 t0, .int .i64 t1, .int .i64 t2, .int .i64 t3] (Array.replicate 25 false) (w2.alloc (.cells #[.int .u32 t0, .int .i64 t1, .int .i64 t2, .int .i64 t3] 41)).drew := by
    rw [hg2, hg3, hg5, hg7]
    refine ⟨(B2.out.alloc (by omega) _).drew, (Y2.out.alloc _).drew, (Bk.new _ _ _).drew, ?_, ?_⟩
    · rw [SG.getD_rep, if_neg (by simp)]
      exact (R2.out.alloc _).drew
    · rw [SG.getD_rep, if_neg (by simp)]
      exact (T2.out.alloc _).drew
  have l2 : w.heap.size ≤ g2 := by omega
  have l3 : w.heap.size ≤ g3 := by omega
  have n32 : g3 ≠ g2 := by omega
  have n52 : g5 ≠ g2 := by omega
  have n72 : g7 ≠ g2 := by omega
  have n23 : g2 ≠ g3 := by omega
  have n53 : g5 ≠ g3 := by omega
  have n73 : g7 ≠ g3 := by omega
  rw [← hg3, ← hg2, ← hg5, ← hg7]
  clear hg2 hg3 hg5 hg7
  refine SG.wp_region_ghost (γ := Unit) (fun _ => [.agg #[.int .u32 o0, .int .i64 o1, .int .i64 o2, .int .i64 o3, .int .i64 o4, .int .i64 o5], .agg #[.int .u32 t0, .int .i64 t1, .int .i64 t2, .int .i64 t3], .int .i64 0, .bool true, .bool true, .int .i64 0, .bool true, .bool true, .bool true, .pointer (some ⟨g5, 1, none⟩), .int .i64 o1, .pointer (some ⟨g7, 1, none⟩), .int .i64 t1, .bool false, .bool false, .bool false, undef, undef, undef, undef, undef, .bool false, undef, undef, .bool false]) (fun _ => IR w g2 g3 g5 g7 #[.int .u32 o0, .int .i64 o1, .int .i64 o2, .int .i64 o3, .int .i64 o4, .int .i64 o5] #[.int .u32 t0, .int .i64 t1, .int .i64 t2, .int .i64 t3]) 25 (by kernel_rfl) (by kernel_rfl) rfl () hI ?_
  clear hI
  refine SG.seq_pure (fun _ => .agg #[.int .u32 o0, .int .i64 o1, .int .i64 o2, .int .i64 o3, .int .i64 o4, .int .i64 o5]) (fun _ => rfl) (fun _ => by rfl) (fun _ L X hL h => h.pure 0 (by decide) (by decide)) ?_ ?_
  · intro _ L X hS; have f0 := hS.b5.cell 0; have f1 := hS.b5.cell 1; have f2 := hS.b5.cell 2; have f3 := hS.b5.cell 3; have f4 := hS.b5.cell 4; have f5 := hS.b5.cell 5; simp at f0 f1 f2 f3 f4 f5; go_simp
  simp only [Act.put, List.setIfInBounds_toArray, List.set_cons_zero, List.set_cons_succ]
  refine SG.seq_pure (fun _ => .agg #[.int .u32 t0, .int .i64 t1, .int .i64 t2, .int .i64 t3]) (fun _ => rfl) (fun _ => by rfl) (fun _ L X hL h => h.pure 1 (by decide) (by decide)) ?_ ?_
  · intro _ L X hS; have f0 := hS.b7.cell 0; have f1 := hS.b7.cell 1; have f2 := hS.b7.cell 2; have f3 := hS.b7.cell 3; simp at f0 f1 f2 f3; go_simp
  simp only [Act.put, List.setIfInBounds_toArray, List.set_cons_zero, List.set_cons_succ]
  refine SG.seq_pure (fun _ => .int .i64 0) (fun _ => rfl) (fun _ => by rfl) (fun _ L X hL h => h.pure 2 (by decide) (by decide)) ?_ ?_
  · intro _ L X hS; go_simp
  simp only [Act.put, List.setIfInBounds_toArray, List.set_cons_zero, List.set_cons_succ]
  refine SG.seq_pure (fun _ => .bool true) (fun _ => rfl) (fun _ => by rfl) (fun _ L X hL h => h.pure 3 (by decide) (by decide)) ?_ ?_
  · intro _ L X hS; go_simp
  simp only [Act.put, List.setIfInBounds_toArray, List.set_cons_zero, List.set_cons_succ]
  refine SG.seq_pure (fun _ => .bool true) (fun _ => rfl) (fun _ => by rfl) (fun _ L X hL h => h.pure 4 (by decide) (by decide)) ?_ ?_
  · intro _ L X hS; go_simp
  simp only [Act.put, List.setIfInBounds_toArray, List.set_cons_zero, List.set_cons_succ]
  refine SG.seq_pure (fun _ => .int .i64 0) (fun _ => rfl) (fun _ => by rfl) (fun _ L X hL h => h.pure 5 (by decide) (by decide)) ?_ ?_
  · intro _ L X hS; go_simp
  simp only [Act.put, List.setIfInBounds_toArray, List.set_cons_zero, List.set_cons_succ]
  refine SG.seq_pure (fun _ => .bool true) (fun _ => rfl) (fun _ => by rfl) (fun _ L X hL h => h.pure 6 (by decide) (by decide)) ?_ ?_
  · intro _ L X hS; go_simp
  simp only [Act.put, List.setIfInBounds_toArray, List.set_cons_zero, List.set_cons_succ]
  refine SG.seq_pure (fun _ => .bool true) (fun _ => rfl) (fun _ => by rfl) (fun _ L X hL h => h.pure 7 (by decide) (by decide)) ?_ ?_
  · intro _ L X hS; go_simp
  simp only [Act.put, List.setIfInBounds_toArray, List.set_cons_zero, List.set_cons_succ]
  refine SG.seq_pure (fun _ => .bool true) (fun _ => rfl) (fun _ => by rfl) (fun _ L X hL h => h.pure 8 (by decide) (by decide)) ?_ ?_
  · intro _ L X hS; go_simp
  simp only [Act.put, List.setIfInBounds_toArray, List.set_cons_zero, List.set_cons_succ]
  refine SG.seq_pure (fun _ => .pointer (some ⟨g5, 1, none⟩)) (fun _ => rfl) (fun _ => by rfl) (fun _ L X hL h => h.pure 9 (by decide) (by decide)) ?_ ?_
  · intro _ L X hS; go_simp
  simp only [Act.put, List.setIfInBounds_toArray, List.set_cons_zero, List.set_cons_succ]
  refine SG.seq_pure (fun _ => .int .i64 o1) (fun _ => rfl) (fun _ => by rfl) (fun _ L X hL h => h.pure 10 (by decide) (by decide)) ?_ ?_
  · intro _ L X hS; have f0 := hS.b5.cell 0; have f1 := hS.b5.cell 1; have f2 := hS.b5.cell 2; have f3 := hS.b5.cell 3; have f4 := hS.b5.cell 4; have f5 := hS.b5.cell 5; simp at f0 f1 f2 f3 f4 f5; go_simp
  simp only [Act.put, List.setIfInBounds_toArray, List.set_cons_zero, List.set_cons_succ]
  refine SG.seq_pure (fun _ => .pointer (some ⟨g7, 1, none⟩)) (fun _ => rfl) (fun _ => by rfl) (fun _ L X hL h => h.pure 11 (by decide) (by decide)) ?_ ?_
  · intro _ L X hS; go_simp
  simp only [Act.put, List.setIfInBounds_toArray, List.set_cons_zero, List.set_cons_succ]
  refine SG.seq_pure (fun _ => .int .i64 t1) (fun _ => rfl) (fun _ => by rfl) (fun _ L X hL h => h.pure 12 (by decide) (by decide)) ?_ ?_
  · intro _ L X hS; have f0 := hS.b7.cell 0; have f1 := hS.b7.cell 1; have f2 := hS.b7.cell 2; have f3 := hS.b7.cell 3; simp at f0 f1 f2 f3; go_simp
  simp only [Act.put, List.setIfInBounds_toArray, List.set_cons_zero, List.set_cons_succ]
  refine SG.seq_pure (fun _ => .bool false) (fun _ => rfl) (fun _ => by rfl) (fun _ L X hL h => h.pure 13 (by decide) (by decide)) ?_ ?_
  · intro _ L X hS; go_simp
  simp only [Act.put, List.setIfInBounds_toArray, List.set_cons_zero, List.set_cons_succ]
  refine SG.seq_pure (fun _ => .bool false) (fun _ => rfl) (fun _ => by rfl) (fun _ L X hL h => h.pure 14 (by decide) (by decide)) ?_ ?_
  · intro _ L X hS; go_simp
  simp only [Act.put, List.setIfInBounds_toArray, List.set_cons_zero, List.set_cons_succ]
  refine SG.seq_pure (fun _ => .bool false) (fun _ => rfl) (fun _ => by rfl) (fun _ L X hL h => h.pure 15 (by decide) (by decide)) ?_ ?_
  · intro _ L X hS; go_simp
  simp only [Act.put, List.setIfInBounds_toArray, List.set_cons_zero, List.set_cons_succ]
  refine SG.seq_skip (fun _ => rfl) (fun _ => by rfl) (fun _ L X hL h => h.pure 16 (by decide) (by decide)) ?_
  simp only [Act.put, List.setIfInBounds_toArray, List.set_cons_zero, List.set_cons_succ]
  refine SG.seq_skip (fun _ => rfl) (fun _ => by rfl) (fun _ L X hL h => h.pure 17 (by decide) (by decide)) ?_
  simp only [Act.put, List.setIfInBounds_toArray, List.set_cons_zero, List.set_cons_succ]
  refine SG.seq_skip (fun _ => rfl) (fun _ => by rfl) (fun _ L X hL h => h.pure 18 (by decide) (by decide)) ?_
  simp only [Act.put, List.setIfInBounds_toArray, List.set_cons_zero, List.set_cons_succ]
  refine SG.seq_skip (fun _ => rfl) (fun _ => by rfl) (fun _ L X hL h => h.pure 19 (by decide) (by decide)) ?_
  simp only [Act.put, List.setIfInBounds_toArray, List.set_cons_zero, List.set_cons_succ]
  refine SG.seq_skip (fun _ => rfl) (fun _ => by rfl) (fun _ L X hL h => h.pure 20 (by decide) (by decide)) ?_
  simp only [Act.put, List.setIfInBounds_toArray, List.set_cons_zero, List.set_cons_succ]
  refine SG.seq_pure (fun _ => .bool false) (fun _ => rfl) (fun _ => by rfl) (fun _ L X hL h => h.pure 21 (by decide) (by decide)) ?_ ?_
  · intro _ L X hS; go_simp
  simp only [Act.put, List.setIfInBounds_toArray, List.set_cons_zero, List.set_cons_succ]
  refine SG.seq_store (fun _ => rfl) (fun _ => by rfl) ?_ ?_
  · intro _ L X hL h0 hd hS
    exact ⟨_, run_store_row 39 _ _ rfl g2 _ _ #[.int .u32 o0, .int .i64 o1, .int .i64 o2, .int .i64 o3, .int .i64 o4, .int .i64 o5] (by rfl) (by rfl) hS.b2 (six_size rfl _) Tryd.infoOts (all_oneCell_toArray (by simp [Value.oneCell'])), hS.two rfl (by rw [hL]; decide) l2 n32 n52 n72⟩
  simp only [Act.put, List.setIfInBounds_toArray, List.set_cons_zero, List.set_cons_succ]
  refine SG.seq_store (fun _ => rfl) (fun _ => by rfl) ?_ ?_
  · intro _ L X hL h0 hd hS
    exact ⟨_, run_store_row 41 _ _ rfl g3 _ _ #[.int .u32 t0, .int .i64 t1, .int .i64 t2, .int .i64 t3] (by rfl) (by rfl) hS.b3 (four_size rfl _) Tryd.infoTree (all_oneCell_toArray (by simp [Value.oneCell'])), hS.three rfl (by rw [hL]; decide) l3 n23 n53 n73⟩
  simp only [Act.put, List.setIfInBounds_toArray, List.set_cons_zero, List.set_cons_succ]
  refine SG.seq_pure (fun _ => .bool false) (fun _ => rfl) (fun _ => by rfl) (fun _ L X hL h => h.pure 24 (by decide) (by decide)) ?_ ?_
  · intro _ L X hS; go_simp
  simp only [Act.put, List.setIfInBounds_toArray, List.set_cons_zero, List.set_cons_succ]
  refine SG.seq_nil (fun _ X hS => ?_)
  have e2 := hS.b2
  have e3 := hS.b3
  rw [if_pos (by rfl)] at e2 e3
  have E2 := Lib.hid e2
  have E3 := Lib.hid e3
  have EB := Lib.hid hS.bel
  clear hS e2 e3
  go_wp2
  refine bodyPost_ret (results_three rfl _ _ g2 g3 _ _ #[.int .u32 o0, .int .i64 o1, .int .i64 o2, .int .i64 o3, .int .i64 o4, .int .i64 o5] #[.int .u32 t0, .int .i64 t1, .int .i64 t2, .int .i64 t3] _ _ rfl E2.out Tryd.underlying39 rfl Tryd.infoOts rfl E3.out Tryd.underlying41 rfl Tryd.infoTree) rfl ?_
  exact ⟨rfl, EB.out⟩

set_option maxRecDepth 100000 in
set_option maxHeartbeats 4000000 in
theorem rsets_d (a b : Nat) (o0 o1 o2 o3 o4 o5 t0 t1 t2 t3 : Int) (hC : (o1 == t1) = true) (D : Bool) (hD : (o2 == t2) = D) (w : World)
    (HO : Hid (∀ X, Calls Tryd.prog 24 #[.int .u32 (a : Int)] X fun e w' => e = .returned (.tuple #[.agg #[.int .u32 o0, .int .i64 o1, .int .i64 o2, .int .i64 o3, .int .i64 o4, .int .i64 o5], .int .i64 0]) ∧ Below X.heap.size X w'))
    (HT : Hid (∀ X, Calls Tryd.prog 25 #[.int .u32 (b : Int)] X fun e w' => e = .returned (.tuple #[.agg #[.int .u32 t0, .int .i64 t1, .int .i64 t2, .int .i64 t3], .int .i64 0]) ∧ Below X.heap.size X w')) :
    Calls Tryd.prog 11 #[.agg #[.int .u32 (a : Int), .int .u32 (b : Int)]] w fun e w' => e = .returned (.tuple #[.agg #[.int .u32 o0, .int .i64 o1, .int .i64 o2, .int .i64 o3, .int .i64 o4, .int .i64 o5], .agg #[.int .u32 t0, .int .i64 t1, .int .i64 t2, .int .i64 t3], .bool D]) ∧ Below w.heap.size w w' := by
  have hbx := Bk.new w 34 #[.int .u32 (a : Int), .int .u32 (b : Int)]
  have HX := Lib.hid ((hbx.alloc (.cells z6 39)).alloc (.cells z4 41))
  have H2 := Lib.hid ((Bk.newAt (w.alloc (.cells #[.int .u32 (a : Int), .int .u32 (b : Int)] 34)) 39 z6 (w.heap.size + 1) (by simp)).alloc (.cells z4 41))
  have H3 := Lib.hid (Bk.newAt ((w.alloc (.cells #[.int .u32 (a : Int), .int .u32 (b : Int)] 34)).alloc (.cells z6 39)) 41 z4 (w.heap.size + 1 + 1) (by simp))
  have B0 := Lib.hid ((two_bel w (.cells #[.int .u32 (a : Int), .int .u32 (b : Int)] 34) (.cells z6 39)).alloc (by simp; omega) (.cells z4 41))
  have s0 : (((w.alloc (.cells #[.int .u32 (a : Int), .int .u32 (b : Int)] 34)).alloc (.cells z6 39)).alloc (.cells z4 41)).heap.size = w.heap.size + 3 := by simp
  have S0' := Lib.hid s0
  clear hbx s0
  unfold z6 z4 at HX H2 H3 B0 S0'
  go_enter Tryd.func11, Tryd.ntmps11
  go_upto_region 3 with (first
    | (go_at_call 24; ((with_reducible refine (HO.out _).mono ?_); rintro e w1 ⟨rfl, b1⟩; have X1 := Lib.hid (HX.out.below b1 HX.out.lt); have R1 := Lib.hid (H2.out.below b1 H2.out.lt); have T1 := Lib.hid (H3.out.below b1 H3.out.lt); have B1 := Lib.hid (B0.out.trans (b1.mono B0.out.size)); have z1 := b1.size; rw [S0'.out] at z1; have c0 := X1.out.cell 0; have c1 := X1.out.cell 1; simp at c0 c1; have zz : w.heap.size < w1.heap.size := Nat.lt_of_lt_of_le (Nat.lt_add_of_pos_right (by decide)) z1; clear b1))
    | (go_at_call 25; ((with_reducible refine (HT.out _).mono ?_); rintro e w2 ⟨rfl, b2⟩; have Y2 := Lib.hid ((Bk.new w1 39 #[.int .u32 o0, .int .i64 o1, .int .i64 o2, .int .i64 o3, .int .i64 o4, .int .i64 o5]).below b2 (by simp)); have R2 := Lib.hid ((R1.out.alloc (.cells #[.int .u32 o0, .int .i64 o1, .int .i64 o2, .int .i64 o3, .int .i64 o4, .int .i64 o5] 39)).below b2 (by simp; omega)); have T2 := Lib.hid ((T1.out.alloc (.cells #[.int .u32 o0, .int .i64 o1, .int .i64 o2, .int .i64 o3, .int .i64 o4, .int .i64 o5] 39)).below b2 (by simp; omega)); have B2 := Lib.hid ((B1.out.alloc B1.out.size (.cells #[.int .u32 o0, .int .i64 o1, .int .i64 o2, .int .i64 o3, .int .i64 o4, .int .i64 o5] 39)).trans (b2.mono (by simp; omega))); have z2 := b2.size; simp at z2; clear b2)))
  obtain ⟨g2, hg2⟩ : ∃ g, g = w.heap.size + 1 := ⟨_, rfl⟩
  obtain ⟨g3, hg3⟩ : ∃ g, g = w.heap.size + 1 + 1 := ⟨_, rfl⟩
  obtain ⟨g5, hg5⟩ : ∃ g, g = w1.heap.size := ⟨_, rfl⟩
  obtain ⟨g7, hg7⟩ : ∃ g, g = w2.heap.size := ⟨_, rfl⟩
  have hI : IR w g2 g3 g5 g7 #[.int .u32 o0, .int .i64 o1, .int .i64 o2, .int .i64 o3, .int .i64 o4, .int .i64 o5] #[.int .u32 t0, .int .i64 t1, .int .i64 t2, .int .i64 t3] (Array.replicate 25 false) (w2.alloc (.cells #[.int .u32 t0, .int .i64 t1, .int .i64 t2, .int .i64 t3] 41)).drew := by
    rw [hg2, hg3, hg5, hg7]
    refine ⟨(B2.out.alloc (by omega) _).drew, (Y2.out.alloc _).drew, (Bk.new _ _ _).drew, ?_, ?_⟩
    · rw [SG.getD_rep, if_neg (by simp)]
      exact (R2.out.alloc _).drew
    · rw [SG.getD_rep, if_neg (by simp)]
      exact (T2.out.alloc _).drew
  have l2 : w.heap.size ≤ g2 := by omega
  have l3 : w.heap.size ≤ g3 := by omega
  have n32 : g3 ≠ g2 := by omega
  have n52 : g5 ≠ g2 := by omega
  have n72 : g7 ≠ g2 := by omega
  have n23 : g2 ≠ g3 := by omega
  have n53 : g5 ≠ g3 := by omega
  have n73 : g7 ≠ g3 := by omega
  rw [← hg3, ← hg2, ← hg5, ← hg7]
  clear hg2 hg3 hg5 hg7
  refine SG.wp_region_ghost (γ := Unit) (fun _ => [.agg #[.int .u32 o0, .int .i64 o1, .int .i64 o2, .int .i64 o3, .int .i64 o4, .int .i64 o5], .agg #[.int .u32 t0, .int .i64 t1, .int .i64 t2, .int .i64 t3], .int .i64 0, .bool true, .bool true, .int .i64 0, .bool true, .bool true, .bool true, .pointer (some ⟨g5, 1, none⟩), .int .i64 o1, .pointer (some ⟨g7, 1, none⟩), .int .i64 t1, .bool true, .bool true, .bool true, .pointer (some ⟨g5, 2, none⟩), .int .i64 o2, .pointer (some ⟨g7, 2, none⟩), .int .i64 t2, .bool D, .bool D, undef, undef, .bool D]) (fun _ => IR w g2 g3 g5 g7 #[.int .u32 o0, .int .i64 o1, .int .i64 o2, .int .i64 o3, .int .i64 o4, .int .i64 o5] #[.int .u32 t0, .int .i64 t1, .int .i64 t2, .int .i64 t3]) 25 (by kernel_rfl) (by kernel_rfl) rfl () hI ?_
  clear hI
  refine SG.seq_pure (fun _ => .agg #[.int .u32 o0, .int .i64 o1, .int .i64 o2, .int .i64 o3, .int .i64 o4, .int .i64 o5]) (fun _ => rfl) (fun _ => by rfl) (fun _ L X hL h => h.pure 0 (by decide) (by decide)) ?_ ?_
  · intro _ L X hS; have f0 := hS.b5.cell 0; have f1 := hS.b5.cell 1; have f2 := hS.b5.cell 2; have f3 := hS.b5.cell 3; have f4 := hS.b5.cell 4; have f5 := hS.b5.cell 5; simp at f0 f1 f2 f3 f4 f5; go_simp
  simp only [Act.put, List.setIfInBounds_toArray, List.set_cons_zero, List.set_cons_succ]
  refine SG.seq_pure (fun _ => .agg #[.int .u32 t0, .int .i64 t1, .int .i64 t2, .int .i64 t3]) (fun _ => rfl) (fun _ => by rfl) (fun _ L X hL h => h.pure 1 (by decide) (by decide)) ?_ ?_
  · intro _ L X hS; have f0 := hS.b7.cell 0; have f1 := hS.b7.cell 1; have f2 := hS.b7.cell 2; have f3 := hS.b7.cell 3; simp at f0 f1 f2 f3; go_simp
  simp only [Act.put, List.setIfInBounds_toArray, List.set_cons_zero, List.set_cons_succ]
  refine SG.seq_pure (fun _ => .int .i64 0) (fun _ => rfl) (fun _ => by rfl) (fun _ L X hL h => h.pure 2 (by decide) (by decide)) ?_ ?_
  · intro _ L X hS; go_simp
  simp only [Act.put, List.setIfInBounds_toArray, List.set_cons_zero, List.set_cons_succ]
  refine SG.seq_pure (fun _ => .bool true) (fun _ => rfl) (fun _ => by rfl) (fun _ L X hL h => h.pure 3 (by decide) (by decide)) ?_ ?_
  · intro _ L X hS; go_simp
  simp only [Act.put, List.setIfInBounds_toArray, List.set_cons_zero, List.set_cons_succ]
  refine SG.seq_pure (fun _ => .bool true) (fun _ => rfl) (fun _ => by rfl) (fun _ L X hL h => h.pure 4 (by decide) (by decide)) ?_ ?_
  · intro _ L X hS; go_simp
  simp only [Act.put, List.setIfInBounds_toArray, List.set_cons_zero, List.set_cons_succ]
  refine SG.seq_pure (fun _ => .int .i64 0) (fun _ => rfl) (fun _ => by rfl) (fun _ L X hL h => h.pure 5 (by decide) (by decide)) ?_ ?_
  · intro _ L X hS; go_simp
  simp only [Act.put, List.setIfInBounds_toArray, List.set_cons_zero, List.set_cons_succ]
  refine SG.seq_pure (fun _ => .bool true) (fun _ => rfl) (fun _ => by rfl) (fun _ L X hL h => h.pure 6 (by decide) (by decide)) ?_ ?_
  · intro _ L X hS; go_simp
  simp only [Act.put, List.setIfInBounds_toArray, List.set_cons_zero, List.set_cons_succ]
  refine SG.seq_pure (fun _ => .bool true) (fun _ => rfl) (fun _ => by rfl) (fun _ L X hL h => h.pure 7 (by decide) (by decide)) ?_ ?_
  · intro _ L X hS; go_simp
  simp only [Act.put, List.setIfInBounds_toArray, List.set_cons_zero, List.set_cons_succ]
  refine SG.seq_pure (fun _ => .bool true) (fun _ => rfl) (fun _ => by rfl) (fun _ L X hL h => h.pure 8 (by decide) (by decide)) ?_ ?_
  · intro _ L X hS; go_simp
  simp only [Act.put, List.setIfInBounds_toArray, List.set_cons_zero, List.set_cons_succ]
  refine SG.seq_pure (fun _ => .pointer (some ⟨g5, 1, none⟩)) (fun _ => rfl) (fun _ => by rfl) (fun _ L X hL h => h.pure 9 (by decide) (by decide)) ?_ ?_
  · intro _ L X hS; go_simp
  simp only [Act.put, List.setIfInBounds_toArray, List.set_cons_zero, List.set_cons_succ]
  refine SG.seq_pure (fun _ => .int .i64 o1) (fun _ => rfl) (fun _ => by rfl) (fun _ L X hL h => h.pure 10 (by decide) (by decide)) ?_ ?_
  · intro _ L X hS; have f0 := hS.b5.cell 0; have f1 := hS.b5.cell 1; have f2 := hS.b5.cell 2; have f3 := hS.b5.cell 3; have f4 := hS.b5.cell 4; have f5 := hS.b5.cell 5; simp at f0 f1 f2 f3 f4 f5; go_simp
  simp only [Act.put, List.setIfInBounds_toArray, List.set_cons_zero, List.set_cons_succ]
  refine SG.seq_pure (fun _ => .pointer (some ⟨g7, 1, none⟩)) (fun _ => rfl) (fun _ => by rfl) (fun _ L X hL h => h.pure 11 (by decide) (by decide)) ?_ ?_
  · intro _ L X hS; go_simp
  simp only [Act.put, List.setIfInBounds_toArray, List.set_cons_zero, List.set_cons_succ]
  refine SG.seq_pure (fun _ => .int .i64 t1) (fun _ => rfl) (fun _ => by rfl) (fun _ L X hL h => h.pure 12 (by decide) (by decide)) ?_ ?_
  · intro _ L X hS; have f0 := hS.b7.cell 0; have f1 := hS.b7.cell 1; have f2 := hS.b7.cell 2; have f3 := hS.b7.cell 3; simp at f0 f1 f2 f3; go_simp
  simp only [Act.put, List.setIfInBounds_toArray, List.set_cons_zero, List.set_cons_succ]
  refine SG.seq_pure (fun _ => .bool true) (fun _ => rfl) (fun _ => by rfl) (fun _ L X hL h => h.pure 13 (by decide) (by decide)) ?_ ?_
  · intro _ L X hS; go_simp
  simp only [Act.put, List.setIfInBounds_toArray, List.set_cons_zero, List.set_cons_succ]
  refine SG.seq_pure (fun _ => .bool true) (fun _ => rfl) (fun _ => by rfl) (fun _ L X hL h => h.pure 14 (by decide) (by decide)) ?_ ?_
  · intro _ L X hS; go_simp
  simp only [Act.put, List.setIfInBounds_toArray, List.set_cons_zero, List.set_cons_succ]
  refine SG.seq_pure (fun _ => .bool true) (fun _ => rfl) (fun _ => by rfl) (fun _ L X hL h => h.pure 15 (by decide) (by decide)) ?_ ?_
  · intro _ L X hS; go_simp
  simp only [Act.put, List.setIfInBounds_toArray, List.set_cons_zero, List.set_cons_succ]
  refine SG.seq_pure (fun _ => .pointer (some ⟨g5, 2, none⟩)) (fun _ => rfl) (fun _ => by rfl) (fun _ L X hL h => h.pure 16 (by decide) (by decide)) ?_ ?_
  · intro _ L X hS; go_simp
  simp only [Act.put, List.setIfInBounds_toArray, List.set_cons_zero, List.set_cons_succ]
  refine SG.seq_pure (fun _ => .int .i64 o2) (fun _ => rfl) (fun _ => by rfl) (fun _ L X hL h => h.pure 17 (by decide) (by decide)) ?_ ?_
  · intro _ L X hS; have f0 := hS.b5.cell 0; have f1 := hS.b5.cell 1; have f2 := hS.b5.cell 2; have f3 := hS.b5.cell 3; have f4 := hS.b5.cell 4; have f5 := hS.b5.cell 5; simp at f0 f1 f2 f3 f4 f5; go_simp
  simp only [Act.put, List.setIfInBounds_toArray, List.set_cons_zero, List.set_cons_succ]
  refine SG.seq_pure (fun _ => .pointer (some ⟨g7, 2, none⟩)) (fun _ => rfl) (fun _ => by rfl) (fun _ L X hL h => h.pure 18 (by decide) (by decide)) ?_ ?_
  · intro _ L X hS; go_simp
  simp only [Act.put, List.setIfInBounds_toArray, List.set_cons_zero, List.set_cons_succ]
  refine SG.seq_pure (fun _ => .int .i64 t2) (fun _ => rfl) (fun _ => by rfl) (fun _ L X hL h => h.pure 19 (by decide) (by decide)) ?_ ?_
  · intro _ L X hS; have f0 := hS.b7.cell 0; have f1 := hS.b7.cell 1; have f2 := hS.b7.cell 2; have f3 := hS.b7.cell 3; simp at f0 f1 f2 f3; go_simp
  simp only [Act.put, List.setIfInBounds_toArray, List.set_cons_zero, List.set_cons_succ]
  refine SG.seq_pure (fun _ => .bool D) (fun _ => rfl) (fun _ => by rfl) (fun _ L X hL h => h.pure 20 (by decide) (by decide)) ?_ ?_
  · intro _ L X hS; go_simp
  simp only [Act.put, List.setIfInBounds_toArray, List.set_cons_zero, List.set_cons_succ]
  refine SG.seq_pure (fun _ => .bool D) (fun _ => rfl) (fun _ => by rfl) (fun _ L X hL h => h.pure 21 (by decide) (by decide)) ?_ ?_
  · intro _ L X hS; go_simp
  simp only [Act.put, List.setIfInBounds_toArray, List.set_cons_zero, List.set_cons_succ]
  refine SG.seq_store (fun _ => rfl) (fun _ => by rfl) ?_ ?_
  · intro _ L X hL h0 hd hS
    exact ⟨_, run_store_row 39 _ _ rfl g2 _ _ #[.int .u32 o0, .int .i64 o1, .int .i64 o2, .int .i64 o3, .int .i64 o4, .int .i64 o5] (by rfl) (by rfl) hS.b2 (six_size rfl _) Tryd.infoOts (all_oneCell_toArray (by simp [Value.oneCell'])), hS.two rfl (by rw [hL]; decide) l2 n32 n52 n72⟩
  simp only [Act.put, List.setIfInBounds_toArray, List.set_cons_zero, List.set_cons_succ]
  refine SG.seq_store (fun _ => rfl) (fun _ => by rfl) ?_ ?_
  · intro _ L X hL h0 hd hS
    exact ⟨_, run_store_row 41 _ _ rfl g3 _ _ #[.int .u32 t0, .int .i64 t1, .int .i64 t2, .int .i64 t3] (by rfl) (by rfl) hS.b3 (four_size rfl _) Tryd.infoTree (all_oneCell_toArray (by simp [Value.oneCell'])), hS.three rfl (by rw [hL]; decide) l3 n23 n53 n73⟩
  simp only [Act.put, List.setIfInBounds_toArray, List.set_cons_zero, List.set_cons_succ]
  refine SG.seq_pure (fun _ => .bool D) (fun _ => rfl) (fun _ => by rfl) (fun _ L X hL h => h.pure 24 (by decide) (by decide)) ?_ ?_
  · intro _ L X hS; go_simp
  simp only [Act.put, List.setIfInBounds_toArray, List.set_cons_zero, List.set_cons_succ]
  refine SG.seq_nil (fun _ X hS => ?_)
  have e2 := hS.b2
  have e3 := hS.b3
  rw [if_pos (by rfl)] at e2 e3
  have E2 := Lib.hid e2
  have E3 := Lib.hid e3
  have EB := Lib.hid hS.bel
  clear hS e2 e3
  go_wp2
  refine bodyPost_ret (results_three rfl _ _ g2 g3 _ _ #[.int .u32 o0, .int .i64 o1, .int .i64 o2, .int .i64 o3, .int .i64 o4, .int .i64 o5] #[.int .u32 t0, .int .i64 t1, .int .i64 t2, .int .i64 t3] _ _ rfl E2.out Tryd.underlying39 rfl Tryd.infoOts rfl E3.out Tryd.underlying41 rfl Tryd.infoTree) rfl ?_
  exact ⟨rfl, EB.out⟩
end Go.Proofs.YtccnbepccajdoaaDoor.S13
