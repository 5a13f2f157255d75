/-
  What the landed lms.setsOf does. No statement is proved here. (Written by genh2.py.)
-/
import Derived.Test.YtccnbepccajdoaaDoorHs1
import Derived.Test.YtccnbepccajdoaaDoorSteadyG
import Derived.Deep.Cut
namespace Go.Proofs.YtccnbepccajdoaaDoor.S13
set_option linter.unusedSimpArgs false
set_option linter.unusedVariables false
open Go.RowKit S7 S8

def zB : Array Value := #[.int .u32 0, .int .i64 0, .int .i64 0, .int .i64 0, .int .i64 0, .int .i64 0, .int .u32 0, .int .i64 0, .int .i64 0, .int .i64 0]
/-- What holds in setsOf's region. -/
structure IB (D : List Nat) (W : World) (a b : Int) (vals : Array Value) (g : Nat) (L : Array Bool) (X : World) : Prop where
  bel : Below W.heap.size W X
  bx : Bk X W.heap.size 34 #[.int .u32 a, .int .u32 b]
  nw : L.getD 13 false = true → W.heap.size + 1 < g ∧ Bk X g 82 (if L.getD 14 false = true then vals else zB)
  dd : ∀ j ∈ D, L.getD j false = false
  sz : W.heap.size + 1 < X.heap.size
  rs : Bk X (W.heap.size + 1) 82 zB
section
variable {D : List Nat} {W X X' : World} {a b : Int} {vals : Array Value} {g : Nat} {L : Array Bool}
theorem dd_set {D : List Nat} {L : Array Bool} (h : ∀ j ∈ D, L.getD j false = false) {i : Nat} (hi : i ∉ D) : ∀ j ∈ D, (L.setIfInBounds i true).getD j false = false := fun j hj => by
  rw [SG.getD_ne (fun e : i = j => hi (by rw [e]; exact hj))]
  exact h j hj
theorem IB.pure (h : IB D W a b vals g L X) (i : Nat) (h1 : i ≠ 13) (h2 : i ≠ 14) (hi : i ∉ D) : IB D W a b vals g (L.setIfInBounds i true) X :=
  ⟨h.bel, h.bx, by rw [SG.getD_ne h1, SG.getD_ne h2]; exact h.nw, dd_set h.dd hi, h.sz, h.rs⟩
theorem IB.call (h : IB D W a b vals g L X) (hb : Below X.heap.size X X') (i : Nat) (h1 : i ≠ 13) (h2 : i ≠ 14) (hi : i ∉ D) : IB D W a b vals g (L.setIfInBounds i true) X' := by
  have hs := hb.size
  have hz := h.sz
  refine ⟨h.bel.trans (hb.mono (by omega)), h.bx.below hb (by omega), ?_, dd_set h.dd hi, by omega, h.rs.below hb (by omega)⟩
  rw [SG.getD_ne h1, SG.getD_ne h2]
  intro h3
  obtain ⟨h4, h5⟩ := h.nw h3
  exact ⟨h4, h5.below hb h5.lt⟩
theorem IB.new (h : IB D W a b vals g L X) (hL : 13 < L.size) (h14 : L.getD 14 false = false) (hi : 13 ∉ D) : IB D W a b vals X.heap.size (L.setIfInBounds 13 true) (X.alloc (.cells zB 82)) := by
  have hz := h.sz
  refine ⟨h.bel.alloc (by omega) _, h.bx.alloc _, fun _ => ⟨hz, ?_⟩, dd_set h.dd hi, by simp; omega, h.rs.alloc _⟩
  rw [SG.getD_ne (by omega), h14, if_neg (by simp)]
  exact Bk.new _ _ _
end
theorem IB.start (D : List Nat) (W : World) (a b : Int) (vals : Array Value) (n : Nat) : IB D W a b vals 0 (Array.replicate n false) ((W.alloc (.cells #[.int .u32 a, .int .u32 b] 34)).alloc (.cells zB 82)).drew :=
  ⟨(two_bel _ _ _).drew, ((Bk.new W _ _).alloc _).drew, fun h => (by rw [SG.getD_rep] at h; cases h), fun j _ => SG.getD_rep _ _, by simp [World.drew], (Bk.newAt _ _ _ _ (by simp)).drew⟩

set_option maxHeartbeats 4000000 in
theorem setsOf_one (a b : Nat) (hO : okO a = false) (l1 : a < 4294967296) (w : World) (hk : S0.ok w) : Calls Tryd.prog 42 #[.agg #[.int .u32 (a : Int), .int .u32 (b : Int)]] w fun e w' => e = .panicked [LV.wrg 4] ∧ Below w.heap.size w w' := by
  have HO := Lib.hid (show ∀ X, S0.ok X → Calls Tryd.prog 40 #[.int .u32 (a : Int)] X fun e w' => e = .returned (.tuple #[.agg #[.int .u32 0, .int .i64 0, .int .i64 0, .int .i64 0, .int .i64 0, .int .i64 0], .int .i64 4]) ∧ Below X.heap.size X w' from fun X g => by
    have h := S0.ots a X l1 g
    rw [otsA, otsE, hO, if_neg (by simp), if_neg (by simp)] at h
    exact h)
  have HM := Lib.hid (show ∀ X, Calls Tryd.prog 39 #[.agg #[.int .u32 0, .int .i64 0, .int .i64 0, .int .i64 0, .int .i64 0, .int .i64 0], .int .i64 4] X fun e w' => e = .panicked [LV.wrg 4] ∧ Below X.heap.size X w' from fun X => must_ots_no 4 (by decide) 0 0 0 0 0 0 X)
  have HK := Lib.hid hk
  clear hO hk l1
  go_enter Tryd.func42, Tryd.ntmps42
  go_upto_region 1 with (fail)
  refine SG.wp_region_ghost (γ := Nat) (fun g => [.pointer (some ⟨w.heap.size, 0, none⟩), .int .u32 (a : Int), .tuple #[.agg #[.int .u32 0, .int .i64 0, .int .i64 0, .int .i64 0, .int .i64 0, .int .i64 0], .int .i64 4], .agg #[.int .u32 0, .int .i64 0, .int .i64 0, .int .i64 0, .int .i64 0, .int .i64 0], .int .i64 4, undef, .pointer (some ⟨w.heap.size, 1, none⟩), .int .u32 (b : Int), undef, undef, undef, undef, undef] ++ .pointer (some ⟨g, 0, none⟩) :: [undef]) (IB [5, 8, 9, 10, 11, 12, 14] w a b zB) 15 (by kernel_rfl) (by kernel_rfl) rfl 0 (IB.start _ _ _ _ _ _) ?_
  refine SG.seq_pure (fun g => .pointer (some ⟨w.heap.size, 0, none⟩)) (fun _ => rfl) (fun _ => by rfl) (fun g L X hL h => h.pure 0 (by decide) (by decide) (by decide)) ?_ ?_
  · intro g L X hS; go_simp
  simp only [Act.put, List.setIfInBounds_toArray, List.set_cons_zero, List.set_cons_succ]
  refine SG.seq_pure (fun g => .int .u32 (a : Int)) (fun _ => rfl) (fun _ => by rfl) (fun g L X hL h => h.pure 1 (by decide) (by decide) (by decide)) ?_ ?_
  · intro g L X hS; have f0 := hS.bx.cell 0; have f1 := hS.bx.cell 1; simp at f0 f1; go_simp
  simp only [Act.put, List.setIfInBounds_toArray, List.set_cons_zero, List.set_cons_succ]
  refine SG.seq_call 40 (fun g => #[.int .u32 (a : Int)]) (fun g => .tuple #[.agg #[.int .u32 0, .int .i64 0, .int .i64 0, .int .i64 0, .int .i64 0, .int .i64 0], .int .i64 4]) (fun _ => rfl) (fun _ => by rfl) ?_ ?_ ?_
  · intro g L X hS; go_simp
  · intro g L X hL h0 hd hS; exact (HO.out X (S0.bel HK.out hS.bel)).mono fun e X' ⟨h1, h2⟩ => ⟨h1, hS.call h2 2 (by decide) (by decide) (by decide)⟩
  simp only [Act.put, List.setIfInBounds_toArray, List.set_cons_zero, List.set_cons_succ]
  refine SG.seq_pure (fun g => .agg #[.int .u32 0, .int .i64 0, .int .i64 0, .int .i64 0, .int .i64 0, .int .i64 0]) (fun _ => rfl) (fun _ => by rfl) (fun g L X hL h => h.pure 3 (by decide) (by decide) (by decide)) ?_ ?_
  · intro g L X hS; go_simp
  simp only [Act.put, List.setIfInBounds_toArray, List.set_cons_zero, List.set_cons_succ]
  refine SG.seq_pure (fun g => .int .i64 4) (fun _ => rfl) (fun _ => by rfl) (fun g L X hL h => h.pure 4 (by decide) (by decide) (by decide)) ?_ ?_
  · intro g L X hS; go_simp
  simp only [Act.put, List.setIfInBounds_toArray, List.set_cons_zero, List.set_cons_succ]
  refine SG.seq_panic 39 (fun g => #[.agg #[.int .u32 0, .int .i64 0, .int .i64 0, .int .i64 0, .int .i64 0, .int .i64 0], .int .i64 4]) (fun _ => rfl) (fun _ => by rfl) ?_ ?_ ?_
  · intro g L X hS; go_simp
  · intro g L X hL h0 hd hS; exact (HM.out X).mono fun e X' ⟨h1, h2⟩ => ⟨_, h1, SG.accum_defers _ _ _ _ _, rfl, hS.bel.trans (h2.mono hS.bel.size)⟩
  simp only [Act.put, List.setIfInBounds_toArray, List.set_cons_zero, List.set_cons_succ]
  refine SG.seq_pure (fun g => .pointer (some ⟨w.heap.size, 1, none⟩)) (fun _ => rfl) (fun _ => by rfl) (fun g L X hL h => h.pure 6 (by decide) (by decide) (by decide)) ?_ ?_
  · intro g L X hS; go_simp
  simp only [Act.put, List.setIfInBounds_toArray, List.set_cons_zero, List.set_cons_succ]
  refine SG.seq_pure (fun g => .int .u32 (b : Int)) (fun _ => rfl) (fun _ => by rfl) (fun g L X hL h => h.pure 7 (by decide) (by decide) (by decide)) ?_ ?_
  · intro g L X hS; have f0 := hS.bx.cell 0; have f1 := hS.bx.cell 1; simp at f0 f1; go_simp
  simp only [Act.put, List.setIfInBounds_toArray, List.set_cons_zero, List.set_cons_succ]
  refine SG.seq_dead 5 (by kernel_rfl) (fun _ => rfl) (fun g L X hS => hS.dd 5 (by decide)) ?_
  simp only [Act.put, List.setIfInBounds_toArray, List.set_cons_zero, List.set_cons_succ]
  refine SG.seq_dead 8 (by kernel_rfl) (fun _ => rfl) (fun g L X hS => hS.dd 8 (by decide)) ?_
  simp only [Act.put, List.setIfInBounds_toArray, List.set_cons_zero, List.set_cons_succ]
  refine SG.seq_dead 8 (by kernel_rfl) (fun _ => rfl) (fun g L X hS => hS.dd 8 (by decide)) ?_
  simp only [Act.put, List.setIfInBounds_toArray, List.set_cons_zero, List.set_cons_succ]
  refine SG.seq_dead 9 (by kernel_rfl) (fun _ => rfl) (fun g L X hS => hS.dd 9 (by decide)) ?_
  simp only [Act.put, List.setIfInBounds_toArray, List.set_cons_zero, List.set_cons_succ]
  refine SG.seq_dead 5 (by kernel_rfl) (fun _ => rfl) (fun g L X hS => hS.dd 5 (by decide)) ?_
  simp only [Act.put, List.setIfInBounds_toArray, List.set_cons_zero, List.set_cons_succ]
  refine SG.seq_made (fun g => .pointer (some ⟨g, 0, none⟩)) (fun _ => rfl) (fun _ => by rfl) ?_ ?_
  · intro g L X hL h0 hd hC hS
    refine ⟨X.heap.size, X.alloc (.cells zB 82), ?_, fun j hj _ => SG.mid_ne _ _ _ _ j hj, hS.new (by rw [hL]; decide) (hS.dd 14 (by decide)) (by decide)⟩
    unfold zB
    go_simp
  simp only [Act.put, List.setIfInBounds_toArray, List.set_cons_zero, List.set_cons_succ]
  refine SG.seq_dead 12 (by kernel_rfl) (fun _ => rfl) (fun g L X hS => hS.dd 12 (by decide)) ?_
  simp only [Act.put, List.setIfInBounds_toArray, List.set_cons_zero, List.set_cons_succ]
  refine SG.seq_nil (fun g X hS => ?_)
  have := hS.dd 5 (by decide)
  simp at this

set_option maxHeartbeats 4000000 in
theorem setsOf_two (a b : Nat) (h1 : okO a = true) (hT : okT b = false) (l1 : a < 4294967296) (l2 : b < 4294967296) (w : World) (hk : S0.ok w) : Calls Tryd.prog 42 #[.agg #[.int .u32 (a : Int), .int .u32 (b : Int)]] w fun e w' => e = .panicked [LV.wrg 4] ∧ Below w.heap.size w w' := by
  obtain ⟨K, hK⟩ : ∃ K, K = oK a := ⟨_, rfl⟩
  obtain ⟨N, hN⟩ : ∃ N, N = oN a := ⟨_, rfl⟩
  obtain ⟨V, hV⟩ : ∃ V, V = oW a := ⟨_, rfl⟩
  obtain ⟨P, hP⟩ : ∃ P, P = oP a := ⟨_, rfl⟩
  obtain ⟨S, hS⟩ : ∃ S, S = oS a := ⟨_, rfl⟩
  have HO := Lib.hid (show ∀ X, S0.ok X → Calls Tryd.prog 40 #[.int .u32 (a : Int)] X fun e w' => e = .returned (.tuple #[.agg #[.int .u32 (a : Int), .int .i64 (K : Int), .int .i64 (N : Int), .int .i64 (V : Int), .int .i64 (P : Int), .int .i64 (S : Int)], .int .i64 0]) ∧ Below X.heap.size X w' from fun X g => by
    have h := S0.ots a X l1 g
    rw [otsA, otsE, h1, if_pos rfl, if_pos rfl] at h
    rw [hK, hN, hV, hP, hS]
    exact h)
  have HM := Lib.hid (show ∀ X, Calls Tryd.prog 39 #[.agg #[.int .u32 (a : Int), .int .i64 (K : Int), .int .i64 (N : Int), .int .i64 (V : Int), .int .i64 (P : Int), .int .i64 (S : Int)], .int .i64 0] X fun e w' => e = .returned (.agg #[.int .u32 (a : Int), .int .i64 (K : Int), .int .i64 (N : Int), .int .i64 (V : Int), .int .i64 (P : Int), .int .i64 (S : Int)]) ∧ Below X.heap.size X w' from fun X => must_ots_yes a K N V P S X)
  have HT := Lib.hid (show ∀ X, S0.ok X → Calls Tryd.prog 31 #[.int .u32 (b : Int)] X fun e w' => e = .returned (.tuple #[.agg #[.int .u32 0, .int .i64 0, .int .i64 0, .int .i64 0], .int .i64 4]) ∧ Below X.heap.size X w' from fun X g => by
    have h := S0.tree b X l2 g
    rw [treeA, treeE, hT, if_neg (by simp), if_neg (by simp)] at h
    exact h)
  have HN := Lib.hid (show ∀ X, Calls Tryd.prog 30 #[.agg #[.int .u32 0, .int .i64 0, .int .i64 0, .int .i64 0], .int .i64 4] X fun e w' => e = .panicked [LV.wrg 4] ∧ Below X.heap.size X w' from fun X => must_tree_no 4 (by decide) 0 0 0 0 X)
  have HK := Lib.hid hk
  clear hk l1 l2 hK hN hV hP hS h1 hT
  go_enter Tryd.func42, Tryd.ntmps42
  go_upto_region 1 with (fail)
  refine SG.wp_region_ghost (γ := Nat) (fun g => [.pointer (some ⟨w.heap.size, 0, none⟩), .int .u32 (a : Int), .tuple #[.agg #[.int .u32 (a : Int), .int .i64 (K : Int), .int .i64 (N : Int), .int .i64 (V : Int), .int .i64 (P : Int), .int .i64 (S : Int)], .int .i64 0], .agg #[.int .u32 (a : Int), .int .i64 (K : Int), .int .i64 (N : Int), .int .i64 (V : Int), .int .i64 (P : Int), .int .i64 (S : Int)], .int .i64 0, .agg #[.int .u32 (a : Int), .int .i64 (K : Int), .int .i64 (N : Int), .int .i64 (V : Int), .int .i64 (P : Int), .int .i64 (S : Int)], .pointer (some ⟨w.heap.size, 1, none⟩), .int .u32 (b : Int), .tuple #[.agg #[.int .u32 0, .int .i64 0, .int .i64 0, .int .i64 0], .int .i64 4], .agg #[.int .u32 0, .int .i64 0, .int .i64 0, .int .i64 0], .int .i64 4, undef, undef] ++ .pointer (some ⟨g, 0, none⟩) :: [undef]) (IB [11, 12, 14] w a b zB) 15 (by kernel_rfl) (by kernel_rfl) rfl 0 (IB.start _ _ _ _ _ _) ?_
  refine SG.seq_pure (fun g => .pointer (some ⟨w.heap.size, 0, none⟩)) (fun _ => rfl) (fun _ => by rfl) (fun g L X hL h => h.pure 0 (by decide) (by decide) (by decide)) ?_ ?_
  · intro g L X hS; go_simp
  simp only [Act.put, List.setIfInBounds_toArray, List.set_cons_zero, List.set_cons_succ]
  refine SG.seq_pure (fun g => .int .u32 (a : Int)) (fun _ => rfl) (fun _ => by rfl) (fun g L X hL h => h.pure 1 (by decide) (by decide) (by decide)) ?_ ?_
  · intro g L X hS; have f0 := hS.bx.cell 0; have f1 := hS.bx.cell 1; simp at f0 f1; go_simp
  simp only [Act.put, List.setIfInBounds_toArray, List.set_cons_zero, List.set_cons_succ]
  refine SG.seq_call 40 (fun g => #[.int .u32 (a : Int)]) (fun g => .tuple #[.agg #[.int .u32 (a : Int), .int .i64 (K : Int), .int .i64 (N : Int), .int .i64 (V : Int), .int .i64 (P : Int), .int .i64 (S : Int)], .int .i64 0]) (fun _ => rfl) (fun _ => by rfl) ?_ ?_ ?_
  · intro g L X hS; go_simp
  · intro g L X hL h0 hd hS; exact (HO.out X (S0.bel HK.out hS.bel)).mono fun e X' ⟨h1, h2⟩ => ⟨h1, hS.call h2 2 (by decide) (by decide) (by decide)⟩
  simp only [Act.put, List.setIfInBounds_toArray, List.set_cons_zero, List.set_cons_succ]
  refine SG.seq_pure (fun g => .agg #[.int .u32 (a : Int), .int .i64 (K : Int), .int .i64 (N : Int), .int .i64 (V : Int), .int .i64 (P : Int), .int .i64 (S : Int)]) (fun _ => rfl) (fun _ => by rfl) (fun g L X hL h => h.pure 3 (by decide) (by decide) (by decide)) ?_ ?_
  · intro g L X hS; go_simp
  simp only [Act.put, List.setIfInBounds_toArray, List.set_cons_zero, List.set_cons_succ]
  refine SG.seq_pure (fun g => .int .i64 0) (fun _ => rfl) (fun _ => by rfl) (fun g L X hL h => h.pure 4 (by decide) (by decide) (by decide)) ?_ ?_
  · intro g L X hS; go_simp
  simp only [Act.put, List.setIfInBounds_toArray, List.set_cons_zero, List.set_cons_succ]
  refine SG.seq_call 39 (fun g => #[.agg #[.int .u32 (a : Int), .int .i64 (K : Int), .int .i64 (N : Int), .int .i64 (V : Int), .int .i64 (P : Int), .int .i64 (S : Int)], .int .i64 0]) (fun g => .agg #[.int .u32 (a : Int), .int .i64 (K : Int), .int .i64 (N : Int), .int .i64 (V : Int), .int .i64 (P : Int), .int .i64 (S : Int)]) (fun _ => rfl) (fun _ => by rfl) ?_ ?_ ?_
  · intro g L X hS; go_simp
  · intro g L X hL h0 hd hS; exact (HM.out X).mono fun e X' ⟨h1, h2⟩ => ⟨h1, hS.call h2 5 (by decide) (by decide) (by decide)⟩
  simp only [Act.put, List.setIfInBounds_toArray, List.set_cons_zero, List.set_cons_succ]
  refine SG.seq_pure (fun g => .pointer (some ⟨w.heap.size, 1, none⟩)) (fun _ => rfl) (fun _ => by rfl) (fun g L X hL h => h.pure 6 (by decide) (by decide) (by decide)) ?_ ?_
  · intro g L X hS; go_simp
  simp only [Act.put, List.setIfInBounds_toArray, List.set_cons_zero, List.set_cons_succ]
  refine SG.seq_pure (fun g => .int .u32 (b : Int)) (fun _ => rfl) (fun _ => by rfl) (fun g L X hL h => h.pure 7 (by decide) (by decide) (by decide)) ?_ ?_
  · intro g L X hS; have f0 := hS.bx.cell 0; have f1 := hS.bx.cell 1; simp at f0 f1; go_simp
  simp only [Act.put, List.setIfInBounds_toArray, List.set_cons_zero, List.set_cons_succ]
  refine SG.seq_call 31 (fun g => #[.int .u32 (b : Int)]) (fun g => .tuple #[.agg #[.int .u32 0, .int .i64 0, .int .i64 0, .int .i64 0], .int .i64 4]) (fun _ => rfl) (fun _ => by rfl) ?_ ?_ ?_
  · intro g L X hS; go_simp
  · intro g L X hL h0 hd hS; exact (HT.out X (S0.bel HK.out hS.bel)).mono fun e X' ⟨h1, h2⟩ => ⟨h1, hS.call h2 8 (by decide) (by decide) (by decide)⟩
  simp only [Act.put, List.setIfInBounds_toArray, List.set_cons_zero, List.set_cons_succ]
  refine SG.seq_pure (fun g => .agg #[.int .u32 0, .int .i64 0, .int .i64 0, .int .i64 0]) (fun _ => rfl) (fun _ => by rfl) (fun g L X hL h => h.pure 9 (by decide) (by decide) (by decide)) ?_ ?_
  · intro g L X hS; go_simp
  simp only [Act.put, List.setIfInBounds_toArray, List.set_cons_zero, List.set_cons_succ]
  refine SG.seq_pure (fun g => .int .i64 4) (fun _ => rfl) (fun _ => by rfl) (fun g L X hL h => h.pure 10 (by decide) (by decide) (by decide)) ?_ ?_
  · intro g L X hS; go_simp
  simp only [Act.put, List.setIfInBounds_toArray, List.set_cons_zero, List.set_cons_succ]
  refine SG.seq_panic 30 (fun g => #[.agg #[.int .u32 0, .int .i64 0, .int .i64 0, .int .i64 0], .int .i64 4]) (fun _ => rfl) (fun _ => by rfl) ?_ ?_ ?_
  · intro g L X hS; go_simp
  · intro g L X hL h0 hd hS; exact (HN.out X).mono fun e X' ⟨h1, h2⟩ => ⟨_, h1, SG.accum_defers _ _ _ _ _, rfl, hS.bel.trans (h2.mono hS.bel.size)⟩
  simp only [Act.put, List.setIfInBounds_toArray, List.set_cons_zero, List.set_cons_succ]
  refine SG.seq_dead 11 (by kernel_rfl) (fun _ => rfl) (fun g L X hS => hS.dd 11 (by decide)) ?_
  simp only [Act.put, List.setIfInBounds_toArray, List.set_cons_zero, List.set_cons_succ]
  refine SG.seq_made (fun g => .pointer (some ⟨g, 0, none⟩)) (fun _ => rfl) (fun _ => by rfl) ?_ ?_
  · intro g L X hL h0 hd hC hS
    refine ⟨X.heap.size, X.alloc (.cells zB 82), ?_, fun j hj _ => SG.mid_ne _ _ _ _ j hj, hS.new (by rw [hL]; decide) (hS.dd 14 (by decide)) (by decide)⟩
    unfold zB
    go_simp
  simp only [Act.put, List.setIfInBounds_toArray, List.set_cons_zero, List.set_cons_succ]
  refine SG.seq_dead 12 (by kernel_rfl) (fun _ => rfl) (fun g L X hS => hS.dd 12 (by decide)) ?_
  simp only [Act.put, List.setIfInBounds_toArray, List.set_cons_zero, List.set_cons_succ]
  refine SG.seq_nil (fun g X hS => ?_)
  have := hS.dd 11 (by decide)
  simp at this

theorem Tryd.infoBoth : (Tryd.prog.info? 82).map (·.size) = some 10 := by kernel_rfl
theorem below_cells {B : Nat} {W : World} (g : Nat) (hg : B ≤ g) : ∀ (vs : List Value) (o : Nat) (X : World), Below B W X → Below B W (X.setCells g o vs)
  | [], _, _, h => h
  | v :: vs, o, X, h => below_cells g hg vs (o + 1) _ (h.setCell hg v)
theorem size_cells (g : Nat) : ∀ (vs : List Value) (o : Nat) (X : World), (X.setCells g o vs).heap.size = X.heap.size
  | [], _, _ => rfl
  | v :: vs, o, X => by rw [World.setCells, size_cells g vs]; simp [World.setCell]
theorem far_cells {g' : Nat} {t : TypeId} {cs : Array Value} (g : Nat) (hg : g' ≠ g) : ∀ (vs : List Value) (o : Nat) (X : World), Bk X g' t cs → Bk (X.setCells g o vs) g' t cs
  | [], _, _, h => h
  | v :: vs, o, X, h => far_cells g hg vs (o + 1) _ (h.far hg v)
theorem bk_cells {X : World} {g : Nat} {t : TypeId} {cs cs' : Array Value} (h : Bk X g t cs) (hl : cs.size = cs'.size) : Bk (X.setCells g 0 cs'.toList) g t cs' := by
  have := Bk.puts (g := g) (t := t) cs'.toList [] cs.toList [] X (by simpa using h) (by simpa using hl)
  simpa using this
theorem zif_size {vals : Array Value} (hv : vals.size = 10) (c : Bool) : (if c = true then vals else zB).size = vals.size := by
  split
  · rfl
  · rw [hv]; rfl
theorem run_store_row {P : Program} {op : Oper} {ev : Operand → Value} {w : World} (ty : TypeId) (x y : Operand) (ho : op.op = .store ty x y) (g : Nat) (t : TypeId) (old cells : Array Value) (hx : ev x = .pointer (some ⟨g, 0, none⟩)) (hy : ev y = .agg cells)
    (hb : Bk w g t old) (hl : old.size = cells.size) (hi : (P.info? ty).map (·.size) = some cells.size) (h1 : cells.all (·.oneCell') = true) : (execOp ev op).run P w = .ok .skip (w.setCells g 0 cells.toList) := by
  unfold execOp
  simp only [ho, hx, hy, Instr.storeAt, Instr.sureAddr, Sem.run_bind, Sem.run_pure, Result.andThen_ok, run_storeVar_mid w g 0 ty cells (hb.there 0 _ (by omega)) hi h1]
theorem IB.fill {W X : World} {a b : Int} {vals : Array Value} {g : Nat} {L : Array Bool} (h : IB [] W a b vals g L X) (h13 : L.getD 13 false = true) (hv : vals.size = 10) (hL : 14 < L.size) : IB [] W a b vals g (L.setIfInBounds 14 true) (X.setCells g 0 vals.toList) := by
  obtain ⟨h4, h5⟩ := h.nw h13
  have hz := h.sz
  refine ⟨below_cells g (by omega) _ _ _ h.bel, far_cells g (by omega) _ _ _ h.bx, fun _ => ⟨h4, ?_⟩, fun j hj => (by cases hj), by rw [size_cells]; exact hz, far_cells g (by omega) _ _ _ h.rs⟩
  rw [SG.getD_new hL, if_pos rfl]
  exact bk_cells h5 (zif_size hv _)
set_option maxHeartbeats 4000000 in
theorem setsOf_last (a b : Nat) (h1 : okO a = true) (h2 : okT b = true) (l1 : a < 4294967296) (l2 : b < 4294967296) (w : World) (hk : S0.ok w) : Calls Tryd.prog 42 #[.agg #[.int .u32 (a : Int), .int .u32 (b : Int)]] w fun e w' => (if okP (a, b) = true then ∃ v, e = .returned v else e = .panicked [LV.wrg 4]) ∧ Below w.heap.size w w' := by
  obtain ⟨K, hK⟩ : ∃ K, K = oK a := ⟨_, rfl⟩
  obtain ⟨N, hN⟩ : ∃ N, N = oN a := ⟨_, rfl⟩
  obtain ⟨V, hV⟩ : ∃ V, V = oW a := ⟨_, rfl⟩
  obtain ⟨P, hP⟩ : ∃ P, P = oP a := ⟨_, rfl⟩
  obtain ⟨S, hS⟩ : ∃ S, S = oS a := ⟨_, rfl⟩
  have HO := Lib.hid (show ∀ X, S0.ok X → Calls Tryd.prog 40 #[.int .u32 (a : Int)] X fun e w' => e = .returned (.tuple #[.agg #[.int .u32 (a : Int), .int .i64 (K : Int), .int .i64 (N : Int), .int .i64 (V : Int), .int .i64 (P : Int), .int .i64 (S : Int)], .int .i64 0]) ∧ Below X.heap.size X w' from fun X g => by
    have h := S0.ots a X l1 g
    rw [otsA, otsE, h1, if_pos rfl, if_pos rfl] at h
    rw [hK, hN, hV, hP, hS]
    exact h)
  have HM := Lib.hid (show ∀ X, Calls Tryd.prog 39 #[.agg #[.int .u32 (a : Int), .int .i64 (K : Int), .int .i64 (N : Int), .int .i64 (V : Int), .int .i64 (P : Int), .int .i64 (S : Int)], .int .i64 0] X fun e w' => e = .returned (.agg #[.int .u32 (a : Int), .int .i64 (K : Int), .int .i64 (N : Int), .int .i64 (V : Int), .int .i64 (P : Int), .int .i64 (S : Int)]) ∧ Below X.heap.size X w' from fun X => must_ots_yes a K N V P S X)
  obtain ⟨K', hK'⟩ : ∃ K, K = tK b := ⟨_, rfl⟩
  obtain ⟨N', hN'⟩ : ∃ N, N = tN b := ⟨_, rfl⟩
  obtain ⟨H', hH'⟩ : ∃ N, N = tH b := ⟨_, rfl⟩
  have HT := Lib.hid (show ∀ X, S0.ok X → Calls Tryd.prog 31 #[.int .u32 (b : Int)] X fun e w' => e = .returned (.tuple #[.agg #[.int .u32 (b : Int), .int .i64 (K' : Int), .int .i64 (N' : Int), .int .i64 (H' : Int)], .int .i64 0]) ∧ Below X.heap.size X w' from fun X g => by
    have h := S0.tree b X l2 g
    rw [treeA, treeE, h2, if_pos rfl, if_pos rfl] at h
    rw [hK', hN', hH']
    exact h)
  have HN := Lib.hid (show ∀ X, Calls Tryd.prog 30 #[.agg #[.int .u32 (b : Int), .int .i64 (K' : Int), .int .i64 (N' : Int), .int .i64 (H' : Int)], .int .i64 0] X fun e w' => e = .returned (.agg #[.int .u32 (b : Int), .int .i64 (K' : Int), .int .i64 (N' : Int), .int .i64 (H' : Int)]) ∧ Below X.heap.size X w' from fun X => must_tree_yes b K' N' H' X)
  have HP := Lib.hid (show okP (a, b) = (((K : Int) == (K' : Int)) && ((N : Int) == (N' : Int))) by
    rw [okP]
    simp only [h1, h2, hK, hN, hK', hN', Bool.true_and]
    rw [Bool.eq_iff_iff]
    simp only [Bool.and_eq_true, decide_eq_true_eq, beq_iff_eq]
    constructor <;> rintro ⟨p, q⟩ <;> exact ⟨by omega, by omega⟩)
  obtain ⟨F, hF⟩ : ∃ F, F = (((K : Int) == (K' : Int)) && ((N : Int) == (N' : Int))) := ⟨_, rfl⟩
  have HF := Lib.hid (show ∀ X, Calls Tryd.prog 27 #[.agg #[.int .u32 (a : Int), .int .i64 (K : Int), .int .i64 (N : Int), .int .i64 (V : Int), .int .i64 (P : Int), .int .i64 (S : Int)], .agg #[.int .u32 (b : Int), .int .i64 (K' : Int), .int .i64 (N' : Int), .int .i64 (H' : Int)]] X fun e w' => e = .returned (.bool F) ∧ Below X.heap.size X w' from fun X => by rw [hF]; exact fit_any _ _ _ _ _ _ _ _ _ _ X)
  rw [← hF] at HP
  have HK := Lib.hid hk
  rw [HP.out]
  clear hk l1 l2 hK hN hV hP hS h1 h2 hK' hN' hH' hF HP
  go_enter Tryd.func42, Tryd.ntmps42
  go_upto_region 1 with (fail)
  refine SG.wp_region_ghost (γ := Nat) (fun g => [.pointer (some ⟨w.heap.size, 0, none⟩), .int .u32 (a : Int), .tuple #[.agg #[.int .u32 (a : Int), .int .i64 (K : Int), .int .i64 (N : Int), .int .i64 (V : Int), .int .i64 (P : Int), .int .i64 (S : Int)], .int .i64 0], .agg #[.int .u32 (a : Int), .int .i64 (K : Int), .int .i64 (N : Int), .int .i64 (V : Int), .int .i64 (P : Int), .int .i64 (S : Int)], .int .i64 0, .agg #[.int .u32 (a : Int), .int .i64 (K : Int), .int .i64 (N : Int), .int .i64 (V : Int), .int .i64 (P : Int), .int .i64 (S : Int)], .pointer (some ⟨w.heap.size, 1, none⟩), .int .u32 (b : Int), .tuple #[.agg #[.int .u32 (b : Int), .int .i64 (K' : Int), .int .i64 (N' : Int), .int .i64 (H' : Int)], .int .i64 0], .agg #[.int .u32 (b : Int), .int .i64 (K' : Int), .int .i64 (N' : Int), .int .i64 (H' : Int)], .int .i64 0, .agg #[.int .u32 (b : Int), .int .i64 (K' : Int), .int .i64 (N' : Int), .int .i64 (H' : Int)], .agg #[.int .u32 (a : Int), .int .i64 (K : Int), .int .i64 (N : Int), .int .i64 (V : Int), .int .i64 (P : Int), .int .i64 (S : Int), .int .u32 (b : Int), .int .i64 (K' : Int), .int .i64 (N' : Int), .int .i64 (H' : Int)]] ++ .pointer (some ⟨g, 0, none⟩) :: [undef]) (IB [] w a b #[.int .u32 (a : Int), .int .i64 (K : Int), .int .i64 (N : Int), .int .i64 (V : Int), .int .i64 (P : Int), .int .i64 (S : Int), .int .u32 (b : Int), .int .i64 (K' : Int), .int .i64 (N' : Int), .int .i64 (H' : Int)]) 15 (by kernel_rfl) (by kernel_rfl) rfl 0 (IB.start _ _ _ _ _ _) ?_
  refine SG.seq_pure (fun g => .pointer (some ⟨w.heap.size, 0, none⟩)) (fun _ => rfl) (fun _ => by rfl) (fun g L X hL h => h.pure 0 (by decide) (by decide) (by decide)) ?_ ?_
  · intro g L X hS; go_simp
  simp only [Act.put, List.setIfInBounds_toArray, List.set_cons_zero, List.set_cons_succ]
  refine SG.seq_pure (fun g => .int .u32 (a : Int)) (fun _ => rfl) (fun _ => by rfl) (fun g L X hL h => h.pure 1 (by decide) (by decide) (by decide)) ?_ ?_
  · intro g L X hS; have f0 := hS.bx.cell 0; have f1 := hS.bx.cell 1; simp at f0 f1; go_simp
  simp only [Act.put, List.setIfInBounds_toArray, List.set_cons_zero, List.set_cons_succ]
  refine SG.seq_call 40 (fun g => #[.int .u32 (a : Int)]) (fun g => .tuple #[.agg #[.int .u32 (a : Int), .int .i64 (K : Int), .int .i64 (N : Int), .int .i64 (V : Int), .int .i64 (P : Int), .int .i64 (S : Int)], .int .i64 0]) (fun _ => rfl) (fun _ => by rfl) ?_ ?_ ?_
  · intro g L X hS; go_simp
  · intro g L X hL h0 hd hS; exact (HO.out X (S0.bel HK.out hS.bel)).mono fun e X' ⟨h1, h2⟩ => ⟨h1, hS.call h2 2 (by decide) (by decide) (by decide)⟩
  simp only [Act.put, List.setIfInBounds_toArray, List.set_cons_zero, List.set_cons_succ]
  refine SG.seq_pure (fun g => .agg #[.int .u32 (a : Int), .int .i64 (K : Int), .int .i64 (N : Int), .int .i64 (V : Int), .int .i64 (P : Int), .int .i64 (S : Int)]) (fun _ => rfl) (fun _ => by rfl) (fun g L X hL h => h.pure 3 (by decide) (by decide) (by decide)) ?_ ?_
  · intro g L X hS; go_simp
  simp only [Act.put, List.setIfInBounds_toArray, List.set_cons_zero, List.set_cons_succ]
  refine SG.seq_pure (fun g => .int .i64 0) (fun _ => rfl) (fun _ => by rfl) (fun g L X hL h => h.pure 4 (by decide) (by decide) (by decide)) ?_ ?_
  · intro g L X hS; go_simp
  simp only [Act.put, List.setIfInBounds_toArray, List.set_cons_zero, List.set_cons_succ]
  refine SG.seq_call 39 (fun g => #[.agg #[.int .u32 (a : Int), .int .i64 (K : Int), .int .i64 (N : Int), .int .i64 (V : Int), .int .i64 (P : Int), .int .i64 (S : Int)], .int .i64 0]) (fun g => .agg #[.int .u32 (a : Int), .int .i64 (K : Int), .int .i64 (N : Int), .int .i64 (V : Int), .int .i64 (P : Int), .int .i64 (S : Int)]) (fun _ => rfl) (fun _ => by rfl) ?_ ?_ ?_
  · intro g L X hS; go_simp
  · intro g L X hL h0 hd hS; exact (HM.out X).mono fun e X' ⟨h1, h2⟩ => ⟨h1, hS.call h2 5 (by decide) (by decide) (by decide)⟩
  simp only [Act.put, List.setIfInBounds_toArray, List.set_cons_zero, List.set_cons_succ]
  refine SG.seq_pure (fun g => .pointer (some ⟨w.heap.size, 1, none⟩)) (fun _ => rfl) (fun _ => by rfl) (fun g L X hL h => h.pure 6 (by decide) (by decide) (by decide)) ?_ ?_
  · intro g L X hS; go_simp
  simp only [Act.put, List.setIfInBounds_toArray, List.set_cons_zero, List.set_cons_succ]
  refine SG.seq_pure (fun g => .int .u32 (b : Int)) (fun _ => rfl) (fun _ => by rfl) (fun g L X hL h => h.pure 7 (by decide) (by decide) (by decide)) ?_ ?_
  · intro g L X hS; have f0 := hS.bx.cell 0; have f1 := hS.bx.cell 1; simp at f0 f1; go_simp
  simp only [Act.put, List.setIfInBounds_toArray, List.set_cons_zero, List.set_cons_succ]
  refine SG.seq_call 31 (fun g => #[.int .u32 (b : Int)]) (fun g => .tuple #[.agg #[.int .u32 (b : Int), .int .i64 (K' : Int), .int .i64 (N' : Int), .int .i64 (H' : Int)], .int .i64 0]) (fun _ => rfl) (fun _ => by rfl) ?_ ?_ ?_
  · intro g L X hS; go_simp
  · intro g L X hL h0 hd hS; exact (HT.out X (S0.bel HK.out hS.bel)).mono fun e X' ⟨h1, h2⟩ => ⟨h1, hS.call h2 8 (by decide) (by decide) (by decide)⟩
  simp only [Act.put, List.setIfInBounds_toArray, List.set_cons_zero, List.set_cons_succ]
  refine SG.seq_pure (fun g => .agg #[.int .u32 (b : Int), .int .i64 (K' : Int), .int .i64 (N' : Int), .int .i64 (H' : Int)]) (fun _ => rfl) (fun _ => by rfl) (fun g L X hL h => h.pure 9 (by decide) (by decide) (by decide)) ?_ ?_
  · intro g L X hS; go_simp
  simp only [Act.put, List.setIfInBounds_toArray, List.set_cons_zero, List.set_cons_succ]
  refine SG.seq_pure (fun g => .int .i64 0) (fun _ => rfl) (fun _ => by rfl) (fun g L X hL h => h.pure 10 (by decide) (by decide) (by decide)) ?_ ?_
  · intro g L X hS; go_simp
  simp only [Act.put, List.setIfInBounds_toArray, List.set_cons_zero, List.set_cons_succ]
  refine SG.seq_call 30 (fun g => #[.agg #[.int .u32 (b : Int), .int .i64 (K' : Int), .int .i64 (N' : Int), .int .i64 (H' : Int)], .int .i64 0]) (fun g => .agg #[.int .u32 (b : Int), .int .i64 (K' : Int), .int .i64 (N' : Int), .int .i64 (H' : Int)]) (fun _ => rfl) (fun _ => by rfl) ?_ ?_ ?_
  · intro g L X hS; go_simp
  · intro g L X hL h0 hd hS; exact (HN.out X).mono fun e X' ⟨h1, h2⟩ => ⟨h1, hS.call h2 11 (by decide) (by decide) (by decide)⟩
  simp only [Act.put, List.setIfInBounds_toArray, List.set_cons_zero, List.set_cons_succ]
  refine SG.seq_pure (fun g => .agg #[.int .u32 (a : Int), .int .i64 (K : Int), .int .i64 (N : Int), .int .i64 (V : Int), .int .i64 (P : Int), .int .i64 (S : Int), .int .u32 (b : Int), .int .i64 (K' : Int), .int .i64 (N' : Int), .int .i64 (H' : Int)]) (fun _ => rfl) (fun _ => by rfl) (fun g L X hL h => h.pure 12 (by decide) (by decide) (by decide)) ?_ ?_
  · intro g L X hS; go_simp
  simp only [Act.put, List.setIfInBounds_toArray, List.set_cons_zero, List.set_cons_succ]
  refine SG.seq_made (fun g => .pointer (some ⟨g, 0, none⟩)) (fun _ => rfl) (fun _ => by rfl) ?_ ?_
  · intro g L X hL h0 hd hC hS
    refine ⟨X.heap.size, X.alloc (.cells zB 82), ?_, fun j hj _ => SG.mid_ne _ _ _ _ j hj, hS.new (by rw [hL]; decide) (by
      cases hc : L.getD 14 false with
      | false => rfl
      | true => have h13 := hC 14 _ rfl hc ⟨13, .data⟩ (by simp) rfl; rw [SG.getD_false (by rw [hL]; decide)] at h0; rw [h0] at h13; cases h13) (by decide)⟩
    unfold zB
    go_simp
  simp only [Act.put, List.setIfInBounds_toArray, List.set_cons_zero, List.set_cons_succ]
  refine SG.seq_store (fun _ => rfl) (fun _ => by rfl) ?_ ?_
  · intro g L X hL h0 hd hS
    have h13 := hd ⟨13, .data⟩ (by simp) rfl
    obtain ⟨h4, h5⟩ := hS.nw h13
    exact ⟨_, run_store_row 82 _ _ rfl g _ _ #[.int .u32 (a : Int), .int .i64 (K : Int), .int .i64 (N : Int), .int .i64 (V : Int), .int .i64 (P : Int), .int .i64 (S : Int), .int .u32 (b : Int), .int .i64 (K' : Int), .int .i64 (N' : Int), .int .i64 (H' : Int)] (by rfl) (by rfl) h5 (zif_size rfl _) Tryd.infoBoth (all_oneCell_toArray (by simp [Value.oneCell'])), hS.fill h13 rfl (by rw [hL]; decide)⟩
  simp only [Act.put, List.setIfInBounds_toArray, List.set_cons_zero, List.set_cons_succ]
  refine SG.seq_nil (fun g X hS => ?_)
  obtain ⟨h4, h5⟩ := hS.nw (by rfl)
  rw [if_pos (by rfl)] at h5
  have HB := Lib.hid h5
  have HW := Lib.hid hS.bel
  have HR := Lib.hid hS.rs
  have c0 := h5.cell 0
  have c1 := h5.cell 1
  have c2 := h5.cell 2
  have c3 := h5.cell 3
  have c4 := h5.cell 4
  have c5 := h5.cell 5
  have c6 := h5.cell 6
  have c7 := h5.cell 7
  have c8 := h5.cell 8
  have c9 := h5.cell 9
  simp at c0 c1 c2 c3 c4 c5 c6 c7 c8 c9
  clear h5 hS
  have HY := Lib.hid (fun X => LV.need_yes 4 X)
  have HX := Lib.hid (fun X => LV.need_no 4 X)
  cases F with
  | false =>
    go_wp2_with (first
      | (go_at_call 27; ((with_reducible refine (HF.out _).mono ?_); rintro e w1 ⟨rfl, b1⟩; have B1 := Lib.hid b1; clear b1))
      | (go_at_call 16; ((with_reducible refine (HX.out _).mono ?_); rintro e w2 ⟨rfl, rfl⟩)))
    exact ⟨rfl, rfl, HW.out.trans (B1.out.mono HW.out.size)⟩
  | true =>
    go_upto_region 3 with (first
      | (go_at_call 27; ((with_reducible refine (HF.out _).mono ?_); rintro e w1 ⟨rfl, b1⟩; have HB' := Lib.hid (HB.out.below b1 HB.out.lt); have HR' := Lib.hid (HR.out.below b1 HR.out.lt); have B1 := Lib.hid b1; clear b1))
      | (go_at_call 16; ((with_reducible refine (HY.out _).mono ?_); rintro e w2 ⟨rfl, rfl⟩)))
    refine wp_region_lit ?_
    refine wpList_load_row rfl 82 (.tmp 3) rfl g ?_ 82 #[.int .u32 (a : Int), .int .i64 (K : Int), .int .i64 (N : Int), .int .i64 (V : Int), .int .i64 (P : Int), .int .i64 (S : Int), .int .u32 (b : Int), .int .i64 (K' : Int), .int .i64 (N' : Int), .int .i64 (H' : Int)] (0, 0) _ HB'.out Tryd.underlying82 rfl Tryd.infoBoth ?_
    · rfl
    simp only [Act.put, List.setIfInBounds_toArray, List.set_cons_zero, List.set_cons_succ]
    refine wpList_store_mid rfl 82 (.tmp 2) (.tmp 23) rfl (w.heap.size + 1) 0 #[.int .u32 (a : Int), .int .i64 (K : Int), .int .i64 (N : Int), .int .i64 (V : Int), .int .i64 (P : Int), .int .i64 (S : Int), .int .u32 (b : Int), .int .i64 (K' : Int), .int .i64 (N' : Int), .int .i64 (H' : Int)] ?_ ?_ (HR'.out.there 0 _ (Nat.le_refl 10)) Tryd.infoBoth (all_oneCell_toArray (by simp [Value.oneCell'])) ?_
    · rfl
    · rfl
    simp only [Act.put]
    obtain ⟨w9, hw9⟩ : ∃ w9, w1.setCells (w.heap.size + 1) 0 (#[.int .u32 (a : Int), .int .i64 (K : Int), .int .i64 (N : Int), .int .i64 (V : Int), .int .i64 (P : Int), .int .i64 (S : Int), .int .u32 (b : Int), .int .i64 (K' : Int), .int .i64 (N' : Int), .int .i64 (H' : Int)] : Array Value).toList = w9 := ⟨_, rfl⟩
    have R9 : Bk w9 (w.heap.size + 1) 82 #[.int .u32 (a : Int), .int .i64 (K : Int), .int .i64 (N : Int), .int .i64 (V : Int), .int .i64 (P : Int), .int .i64 (S : Int), .int .u32 (b : Int), .int .i64 (K' : Int), .int .i64 (N' : Int), .int .i64 (H' : Int)] := by rw [← hw9]; exact bk_cells HR'.out rfl
    have B9 : Below w.heap.size w w9 := by rw [← hw9]; exact below_cells _ (by omega) _ _ _ (HW.out.trans (B1.out.mono HW.out.size))
    rw [hw9]
    have H9 := Lib.hid R9
    have K9 := Lib.hid B9
    clear hw9 R9 B9
    go_wp2
    refine bodyPost_ret (results_cell_row rfl _ _ (w.heap.size + 1) 82 #[.int .u32 (a : Int), .int .i64 (K : Int), .int .i64 (N : Int), .int .i64 (V : Int), .int .i64 (P : Int), .int .i64 (S : Int), .int .u32 (b : Int), .int .i64 (K' : Int), .int .i64 (N' : Int), .int .i64 (H' : Int)] (0, 0) _ rfl H9.out Tryd.underlying82 rfl Tryd.infoBoth) rfl ?_
    exact ⟨⟨_, rfl⟩, K9.out⟩
end Go.Proofs.YtccnbepccajdoaaDoor.S13
