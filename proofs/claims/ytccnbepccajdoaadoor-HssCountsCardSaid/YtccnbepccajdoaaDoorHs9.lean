/-
  What the landed hss.Places does where there are places. No statement is proved here.
-/
import Derived.Test.YtccnbepccajdoaaDoorHs8
namespace Go.Proofs.YtccnbepccajdoaaDoor.S13
set_option linter.unusedSimpArgs false
set_option linter.unusedVariables false
open Go.RowKit Go.Shelf S7 S8
attribute [local go_sem] Oper.semAt_some

theorem callsDIn_wide {P : Program} {n : Nat} {f : FuncId} {fn : Func} {c : Code} {args : Array Value} {u : FrameMode} {w : World} {R : Ending → FrameMode → World → Prop}
    (hf : P.funcs[f]? = some fn) (hb : fn.body = some c)
    (h : ∀ (c₀ : Frame) (cs : List Frame), c₀.mode = u → c.wpS P (bodyPostS P fn c₀ cs R) { tmps := args ++ Array.replicate (fn.ntmps - args.size) undef, defers := [] } (c₀ :: cs) w) : CallsDIn Fence.wide n P f args u w R := by
  refine ⟨trivial, fun c₀ cs hu _ => ?_⟩
  let b : Frame := { (default : Frame) with fn := f, kind := .deferred }
  have henter : Frame.enter P f args .deferred = b.at { tmps := args ++ Array.replicate (fn.ntmps - args.size) undef, defers := [] } [.code c] := by
    simp [Frame.enter, Frame.at, hf, hb, b]
  obtain ⟨e, a', cs', w', hq, harr⟩ := h c₀ cs hu b [] rfl rfl
  rw [← henter] at harr
  cases e with
  | normal =>
    obtain ⟨hd, u', rfl, v, hr, hR⟩ := hq
    exact ⟨.returned v, u', w', _, hR, comesIn_wide.2 (Steps.trans harr (.one step_end)), rfl, rfl, rfl, hd, fn, hf, hr⟩
  | ret =>
    obtain ⟨hd, u', rfl, v, hr, hR⟩ := hq
    obtain ⟨todo, hs⟩ := harr
    exact ⟨.returned v, u', w', _, hR, comesIn_wide.2 hs, rfl, rfl, rfl, hd, fn, hf, hr⟩
  | panic chain =>
    obtain ⟨hd, u', rfl, hR⟩ := hq
    obtain ⟨todo, hs⟩ := harr
    exact ⟨.panicked chain, u', w', _, hR, comesIn_wide.2 hs, rfl, rfl, rfl, hd, fn, hf⟩
  | exit id => exact hq.elim
  | goto l => exact hq.elim
  | outgrown =>
    obtain ⟨u', hR⟩ := hq
    exact ⟨.outgrown, u', w', b, hR, comesIn_wide.2 (harr.resolve_left (by simp [b])), rfl, rfl, trivial⟩
theorem plc1_idleIn (m q : Nat) (y : Int) (w : World) (hq : Bk w q 28 #[.int .i64 y]) :
    CallsDIn Fence.wide m Tryd.prog 15 #[.pointer (some ⟨q, 0, none⟩)] .returning w fun e u' w' => e = .returned (.tuple #[]) ∧ u' = .returning ∧ w' = w.setCell ⟨q, 0, none⟩ (.int .i64 0) := by
  have c1 := cell_of_one hq
  have f1 := free_of_one hq
  refine callsDIn_wide Tryd.func15 rfl fun c₀ cs hu => ?_
  apply wpS_region
  simp [wpOpsS, go_sem, recoverD, hu, Tryd.ntmps15, Exit.thenS, Array.replicate, List.replicate]
  refine (LV.told_nil w).mono ?_
  rintro e w' ⟨rfl, rfl⟩
  simp [go_sem, c1, f1, Oper.upon, bodyPostS, results, Tryd.results15]
  cases c₀
  cases hu
  rfl
/-- How Places ends where there are places. -/
def YesPl (L : List Pr) (v : Nat) (w : World) (e : Ending) (w' : World) : Prop := ∃ b, e = .returned (.tuple #[.slice (some ⟨b, 0, none⟩) L.length L.length, .int .i64 0]) ∧ Bk w' b 31 (uv (places L v)).toArray ∧ Below w.heap.size w w'
/-- What holds in the region that asks whether there is such an index. -/
structure IT2 (w : World) (v : Int) (X : World) : Prop where
  bel : Below w.heap.size w X
  n : Bk X w.heap.size 23 #[.int .u64 v]
  e : Bk X (w.heap.size + 1) 28 #[.int .i64 0]
/-- A row that is just as long as what it may bear is known whole. -/
theorem bk_full {w : World} {B e n : Nat} {A : Option Addr} {xs : List Value} (h : w.ownsRow B e 1 (.slice A n n) n xs) (hn : 0 < n) : ∃ g, A = some ⟨g, 0, none⟩ ∧ B ≤ g ∧ Bk w g e xs.toArray := by
  rcases h.2 with ⟨hv, hz⟩ | ⟨g, cap, cur, hv, hB, hh, hnc, hcm, hcs, htake⟩
  · injection hv with h1 h2 h3
    omega
  · injection hv with h1 h2 h3
    subst h3
    refine ⟨g, h1, hB, ?_⟩
    have : cur = xs.toArray := by
      rw [← htake, List.take_of_length_le (by simp; omega)]
    rw [← this]
    exact hh
theorem bk_own {β : Type} (B : Nat) (t : TypeId) (f : β → Array Value) : Own (fun s W => Bk W B t (f s)) := fun s X Y row hs hg hrow =>
  (hg.block B hs.lt (fun e' => by obtain ⟨o, ho, hc⟩ := hrow B e'.symm; rw [show X.heap[B]? = _ from hs] at ho; cases ho; cases hc)).trans hs
theorem bk_putObj {W : World} {g l : Nat} {t : TypeId} {cs : Array Value} {o : Obj} (h : Bk W g t cs) (hl : W.heap[l]? = some o) (ho : o.isCells = false) (o' : Obj) : Bk (W.putObj l o') g t cs :=
  (World.putObj_heap_other (fun e => by subst e; rw [show W.heap[g]? = _ from h] at hl; cases hl; cases ho)).trans h
set_option maxRecDepth 100000 in
set_option maxHeartbeats 4000000 in
theorem places_full (A : Option Addr) (n c : Nat) (L : List Pr) (v : Nat) (w : World) (hk : S0.ok w) (h : Rp w A n c L) (hm : mayL L = true) (hv : v < 2 ^ sumH L) : Calls Tryd.prog 7 #[.slice A n c, .int .u64 (v : Int)] w (YesPl L v w) := by
  refine (callsIn_wide (n := 3)).1 ?_
  have hmf : ∀ (fn : Fn) (first cap : Array Value) (w : World), (Instr.makeFunc fn first cap).run Tryd.prog w = .ok (.func fn first cap) w := fun _ _ _ _ => rfl
  obtain ⟨b3, b5⟩ := three_bk w (v : Int)
  have H3 := Lib.hid b3
  have H5 := Lib.hid b5
  have HM := Lib.hid (hmay_any A n c L _ (S0.bel hk (two_bel w (.cells #[.int .u64 (v : Int)] 23) (.cells #[.int .i64 0] 28))) (h.below (two_bel w (.cells #[.int .u64 (v : Int)] 23) (.cells #[.int .i64 0] 28))))
  rw [hm] at HM
  have HT := Lib.hid (fun X (hb : Below w.heap.size w X) => total_any A n c L X (S0.bel hk hb) (h.below hb))
  have ht : totL L = 2 ^ sumH L := by rw [totL, if_pos hm]
  rw [ht] at HT
  obtain ⟨T, hT⟩ : ∃ T, T = 2 ^ sumH L := ⟨_, rfl⟩
  rw [← hT] at HT hv
  have hTb : T ≤ 1152921504606846976 := by rw [hT]; exact pow_60 (mayL_of hm).2.2.2
  have HY := Lib.hid (fun k X => LV.need_yes k X)
  have q9 : decide ((v : Int) < (T : Int)) = true := by simp; omega
  have HMM := Lib.hid hm
  have HR := Lib.hid h
  have HK := Lib.hid hk
  have HLN := Lib.hid h.len
  have hn1 : 1 ≤ n := by rw [← h.len]; exact (mayL_of hm).1
  have hn8 : n ≤ 8 := by rw [← h.len]; exact (mayL_of hm).2.1
  obtain ⟨i0, hi, hz0, hz1, hz2⟩ := info_parts Tryd.infoU32
  clear hk h hm b3 b5 ht hT
  have hmix : Tryd.prog.follows .mixedOrders = true := by kernel_rfl
  refine callsIn_of_wp_marks Tryd.func7 rfl trivial ?_ rfl
  simp only [Tryd.ntmps7, List.size_toArray, List.length_cons, List.length_nil, Nat.reduceAdd, Nat.reduceSub, Array.replicate_succ, Array.replicate_zero, List.push_toArray, List.append_toArray, List.nil_append, List.cons_append]
  refine wpIn_wide.2 ?_
  go_wp2_with (first
    | (go_at_call 9; (with_reducible refine HM.out.mono ?_); rintro e w1 ⟨rfl, b1⟩; have P1 := Lib.hid (H3.out.below b1 H3.out.lt); have Q1 := Lib.hid (H5.out.below b1 H5.out.lt); have B1 := Lib.hid ((two_bel w _ _).trans (b1.mono (two_bel w _ _).size)); clear b1)
    | (go_at_call 16; (with_reducible refine (HY.out _ _).mono ?_); rintro e w2 ⟨rfl, rfl⟩))
  refine SG.wp_region_ghost (γ := Unit) (fun _ => [.int .u64 (v : Int), .slice A n c, .int .u64 (T : Int), .bool true, .tuple #[]]) (fun _ _ => IT2 w v) 5 (by kernel_rfl) (by kernel_rfl) rfl () ⟨B1.out.drew, P1.out.drew, Q1.out.drew⟩ ?_
  refine SG.seq_pure (fun _ => .int .u64 (v : Int)) (fun _ => rfl) (fun _ => by rfl) (fun _ K X hK h => h) ?_ ?_
  · intro _ K X hS
    have c0 := cell_of_one hS.n
    go_simp
  simp only [Act.put, List.setIfInBounds_toArray, List.set_cons_zero, List.set_cons_succ]
  refine SG.seq_pure (fun _ => .slice A n c) (fun _ => rfl) (fun _ => by rfl) (fun _ K X hK h => h) ?_ ?_
  · intro _ K X hS
    go_simp
  simp only [Act.put, List.setIfInBounds_toArray, List.set_cons_zero, List.set_cons_succ]
  refine SG.seq_call 6 (fun _ => #[.slice A n c]) (fun _ => .int .u64 (T : Int)) (fun _ => rfl) (fun _ => by rfl) ?_ ?_ ?_
  · intro _ K X hS
    go_simp
  · intro _ K X hL h0 hd hS
    exact (HT.out X hS.bel).mono fun e X' ⟨h1, h2⟩ => ⟨h1, hS.bel.trans (h2.mono hS.bel.size), hS.n.below h2 hS.n.lt, hS.e.below h2 hS.e.lt⟩
  simp only [Act.put, List.setIfInBounds_toArray, List.set_cons_zero, List.set_cons_succ]
  refine SG.seq_pure (fun _ => .bool true) (fun _ => rfl) (fun _ => by rfl) (fun _ K X hK h => h) ?_ ?_
  · intro _ K X hS
    go_simp
  simp only [Act.put, List.setIfInBounds_toArray, List.set_cons_zero, List.set_cons_succ]
  refine SG.seq_call 16 (fun _ => #[.bool true, .int .i64 9]) (fun _ => .tuple #[]) (fun _ => rfl) (fun _ => by rfl) ?_ ?_ ?_
  · intro _ K X hS
    go_simp
  · intro _ K X hL h0 hd hS
    refine (HY.out 9 X).mono ?_
    rintro e X' ⟨rfl, rfl⟩
    exact ⟨rfl, hS⟩
  simp only [Act.put, List.setIfInBounds_toArray, List.set_cons_zero, List.set_cons_succ]
  refine SG.seq_nil (fun _ X hS => ?_)
  have B2 := Lib.hid hS.bel
  have P2 := Lib.hid hS.n
  have Q2 := Lib.hid hS.e
  have s2 := hS.bel.size
  have qn := hS.n.lt
  have qe := hS.e.lt
  clear hS P1 Q1 B1
  have hbk := fun W => back_any A n c W
  have HBK := Lib.hid hbk
  clear hbk
  go_wp2_with (first
    | (at_make; refine wpList_make_full _ rfl _ _ 27 rfl X.heap.size 31 i0 (.int .u32 0) 1 Tryd.underlying27 hi hz0 hz1 _ _ _ _ n rfl rfl rfl rfl ?b2 ?b3 (Nat.le_refl _) ?_)
    | fail)
  case b2 => rw [hz2]; omega
  case b3 => unfold maxLen; omega
  intro w4 hown4 hgrow4
  rw [uv_zero] at hown4
  obtain ⟨gr, hgr, hgB, hrow⟩ := bk_full hown4 hn1
  injection hgr with hgr
  injection hgr with hgr
  subst hgr
  have B4 := Lib.hid (B2.out.grown hgrow4 s2 (fun k h => by cases h))
  have P4 := Lib.hid (P2.out.only hgrow4 (by simp))
  have Q4 := Lib.hid (Q2.out.only hgrow4 (by simp))
  have R4 := Lib.hid hrow
  have s4 := hgrow4.size
  have sX : X.heap.size < w4.heap.size := hrow.lt
  clear hown4 hgrow4 hrow hgB
  go_wp2_with (go_at_call 17; ((with_reducible refine (HBK.out _).mono ?_); rintro e w5 ⟨rfl, rfl⟩))
  obtain ⟨g6, hg6⟩ : ∃ g, g = w4.heap.size := ⟨_, rfl⟩
  obtain ⟨gr, hgr⟩ : ∃ g, g = X.heap.size := ⟨_, rfl⟩
  have e7 : w4.heap.size + 1 = g6 + 1 := by rw [hg6]
  obtain ⟨wL, hL⟩ : ∃ wL, (w4.alloc (.cells #[.slice (some ⟨X.heap.size, 0, none⟩) n n] 27)).alloc (.cells #[.slice A n c] 22) = wL := ⟨_, rfl⟩
  have bn : Bk wL w.heap.size 23 #[.int .u64 (v : Int)] := by rw [← hL]; exact (P4.out.alloc _).alloc _
  have be : Bk wL (w.heap.size + 1) 28 #[.int .i64 0] := by rw [← hL]; exact (Q4.out.alloc _).alloc _
  have br : Bk wL gr 31 (uv (List.replicate n 0)).toArray := by rw [← hL, hgr]; exact (R4.out.alloc _).alloc _
  have b6 : Bk wL g6 27 #[.slice (some ⟨gr, 0, none⟩) n n] := by rw [← hL, hg6, hgr]; exact (Bk.new w4 _ _).alloc _
  have bb : Boxed wL (g6 + 1) 22 (.slice A n c) := by rw [← hL, hg6]; exact Bk.newAt _ _ _ _ (by simp)
  have hbL : Below w.heap.size w wL := by rw [← hL]; exact (B4.out.alloc (by omega) _).alloc (by simp; omega) _
  have sL : wL.heap.size = g6 + 2 := by rw [← hL, hg6]; simp
  rw [hL, e7, ← hg6, ← hgr]
  have n1 : w.heap.size + 1 < gr := by omega
  have n2 : gr < g6 := by omega
  have n3 : w.heap.size ≤ wL.heap.size := hbL.size
  clear hL e7 hg6 hgr
  have NN := Lib.hid (And.intro n1 n2)
  refine (wpIn_wide (n := 3)).1 ?_
  have HBX := Lib.hid (bb)
  refine wpIn_rangeFunc_ownH rfl (by omega) (gf := 28) (lb := #[.pointer (some ⟨g6 + 1, 0, none⟩)]) rfl trivial (enters_of Tryd.func28 (by kernel_rfl) rfl)
    (back_stops (3 - 1) (by omega) A n c L w HR.out (g6 + 1) wL hbL HBX.out) kpC_t (kpC_b (by omega)) (Below.refl _ _) (fun _ => rfl)
    (fun pre W => (Bk W w.heap.size 23 #[.int .u64 ((st L v (pre.map (·.1))).1 : Int)] ∧ Bk W gr 31 (uv (st L v (pre.map (·.1))).2).toArray ∧ Bk W (w.heap.size + 1) 28 #[.int .i64 0] ∧ Bk W g6 27 #[.slice (some ⟨gr, 0, none⟩) n n]) ∧ Below w.heap.size w W ∧ wL.heap.size ≤ W.heap.size)
    (fun _ _ _ => False)
    (OwnFrom.and (OwnFrom.and (Own.from (bk_own _ _ (fun pre : List (Lev n) => #[.int .u64 ((st L v (pre.map (·.1))).1 : Int)])) _) (OwnFrom.and (Own.from (bk_own _ _ (fun pre : List (Lev n) => (uv (st L v (pre.map (·.1))).2).toArray)) _) (OwnFrom.and (Own.from (bk_own _ _ (fun pre : List (Lev n) => #[.int .i64 0])) _) (Own.from (bk_own _ _ (fun pre : List (Lev n) => #[.slice (some ⟨gr, 0, none⟩) n n])) _)))) (OwnFrom.and (ownFrom_below (Nat.le_refl _) (by omega)) (fun _ _ _ _ h hg _ => Nat.le_trans h hg.size)))
    (fun _ _ _ _ _ hs _ _ => hs)
    ⟨⟨bn, by rw [List.map_nil, st_nil, HLN.out]; exact br, be, b6⟩, hbL, Nat.le_refl _⟩
    (fun x a' W => ∃ g8, a' = { tmps := #[.slice A n c, .int .u64 (v : Int), undef, .pointer (some ⟨w.heap.size, 0, none⟩), .slice none 0 0, .pointer (some ⟨w.heap.size + 1, 0, none⟩), .pointer (some ⟨g6, 0, none⟩), .int .i64 (x.1 : Int), .pointer (some ⟨g8, 0, none⟩), undef, .func (.func 15) #[] #[.pointer (some ⟨w.heap.size + 1, 0, none⟩)], .slice A n c, .bool true, .tuple #[], .int .u64 (v : Int), .slice A n c, .int .u64 (T : Int), .bool true, .tuple #[], .slice A n c, .int .i64 (n : Int), .slice (some ⟨gr, 0, none⟩) n n, .slice A n c, .func (.func 28) #[] #[.pointer (some ⟨g6 + 1, 0, none⟩)], .int .i64 (x.1 : Int), prV (at_ L x.1), undef, undef, undef, undef, undef, undef, undef, undef, undef, undef, undef, undef, undef, undef], defers := [] } ∧ Bk W g8 34 #[.int .u32 ((at_ L x.1).1 : Int), .int .u32 ((at_ L x.1).2 : Int)] ∧ wL.heap.size ≤ g8)
    ?hax ?assign ?body ?done ?stop
  case hax =>
    rintro x a' _ Y Z row ⟨g8, ha, hb8, hg8⟩ hgr2 hrow
    exact ⟨g8, ha, bk_own (β := Unit) g8 _ (fun _ => _) () Y Z row hb8 hgr2 (fun r e => (hrow r e).2), hg8⟩
  case assign =>
    intro l pre x W K hI hK
    obtain ⟨⟨i1, i2, i3, i4⟩, i5, i6⟩ := hI
    gi_wp2
    exact hK _ _ ((KeepsOthers.alloc W _).from _) ⟨(Below.refl _ W).alloc (by omega) _, fun o ho _ => (Below.heap_alloc W _ _ (Array.getElem?_eq_some_iff.1 ho).1).trans ho⟩ ⟨⟨i1.alloc _, i2.alloc _, i3.alloc _, i4.alloc _⟩, i5.alloc (by omega) _, by simp; omega⟩ ⟨W.heap.size, rfl, Bk.new _ _ _, i6⟩
  case body =>
    rintro l pre ⟨i, hil⟩ a' W _ _ ⟨⟨i1, i2, i3, i4⟩, i5, i6⟩ ⟨g8, rfl, hb8, hg8⟩ hlt
    have hiL : i < L.length := by rw [HLN.out]; exact hil
    have hok := likeB_ok ((mayL_of HMM.out).2.2.1 i hiL)
    have hb25 := tH_bd _ (okP_T hok)
    obtain ⟨r1, r2⟩ := HR.out.rng i
    have HTO := Lib.hid (fun Y hY => treeOf_yes (at_ L i) hok r1 r2 Y hY)
    obtain ⟨p, hp⟩ : ∃ p, p = at_ L i := ⟨_, rfl⟩
    rw [← hp] at HTO hb8 hb25
    obtain ⟨pa, pb⟩ := p
    simp only at HTO hb8 hb25
    obtain ⟨K', hK'⟩ : ∃ K, K = tK pb := ⟨_, rfl⟩
    obtain ⟨N', hN'⟩ : ∃ N, N = tN pb := ⟨_, rfl⟩
    obtain ⟨H, hH⟩ : ∃ N, N = tH pb := ⟨_, rfl⟩
    rw [← hK', ← hN', ← hH] at HTO
    rw [← hH] at hb25
    have hHL : H = tH (at_ L i).2 := by rw [← hp]; exact hH
    have HLV := Lib.hid (show ∀ Y, Calls Tryd.prog 18 #[.agg #[.int .u32 (pb : Int), .int .i64 (K' : Int), .int .i64 (N' : Int), .int .i64 (H : Int)]] Y fun e w' => e = .returned (.int .u64 ((2 ^ H : Nat) : Int)) ∧ Below Y.heap.size Y w' from fun Y => by
      have h := leaves_any (pb : Int) K' N' (H : Int) Y
      rw [lvs, if_pos (by omega), Int.toNat_natCast] at h
      exact h)
    obtain ⟨M, hM⟩ : ∃ M, M = 2 ^ H := ⟨_, rfl⟩
    have hM1 : 1 ≤ M := by rw [hM]; exact Nat.pow_pos (by omega)
    have hM2 : M ≤ 33554432 := by rw [hM]; exact pow_25 hb25.2
    rw [← hM] at HLV
    obtain ⟨s1, hs1⟩ : ∃ s, s = st L v (pre.map (·.1)) := ⟨_, rfl⟩
    have HST := Lib.hid (show st L v ((pre ++ [(⟨i, hil⟩ : Lev n)]).map (·.1)) = (s1.1 / M, s1.2.set i (s1.1 % M)) by
      rw [List.map_append, List.map_cons, List.map_nil, st_snoc, ← hs1, stp, ← hHL, ← hM])
    have hsle : s1.1 ≤ v := by rw [hs1]; exact st_le L v _
    have hsl : s1.2.length = n := by rw [hs1, st_len, HLN.out]
    rw [← hs1] at i1 i2
    obtain ⟨a, row⟩ := s1
    simp only at HST hsle hsl i1 i2
    unfold treeV at HTO
    have c0 := hb8.cell 0
    have c1 := hb8.cell 1
    simp at c0 c1
    have I1 := Lib.hid i1
    have I2 := Lib.hid i2
    have I3 := Lib.hid i3
    have I4 := Lib.hid i4
    have I5 := Lib.hid i5
    have hpV : prV (at_ L i) = prV (pa, pb) := by rw [hp]
    rw [hpV]
    clear hM hK' hN' hH hp hs1 hok hb25 r1 r2 i1 i2 i3 i4 hb8 hpV hHL hiL bn be br b6 bb
    gi_wp2_with (first
      | (refine ⟨trivial, ?_⟩; gi_at_call 19; refine (callsIn_wide.2 (HTO.out _ (S0.bel HK.out I5.out))).mono ?_; rintro e v1 ⟨rfl, b1⟩)
      | (refine ⟨trivial, ?_⟩; gi_at_call 18; refine (callsIn_wide.2 (HLV.out _)).mono ?_; rintro e v2 ⟨rfl, b2⟩; have D := Lib.hid (b1.trans (b2.mono b1.size)); clear b1 b2))
    have J1 := Lib.hid (I1.out.below D.out I1.out.lt)
    have J2 := Lib.hid (I2.out.below D.out I2.out.lt)
    have J3 := Lib.hid (I3.out.below D.out I3.out.lt)
    have J4 := Lib.hid (I4.out.below D.out I4.out.lt)
    have d1 := cell_of_one J1.out
    have f1 := free_of_one J1.out
    have d4 := cell_of_one J4.out
    have d2 := J2.out.cell i
    have f2 := J2.out.frozen i
    rw [List.getElem?_toArray, uv_at _ i (by omega)] at d2
    obtain ⟨R, hR⟩ : ∃ R, R = a % M := ⟨_, rfl⟩
    obtain ⟨Q, hQ⟩ : ∃ R, R = a / M := ⟨_, rfl⟩
    have hR1 : R < M := by rw [hR]; exact Nat.mod_lt _ hM1
    have r1 : (a : Int) % (M : Int) = (R : Int) := by rw [hR]; simp
    have r2 : (a : Int).tmod (M : Int) = (R : Int) := by rw [Int.tmod_eq_emod_of_nonneg (by omega)]; exact r1
    have q1 : (a : Int) / (M : Int) = (Q : Int) := by rw [hQ]; simp
    have q2 : (a : Int).tdiv (M : Int) = (Q : Int) := by rw [Int.tdiv_eq_ediv_of_nonneg (by omega)]; exact q1
    have hQa : Q ≤ a := by rw [hQ]; exact Nat.div_le_self _ _
    rw [← hR, ← hQ] at HST
    have m0 : ¬ (M : Int) = 0 := by omega
    have hw1 : IntKind.u32.wrap (R : Int) = (R : Int) := by rw [IntKind.wrap_u32]; omega
    have hw2 : IntKind.u64.wrap (R : Int) = (R : Int) := by rw [IntKind.wrap_u64]; omega
    have hw3 : IntKind.u64.wrap (Q : Int) = (Q : Int) := by rw [IntKind.wrap_u64]; omega
    have h1i : (i : Int) < (n : Int) := by omega
    have h0i : (0 : Int) ≤ (i : Int) := by omega
    have hgi : gr ≠ w.heap.size := by omega
    clear hR hQ i5
    obtain ⟨v3, hv3⟩ : ∃ v3, (v2.setCell ⟨gr, i, none⟩ (.int .u32 (R : Int))).drew = v3 := ⟨_, rfl⟩
    have K1 : Bk v3 w.heap.size 23 #[.int .u64 (a : Int)] := by rw [← hv3]; exact (J1.out.far (fun e => hgi e.symm) _).drew
    have K2 : Bk v3 gr 31 (uv (row.set i R)).toArray := by
      rw [← hv3]
      have := (J2.out.put i (.int .u32 (R : Int))).drew
      have e : (uv row).toArray.setIfInBounds i (.int .u32 (R : Int)) = (uv (row.set i R)).toArray := by simp [uv, List.map_set]
      rw [← e]
      exact this
    have K3 : Bk v3 (w.heap.size + 1) 28 #[.int .i64 0] := by rw [← hv3]; exact (J3.out.far (by show w.heap.size + 1 ≠ gr; omega) _).drew
    have K4 : Bk v3 g6 27 #[.slice (some ⟨gr, 0, none⟩) n n] := by rw [← hv3]; exact (J4.out.far (by show g6 ≠ gr; omega) _).drew
    have K5 : Below w.heap.size W v3 := by rw [← hv3]; exact ((D.out.mono (by omega)).setCell (by show w.heap.size ≤ gr; omega) _).drew
    have k1 := cell_of_one K1
    have kf := free_of_one K1
    have KS : W.heap.size ≤ v3.heap.size := K5.size
    have HEND := Lib.hid (show KeepsFrom wL.heap.size W (v3.setCell ⟨w.heap.size, 0, none⟩ (.int .u64 (Q : Int))) ∧ KpC w.heap.size (g6 + 1) W (v3.setCell ⟨w.heap.size, 0, none⟩ (.int .u64 (Q : Int))) ∧
        ((Bk (v3.setCell ⟨w.heap.size, 0, none⟩ (.int .u64 (Q : Int))) w.heap.size 23 #[.int .u64 ((st L v ((pre ++ [(⟨i, hil⟩ : Lev n)]).map (·.1))).1 : Int)] ∧ Bk (v3.setCell ⟨w.heap.size, 0, none⟩ (.int .u64 (Q : Int))) gr 31 (uv (st L v ((pre ++ [(⟨i, hil⟩ : Lev n)]).map (·.1))).2).toArray ∧ Bk (v3.setCell ⟨w.heap.size, 0, none⟩ (.int .u64 (Q : Int))) (w.heap.size + 1) 28 #[.int .i64 0] ∧ Bk (v3.setCell ⟨w.heap.size, 0, none⟩ (.int .u64 (Q : Int))) g6 27 #[.slice (some ⟨gr, 0, none⟩) n n]) ∧ Below w.heap.size w (v3.setCell ⟨w.heap.size, 0, none⟩ (.int .u64 (Q : Int))) ∧ wL.heap.size ≤ (v3.setCell ⟨w.heap.size, 0, none⟩ (.int .u64 (Q : Int))).heap.size) from by
      have hb9 : Below w.heap.size W (v3.setCell ⟨w.heap.size, 0, none⟩ (.int .u64 (Q : Int))) := K5.setCell (Nat.le_refl _) _
      have h3 : ∀ k, k < W.heap.size → k ≠ gr → k ≠ w.heap.size → (v3.setCell ⟨w.heap.size, 0, none⟩ (.int .u64 (Q : Int))).heap[k]? = W.heap[k]? := fun k h1 h2 h4 => by
        rw [Below.heap_setCell v3 _ _ k h4, ← hv3]
        exact (Below.heap_setCell v2 _ _ k h2).trans (D.out.block k h1)
      have hsz9 := hb9.size
      refine ⟨⟨hsz9, fun k o hB hk _ => ?_⟩, ⟨hb9, fun o ho _ => ?_⟩, ⟨?_, ?_, K3.far (by show w.heap.size + 1 ≠ w.heap.size; omega) _, K4.far (by show g6 ≠ w.heap.size; omega) _⟩, I5.out.trans hb9, by omega⟩
      · exact (h3 k (Array.getElem?_eq_some_iff.1 hk).1 (by omega) (by omega)).trans hk
      · exact (h3 _ (Array.getElem?_eq_some_iff.1 ho).1 (by omega) (by omega)).trans ho
      · rw [HST.out]
        exact K1.put 0 _
      · rw [HST.out]
        exact K2.far hgi _)
    gi_region_with_o (fail)
    all_goals
      gi_wp2
      exact HEND.out
  case done =>
    rintro D' ys W hD' hys ⟨⟨i1, i2, i3, i4⟩, i5, i6⟩ hK
    rw [hys, ← HLN.out, st_done] at i2
    have c4 := cell_of_one i4
    have c3 := cell_of_one i3
    have f3 := free_of_one i3
    have I2 := Lib.hid i2
    have I3 := Lib.hid i3
    have I5 := Lib.hid i5
    have HKD := Lib.hid hK
    clear i1 i2 i3 i4 i5 bn be br b6 bb hys
    go_wp2
    obtain ⟨W1, hW1⟩ : ∃ W1, W.setCell ⟨w.heap.size + 1, 0, none⟩ (.int .i64 0) = W1 := ⟨_, rfl⟩
    have M2 : Bk W1 gr 31 (uv (places L v)).toArray := by rw [← hW1]; exact I2.out.far (by show gr ≠ w.heap.size + 1; omega) _
    have M3 : Bk W1 (w.heap.size + 1) 28 #[.int .i64 0] := by rw [← hW1]; exact I3.out.put 0 _
    have M5 : Below w.heap.size w W1 := by rw [← hW1]; exact I5.out.setCell (by simp) _
    have MK : W1.heap[D']? = some (.deferred (some [])) := by rw [← hW1]; exact (Below.heap_setCell W _ _ _ (by show D' ≠ w.heap.size + 1; omega)).trans HKD.out
    rw [hW1]
    refine ⟨by simp, .inl ⟨_, _, rfl, run_takeDeferred MK, ?_⟩⟩
    have N2 := bk_putObj M2 MK rfl (.deferred none)
    have N3 := bk_putObj M3 MK rfl (.deferred none)
    have N5 : Below w.heap.size w (W1.putObj D' (.deferred none)) := M5.trans (belowK_b (w := w) (Nat.le_refl _) W1 D' _ _ (by omega) MK rfl rfl)
    refine ⟨by simp, .inr ⟨fun h => (by simp [Fence.wide] at h), Fn.func 15, #[.pointer (some ⟨w.heap.size + 1, 0, none⟩)], 15, #[.pointer (some ⟨w.heap.size + 1, 0, none⟩)], rfl, by simp [go_sem], fun _ _ => trivial, ?_⟩⟩
    refine (plc1_idleIn (3 - 1) (w.heap.size + 1) 0 _ N3).mono ?_
    rintro e u' w'' ⟨rfl, rfl, rfl⟩
    have c9 := cell_of_one (N3.put 0 (.int .i64 0))
    simp [LeavesInM, LeavesIn, settle, results, Tryd.results7, go_sem, c9]
    refine ⟨gr, by rw [HLN.out], N2.far (by show gr ≠ w.heap.size + 1; omega) _, N5.setCell (by simp) _⟩
  case stop =>
    rintro D c pre W _ _ h _
    exact h.elim
end Go.Proofs.YtccnbepccajdoaaDoor.S13
