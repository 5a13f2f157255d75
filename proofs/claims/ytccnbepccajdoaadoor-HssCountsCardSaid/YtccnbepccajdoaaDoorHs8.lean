/-
  What the landed hss.Places does where it answers no places. No statement is proved here.
-/
import Derived.Test.YtccnbepccajdoaaDoorHs7
import Derived.Test.YtccnbepccajdoaaDoorURow
namespace Go.Proofs.YtccnbepccajdoaaDoor.S13
set_option linter.unusedSimpArgs false
set_option linter.unusedVariables false
open Go.RowKit S7 S8

theorem plc1_idle (q : Nat) (y : Int) (w : World) (hq : Bk w q 28 #[.int .i64 y]) :
    CallsD Tryd.prog 15 #[.pointer (some ⟨q, 0, none⟩)] .returning w fun e u' w' => e = .returned (.tuple #[]) ∧ u' = .returning ∧ w' = w.setCell ⟨q, 0, none⟩ (.int .i64 0) := by
  have c1 := cell_of_one hq
  have f1 := free_of_one hq
  refine callsD_of_wpS Tryd.func15 rfl fun c₀ cs hu => ?_
  apply wpS_region
  simp [wpOpsS, go_sem, recoverD, hu, Tryd.ntmps15, Exit.thenS, Array.replicate, List.replicate]
  refine (LV.told_nil w).mono ?_
  rintro e w' ⟨rfl, rfl⟩
  simp [go_sem, c1, f1, Oper.upon, bodyPostS, results, Tryd.results15]
  cases c₀
  cases hu
  rfl
theorem plc1_caught (q : Nat) (y k : Int) (older : List PanicEntry) (w : World) (hq : Bk w q 28 #[.int .i64 y]) :
    CallsD Tryd.prog 15 #[.pointer (some ⟨q, 0, none⟩)] (.panicking (LV.wrg k :: older)) w fun e u' w' =>
      e = .returned (.tuple #[]) ∧ u' = .panicking ({ v := .iface 62 (.agg #[.int .i64 k]), recovered := true } :: older) ∧ ∃ w1, Below w.heap.size w w1 ∧ w' = w1.setCell ⟨q, 0, none⟩ (.int .i64 k) := by
  have c1 := cell_of_one hq
  have f1 := free_of_one hq
  refine callsD_of_wpS Tryd.func15 rfl fun c₀ cs hu => ?_
  apply wpS_region
  simp [wpOpsS, go_sem, recoverD, hu, LV.wrg, Tryd.ntmps15, Exit.thenS, Array.replicate, List.replicate]
  refine (LV.told_wrong k w).mono ?_
  rintro e w' ⟨rfl, hb⟩
  have c2 := cell_of_one (hq.below hb hq.lt)
  have f2 := free_of_one (hq.below hb hq.lt)
  simp [go_sem, c2, f2, Oper.upon, bodyPostS, results, Tryd.results15]
  exact ⟨w', hb, rfl⟩
/-- How Places ends where there are no places. -/
def NoPl (k : Int) (w : World) (e : Ending) (w' : World) : Prop := e = .returned (.tuple #[.slice none 0 0, .int .i64 k]) ∧ Below w.heap.size w w'
theorem plc_door {w wr : World} (k : Int) (a : Act) (hq : Bk wr (w.heap.size + 1) 28 #[.int .i64 0]) (hb : Below w.heap.size w wr) (hd : a.defers = [{ target := Target.fn (Fn.func 15) #[.pointer (some ⟨w.heap.size + 1, 0, none⟩)], args := #[] }])
    (h4 : a.tmps[4]? = some (.slice none 0 0)) (h5 : a.tmps[5]? = some (.pointer (some ⟨w.heap.size + 1, 0, none⟩))) : bodyPostD Tryd.prog Tryd.f7 (NoPl k w) (Exit.panic [LV.wrg k]) a wr := by
  obtain ⟨tmps, defers⟩ := a
  simp only at hd h4 h5
  subst hd
  refine leaves_cons (f := 15) (args := #[.pointer (some ⟨w.heap.size + 1, 0, none⟩)]) (by simp) (by simp [go_sem]) ?_
  refine (plc1_caught (w.heap.size + 1) 0 k [] wr hq).mono ?_
  rintro e u' w'' ⟨rfl, rfl, w1, hb1, rfl⟩
  have c1 := cell_of_one ((hq.below hb1 hq.lt).put 0 (.int .i64 k))
  simp [Leaves, settle, results, Tryd.results7, go_sem, h4, h5, c1]
  exact ⟨rfl, (hb.trans (hb1.mono hb.size)).setCell (by simp) _⟩
theorem three_bk (w : World) (v : Int) : Bk ((w.alloc (.cells #[.int .u64 v] 23)).alloc (.cells #[.int .i64 0] 28)) w.heap.size 23 #[.int .u64 v] ∧ Bk ((w.alloc (.cells #[.int .u64 v] 23)).alloc (.cells #[.int .i64 0] 28)) (w.heap.size + 1) 28 #[.int .i64 0] :=
  ⟨(Bk.new w _ _).alloc _, Bk.newAt _ _ _ _ (by simp)⟩
theorem places_unknown (A : Option Addr) (n c : Nat) (L : List Pr) (v : Nat) (w : World) (hk : S0.ok w) (h : Rp w A n c L) (hm : mayL L = false) : Calls Tryd.prog 7 #[.slice A n c, .int .u64 (v : Int)] w (NoPl 4 w) := by
  have hmf : ∀ (fn : Fn) (first cap : Array Value) (w : World), (Instr.makeFunc fn first cap).run Tryd.prog w = .ok (.func fn first cap) w := fun _ _ _ _ => rfl
  obtain ⟨b3, b5⟩ := three_bk w (v : Int)
  have H5 := Lib.hid b5
  have HM := Lib.hid (hmay_any A n c L _ (S0.bel hk (two_bel w (.cells #[.int .u64 (v : Int)] 23) (.cells #[.int .i64 0] 28))) (h.below (two_bel w (.cells #[.int .u64 (v : Int)] 23) (.cells #[.int .i64 0] 28))))
  rw [hm] at HM
  have HN := Lib.hid (fun X => LV.need_no 4 X)
  clear hk h hm b3 b5
  go_enter_defers Tryd.func7, Tryd.ntmps7
  go_wp2_with (first
    | (go_at_call 9; ((with_reducible refine HM.out.mono ?_); rintro e w1 ⟨rfl, b1⟩; have Q1 := Lib.hid (H5.out.below b1 H5.out.lt); have B1 := Lib.hid ((two_bel w _ _).trans (b1.mono (two_bel w _ _).size)); clear b1))
    | (go_at_call 16; ((with_reducible refine (HN.out _).mono ?_); rintro e w2 ⟨rfl, rfl⟩)))
  exact plc_door 4 _ Q1.out B1.out rfl rfl rfl
/-- What holds in the region that asks whether there is such an index. -/
structure IT (w : World) (v : Int) (L : Array Bool) (X : World) : Prop where
  bel : Below w.heap.size w X
  n : Bk X w.heap.size 23 #[.int .u64 v]
  e : Bk X (w.heap.size + 1) 28 #[.int .i64 0]
  dd : L.getD 4 false = false
theorem places_gone (A : Option Addr) (n c : Nat) (L : List Pr) (v : Nat) (w : World) (hk : S0.ok w) (h : Rp w A n c L) (hm : mayL L = true) (hv : 2 ^ sumH L ≤ v) : Calls Tryd.prog 7 #[.slice A n c, .int .u64 (v : Int)] w (NoPl 9 w) := by
  have hmf : ∀ (fn : Fn) (first cap : Array Value) (w : World), (Instr.makeFunc fn first cap).run Tryd.prog w = .ok (.func fn first cap) w := fun _ _ _ _ => rfl
  obtain ⟨b3, b5⟩ := three_bk w (v : Int)
  have H3 := Lib.hid b3
  have H5 := Lib.hid b5
  have HM := Lib.hid (hmay_any A n c L _ (S0.bel hk (two_bel w (.cells #[.int .u64 (v : Int)] 23) (.cells #[.int .i64 0] 28))) (h.below (two_bel w (.cells #[.int .u64 (v : Int)] 23) (.cells #[.int .i64 0] 28))))
  rw [hm] at HM
  have HT := Lib.hid (fun X (hb : Below w.heap.size w X) => total_any A n c L X (S0.bel hk hb) (h.below hb))
  have ht : totL L = 2 ^ sumH L := by rw [totL, if_pos hm]
  rw [ht] at HT
  obtain ⟨T, hT⟩ : ∃ T, T = 2 ^ sumH L := ⟨_, rfl⟩
  rw [← hT] at HT hv
  have HY := Lib.hid (fun X => LV.need_yes 4 X)
  have HN := Lib.hid (fun X => LV.need_no 9 X)
  have q9 : decide ((v : Int) < (T : Int)) = false := by simp; omega
  clear hk h hm b3 b5 ht hT
  go_enter_defers Tryd.func7, Tryd.ntmps7
  go_upto_region 3 with (first
    | (go_at_call 9; ((with_reducible refine HM.out.mono ?_); rintro e w1 ⟨rfl, b1⟩; have P1 := Lib.hid (H3.out.below b1 H3.out.lt); have Q1 := Lib.hid (H5.out.below b1 H5.out.lt); have B1 := Lib.hid ((two_bel w _ _).trans (b1.mono (two_bel w _ _).size)); clear b1))
    | (go_at_call 16; ((with_reducible refine (HY.out _).mono ?_); rintro e w2 ⟨rfl, rfl⟩)))
  refine SG.wp_region_ghost (γ := Unit) (fun _ => [.int .u64 (v : Int), .slice A n c, .int .u64 (T : Int), .bool false, undef]) (fun _ => IT w v) 5 (by kernel_rfl) (by kernel_rfl) rfl () ⟨B1.out.drew, P1.out.drew, Q1.out.drew, SG.getD_rep _ _⟩ ?_
  refine SG.seq_pure (fun _ => .int .u64 (v : Int)) (fun _ => rfl) (fun _ => by rfl) (fun _ K X hK h => ⟨h.bel, h.n, h.e, by rw [SG.getD_ne (by omega)]; exact h.dd⟩) ?_ ?_
  · intro _ K X hS
    have c0 := cell_of_one hS.n
    go_simp
  simp only [Act.put, List.setIfInBounds_toArray, List.set_cons_zero, List.set_cons_succ]
  refine SG.seq_pure (fun _ => .slice A n c) (fun _ => rfl) (fun _ => by rfl) (fun _ K X hK h => ⟨h.bel, h.n, h.e, by rw [SG.getD_ne (by omega)]; exact h.dd⟩) ?_ ?_
  · intro _ K X hS
    go_simp
  simp only [Act.put, List.setIfInBounds_toArray, List.set_cons_zero, List.set_cons_succ]
  refine SG.seq_call 6 (fun _ => #[.slice A n c]) (fun _ => .int .u64 (T : Int)) (fun _ => rfl) (fun _ => by rfl) ?_ ?_ ?_
  · intro _ K X hS
    go_simp
  · intro _ K X hL h0 hd hS
    exact (HT.out X hS.bel).mono fun e X' ⟨h1, h2⟩ => ⟨h1, hS.bel.trans (h2.mono hS.bel.size), hS.n.below h2 hS.n.lt, hS.e.below h2 hS.e.lt, by rw [SG.getD_ne (by omega)]; exact hS.dd⟩
  simp only [Act.put, List.setIfInBounds_toArray, List.set_cons_zero, List.set_cons_succ]
  refine SG.seq_pure (fun _ => .bool false) (fun _ => rfl) (fun _ => by rfl) (fun _ K X hK h => ⟨h.bel, h.n, h.e, by rw [SG.getD_ne (by omega)]; exact h.dd⟩) ?_ ?_
  · intro _ K X hS
    go_simp
  simp only [Act.put, List.setIfInBounds_toArray, List.set_cons_zero, List.set_cons_succ]
  refine SG.seq_panic 16 (fun _ => #[.bool false, .int .i64 9]) (fun _ => rfl) (fun _ => by rfl) ?_ ?_ ?_
  · intro _ K X hS
    go_simp
  · intro _ K X hL h0 hd hS
    refine (HN.out X).mono ?_
    rintro e X' ⟨rfl, rfl⟩
    exact ⟨_, rfl, plc_door 9 _ hS.e hS.bel (SG.accum_defers _ _ _ _ _) ((SG.accum_keep _ _ 4 _ _ _ (by kernel_rfl)).trans rfl) ((SG.accum_keep _ _ 5 _ _ _ (by kernel_rfl)).trans rfl)⟩
  simp only [Act.put]
  refine SG.seq_nil (fun _ X hS => ?_)
  have := hS.dd
  simp at this
end Go.Proofs.YtccnbepccajdoaaDoor.S13
