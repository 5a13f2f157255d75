/-
  What the landed lms.May, hss.otsOf and hss.treeOf do. No statement is proved here.
-/
import Derived.Test.YtccnbepccajdoaaDoorHs2
namespace Go.Proofs.YtccnbepccajdoaaDoor.S13
set_option linter.unusedSimpArgs false
set_option linter.unusedVariables false
open Go.RowKit S7 S8

/-- The sets of a pair, in all ways. -/
theorem setsOf_any (p : Pr) (l1 : p.1 < 4294967296) (l2 : p.2 < 4294967296) (w : World) (hk : S0.ok w) : Calls Tryd.prog 42 #[.agg #[.int .u32 (p.1 : Int), .int .u32 (p.2 : Int)]] w fun e w' => (if okP p = true then ∃ v, e = .returned v else e = .panicked [LV.wrg 4]) ∧ Below w.heap.size w w' := by
  obtain ⟨a, b⟩ := p
  cases h1 : okO a with
  | false =>
    have h : okP (a, b) = false := by simp [okP, h1]
    exact (setsOf_one a b h1 l1 w hk).mono fun e w' h' => ⟨by rw [h, if_neg (by simp)]; exact h'.1, h'.2⟩
  | true =>
    cases h2 : okT b with
    | false =>
      have h : okP (a, b) = false := by simp [okP, h2]
      exact (setsOf_two a b h1 h2 l1 l2 w hk).mono fun e w' h' => ⟨by rw [h, if_neg (by simp)]; exact h'.1, h'.2⟩
    | true => exact setsOf_last a b h1 h2 l1 l2 w hk
theorem may1_idle (q : Nat) (y : Bool) (w : World) (hq : Bk w q 4 #[.bool y]) :
    CallsD Tryd.prog 41 #[.pointer (some ⟨q, 0, none⟩)] .returning w fun e u' w' => e = .returned (.tuple #[]) ∧ u' = .returning ∧ w' = w.setCell ⟨q, 0, none⟩ (.bool true) := by
  have c1 := cell_of_one hq
  have f1 := free_of_one hq
  refine callsD_of_wpS Tryd.func41 rfl fun c₀ cs hu => ?_
  apply wpS_region
  simp [wpOpsS, go_sem, recoverD, hu, Tryd.ntmps41, Exit.thenS, Array.replicate, List.replicate]
  refine (LV.told_nil w).mono ?_
  rintro e w' ⟨rfl, rfl⟩
  simp [go_sem, c1, f1, Oper.upon, bodyPostS, results, Tryd.results41]
  cases c₀
  cases hu
  rfl
theorem may1_caught (q : Nat) (y : Bool) (k : Int) (hk : (k == 0) = false) (older : List PanicEntry) (w : World) (hq : Bk w q 4 #[.bool y]) :
    CallsD Tryd.prog 41 #[.pointer (some ⟨q, 0, none⟩)] (.panicking (LV.wrg k :: older)) w fun e u' w' =>
      e = .returned (.tuple #[]) ∧ u' = .panicking ({ v := .iface 62 (.agg #[.int .i64 k]), recovered := true } :: older) ∧ ∃ w1, Below w.heap.size w w1 ∧ w' = w1.setCell ⟨q, 0, none⟩ (.bool false) := by
  have c1 := cell_of_one hq
  have f1 := free_of_one hq
  refine callsD_of_wpS Tryd.func41 rfl fun c₀ cs hu => ?_
  apply wpS_region
  simp [wpOpsS, go_sem, recoverD, hu, LV.wrg, Tryd.ntmps41, Exit.thenS, Array.replicate, List.replicate]
  refine (LV.told_wrong k w).mono ?_
  rintro e w' ⟨rfl, hb⟩
  have c2 := cell_of_one (hq.below hb hq.lt)
  have f2 := free_of_one (hq.below hb hq.lt)
  have hk' : ¬ k = 0 := by simpa using hk
  simp [go_sem, c2, f2, Oper.upon, bodyPostS, results, Tryd.results41, hk, hk']
  exact ⟨w', hb, rfl⟩
theorem load_bool (g : Nat) (b : Bool) (w : World) (h : w.cell? ⟨g, 0, none⟩ = some (.bool b)) : (loadVar 4 ⟨g, 0, none⟩).run Tryd.prog w = .ok (.bool b) w := by
  go_simp
theorem lmay_ret {w w' : World} {q : Nat} {y : Bool} {tmps : Array Value} (h : Bk w' q 4 #[.bool y]) (hb : Below w.heap.size w w') (hg : w.heap.size ≤ q) (k2 : tmps.getD 2 undef = .pointer (some ⟨q, 0, none⟩)) :
    bodyPostD Tryd.prog Tryd.f29 (fun e' w' => e' = .returned (.bool true) ∧ Below w.heap.size w w') Exit.ret
      { tmps := tmps, defers := [{ target := Target.fn (Fn.func 41) #[.pointer (some ⟨q, 0, none⟩)], args := #[] }] } w' := by
  refine leaves_cons (f := 41) (args := #[.pointer (some ⟨q, 0, none⟩)]) (by simp) (by simp [go_sem]) ?_
  refine (may1_idle q y w' h).mono ?_
  rintro e1 u' w'' ⟨rfl, rfl, rfl⟩
  have c := cell_of_one (h.put 0 (.bool true))
  have k2' : tmps[2]?.getD undef = .pointer (some ⟨q, 0, none⟩) := by simpa using k2
  simp [Leaves, settle, results, Tryd.results29, go_sem, k2', c, asAddr, load_bool q true _ c]
  exact hb.setCell hg _
theorem lmay_bad {w w' : World} {q : Nat} {tmps : Array Value} (h : Bk w' q 4 #[.bool false]) (hb : Below w.heap.size w w') (hg : w.heap.size ≤ q) (k2 : tmps.getD 2 undef = .pointer (some ⟨q, 0, none⟩)) :
    bodyPostD Tryd.prog Tryd.f29 (fun e' w' => e' = .returned (.bool false) ∧ Below w.heap.size w w') (Exit.panic [LV.wrg 4])
      { tmps := tmps, defers := [{ target := Target.fn (Fn.func 41) #[.pointer (some ⟨q, 0, none⟩)], args := #[] }] } w' := by
  refine leaves_cons (f := 41) (args := #[.pointer (some ⟨q, 0, none⟩)]) (by simp) (by simp [go_sem]) ?_
  refine (may1_caught q false 4 (by decide) [] w' h).mono ?_
  rintro e1 u' w'' ⟨rfl, rfl, w1, hb1, rfl⟩
  have c := cell_of_one ((h.below hb1 h.lt).put 0 (.bool false))
  have k2' : tmps[2]?.getD undef = .pointer (some ⟨q, 0, none⟩) := by simpa using k2
  simp [Leaves, settle, results, Tryd.results29, go_sem, k2', c, asAddr, load_bool q false _ c]
  exact (hb.trans (hb1.mono hb.size)).setCell hg _
set_option maxHeartbeats 1000000 in
theorem lmay_any (p : Pr) (l1 : p.1 < 4294967296) (l2 : p.2 < 4294967296) (w : World) (hk : S0.ok w) : Calls Tryd.prog 29 #[.agg #[.int .u32 (p.1 : Int), .int .u32 (p.2 : Int)]] w fun e w' => e = .returned (.bool (okP p)) ∧ Below w.heap.size w w' := by
  have hmf : ∀ (fn : Fn) (first cap : Array Value) (w : World), (Instr.makeFunc fn first cap).run Tryd.prog w = .ok (.func fn first cap) w := fun _ _ _ _ => rfl
  obtain ⟨a, b⟩ := p
  have HS := Lib.hid (fun X g => setsOf_any (a, b) l1 l2 X g)
  have HK := Lib.hid hk
  simp only at l1 l2 HS ⊢
  clear hk l1 l2
  have HQ := Lib.hid (show ∀ X, Below w.heap.size w ((w.alloc (.cells #[.int .u32 (a : Int), .int .u32 (b : Int)] 34)).alloc (.cells #[.bool false] 4)) ∧ (Below ((w.alloc (.cells #[.int .u32 (a : Int), .int .u32 (b : Int)] 34)).alloc (.cells #[.bool false] 4)).heap.size ((w.alloc (.cells #[.int .u32 (a : Int), .int .u32 (b : Int)] 34)).alloc (.cells #[.bool false] 4)) X → Bk X (w.heap.size + 1) 4 #[.bool false] ∧ Below w.heap.size w X) from fun X => ⟨two_bel _ _ _, fun b1 => ⟨(Bk.newAt _ _ _ _ (by simp)).below b1 (by simp), (two_bel _ _ _).trans (b1.mono (by simp; omega))⟩⟩)
  cases hq : okP (a, b) with
  | true =>
    have HT := Lib.hid (show ∀ X, S0.ok X → Calls Tryd.prog 42 #[.agg #[.int .u32 (a : Int), .int .u32 (b : Int)]] X fun e w' => (∃ v, e = .returned v) ∧ Below X.heap.size X w' from fun X g => (HS.out X g).mono fun e w' h => by
      rw [hq, if_pos rfl] at h
      exact h)
    clear HS hq
    go_enter_defers Tryd.func29, Tryd.ntmps29
    go_wp2_with (go_at_call 42; ((with_reducible refine (HT.out _ (S0.bel HK.out (two_bel _ _ _))).mono ?_); rintro e w1 ⟨⟨v, rfl⟩, b1⟩; obtain ⟨q1, q2⟩ := (HQ.out w1).2 b1; have QB := Lib.hid q1; have B1 := Lib.hid q2; have cq := cell_of_one QB.out; have fq := free_of_one QB.out; clear b1 q1 q2))
    exact lmay_ret (QB.out.put 0 (.bool true)) (B1.out.setCell (by simp) _) (by omega) rfl
  | false =>
    have HT := Lib.hid (show ∀ X, S0.ok X → Calls Tryd.prog 42 #[.agg #[.int .u32 (a : Int), .int .u32 (b : Int)]] X fun e w' => e = .panicked [LV.wrg 4] ∧ Below X.heap.size X w' from fun X g => (HS.out X g).mono fun e w' h => by
      rw [hq, if_neg (by simp)] at h
      exact h)
    clear HS hq
    go_enter_defers Tryd.func29, Tryd.ntmps29
    go_wp2_with (go_at_call 42; ((with_reducible refine (HT.out _ (S0.bel HK.out (two_bel _ _ _))).mono ?_); rintro e w1 ⟨rfl, b1⟩; obtain ⟨q1, q2⟩ := (HQ.out w1).2 b1; have QB := Lib.hid q1; have B1 := Lib.hid q2; clear b1 q1 q2))
    exact lmay_bad QB.out B1.out (by omega) rfl
end Go.Proofs.YtccnbepccajdoaaDoor.S13
