/-
  What the deferred call of the landed odds.number does, and number itself. No statement is proved here.
-/
import Derived.Test.YtkanckphkmilkaaOdK2
import Derived.Test.YtkanckphkmilkaaLv
namespace Go.Proofs.Ytkanckphkmilkaa.F
set_option linter.unusedSimpArgs false
set_option linter.unusedVariables false
set_option maxRecDepth 4096
open Go.RowKit

theorem run_store_float {P : Program} (w : World) (a : Addr) (m : Mode) (b : Nat) : (store a (.float .f64 b) m).run P w = stored P w a (.float .f64 b) m := run_store P w a _ m rfl
theorem num1_idle (p q : Nat) (w : World) :
    CallsD Try.prog 40 #[.pointer (some ⟨p, 0, none⟩), .pointer (some ⟨q, 0, none⟩)] .returning w fun e u' w' => e = .returned (.tuple #[]) ∧ u' = .returning ∧ w' = w := by
  refine callsD_of_wpS Try.func40 rfl fun c₀ cs hu => ?_
  apply wpS_seq
  apply wpS_region
  simp [wpOpsS, go_sem, recoverD, hu, LV.wrg, Try.ntmps40, Exit.thenS, Array.replicate, List.replicate]
  refine (LV.told_nil w).mono ?_
  rintro e w' ⟨rfl, rfl⟩
  simp [go_sem, Oper.upon]
  refine wpS_cond (t := false) rfl ?_
  refine wpS_of_wp ?_
  refine wp_skip ?_
  simp [bodyPostS, results, Try.results40]
  cases c₀
  cases hu
  rfl
theorem num1_caught (p q : Nat) (x : Nat) (y : Bool) (k : Int) (hk : k ≠ 0) (older : List PanicEntry) (w : World) (hpq : p ≠ q) (hp : Bk w p 22 #[.float .f64 x]) (hq : Bk w q 4 #[.bool y]) :
    CallsD Try.prog 40 #[.pointer (some ⟨p, 0, none⟩), .pointer (some ⟨q, 0, none⟩)] (.panicking (LV.wrg k :: older)) w fun e u' w' =>
      e = .returned (.tuple #[]) ∧ u' = .panicking ({ v := .iface 54 (.agg #[.int .i64 k]), recovered := true } :: older) ∧ ∃ w1, Below w.heap.size w w1 ∧ w' = (w1.setCell ⟨p, 0, none⟩ (.float .f64 9221120237041090561)).setCell ⟨q, 0, none⟩ (.bool false) := by
  refine callsD_of_wpS Try.func40 rfl fun c₀ cs hu => ?_
  apply wpS_seq
  apply wpS_region
  simp [wpOpsS, go_sem, recoverD, hu, LV.wrg, Try.ntmps40, Exit.thenS, Array.replicate, List.replicate]
  refine (LV.told_wrong k w).mono ?_
  rintro e w' ⟨rfl, hb⟩
  simp [go_sem, Oper.upon]
  refine wpS_cond (t := true) (show (Value.bool (k != 0)) = .bool true by simp [hk]) ?_
  refine wpS_of_wp ?_
  have hp1 := hp.below hb hp.lt
  have hq1 := hq.below hb hq.lt
  have c1 := cell_of_one hp1
  have f1 := free_of_one hp1
  have hq2 := hq1.far (p := ⟨p, 0, none⟩) (fun e : q = p => hpq e.symm) (.float .f64 9221120237041090561)
  have c2 := cell_of_one hq2
  have f2 := free_of_one hq2
  have HN := Lib.hid (fun X => nan_any X)
  have hst := fun (W : World) => run_store_float (P := Try.prog) W ⟨p, 0, none⟩ .plain 9221120237041090561
  go_wp2_with (go_at_call 42; ((with_reducible refine (HN.out _).mono ?_); rintro e w3 ⟨rfl, rfl⟩))
  simp [bodyPostS, results, Try.results40]
  exact ⟨_, hb, rfl⟩
theorem load_fl (g : Nat) (x : Nat) (w : World) (h : w.cell? ⟨g, 0, none⟩ = some (.float .f64 x)) : (loadVar 22 ⟨g, 0, none⟩).run Try.prog w = .ok (.float .f64 x) w := by
  go_simp
theorem load_bo (g : Nat) (x : Bool) (w : World) (h : w.cell? ⟨g, 0, none⟩ = some (.bool x)) : (loadVar 4 ⟨g, 0, none⟩).run Try.prog w = .ok (.bool x) w := by
  go_simp
theorem results_fb {fn : Func} {p q : Tmp} (h : fn.results = #[.cell p 22, .cell q 4]) (tmps : Array Value) (w : World) (a b : Nat) (x : Nat) (y : Bool)
    (hp : tmps.getD p undef = .pointer (some ⟨a, 0, none⟩)) (hq : tmps.getD q undef = .pointer (some ⟨b, 0, none⟩)) (ca : w.cell? ⟨a, 0, none⟩ = some (.float .f64 x)) (cb : w.cell? ⟨b, 0, none⟩ = some (.bool y)) :
    (results fn tmps).run Try.prog w = .ok (.tuple #[.float .f64 x, .bool y]) w := by
  have hp' : tmps[p]?.getD undef = .pointer (some ⟨a, 0, none⟩) := by simpa using hp
  have hq' : tmps[q]?.getD undef = .pointer (some ⟨b, 0, none⟩) := by simpa using hq
  simp [results, h, hp', hq', asAddr, load_fl a x w ca, load_bo b y w cb]
theorem num_ret {Q : Ending → World → Prop} {w' : World} {p q : Nat} {x : Nat} {y : Bool} {tmps : Array Value} (hp : Bk w' p 22 #[.float .f64 x]) (hq : Bk w' q 4 #[.bool y]) (k2 : tmps.getD 2 undef = .pointer (some ⟨p, 0, none⟩)) (k3 : tmps.getD 3 undef = .pointer (some ⟨q, 0, none⟩))
    (post : Q (.returned (.tuple #[.float .f64 x, .bool y])) w') :
    bodyPostD Try.prog Try.f30 Q Exit.ret { tmps := tmps, defers := [{ target := Target.fn (Fn.func 40) #[.pointer (some ⟨p, 0, none⟩), .pointer (some ⟨q, 0, none⟩)], args := #[] }] } w' := by
  refine leaves_cons (f := 40) (args := #[.pointer (some ⟨p, 0, none⟩), .pointer (some ⟨q, 0, none⟩)]) (by simp) (by simp [go_sem]) ?_
  refine (num1_idle p q w').mono ?_
  rintro e1 u' w'' ⟨rfl, rfl, rfl⟩
  have hr := results_fb (fn := Try.f30) rfl tmps w'' p q x y k2 k3 (cell_of_one hp) (cell_of_one hq)
  simp [Leaves, settle, hr]
  exact post
theorem num_bad {Q : Ending → World → Prop} {w' : World} {p q : Nat} {x : Nat} {y : Bool} {k : Int} (hk : k ≠ 0) (hpq : p ≠ q) {tmps : Array Value} (hp : Bk w' p 22 #[.float .f64 x]) (hq : Bk w' q 4 #[.bool y]) (k2 : tmps.getD 2 undef = .pointer (some ⟨p, 0, none⟩)) (k3 : tmps.getD 3 undef = .pointer (some ⟨q, 0, none⟩))
    (post : ∀ w1, Below w'.heap.size w' w1 → Q (.returned (.tuple #[.float .f64 9221120237041090561, .bool false])) ((w1.setCell ⟨p, 0, none⟩ (.float .f64 9221120237041090561)).setCell ⟨q, 0, none⟩ (.bool false))) :
    bodyPostD Try.prog Try.f30 Q (Exit.panic [LV.wrg k]) { tmps := tmps, defers := [{ target := Target.fn (Fn.func 40) #[.pointer (some ⟨p, 0, none⟩), .pointer (some ⟨q, 0, none⟩)], args := #[] }] } w' := by
  refine leaves_cons (f := 40) (args := #[.pointer (some ⟨p, 0, none⟩), .pointer (some ⟨q, 0, none⟩)]) (by simp) (by simp [go_sem]) ?_
  refine (num1_caught p q x y k hk [] w' hpq hp hq).mono ?_
  rintro e1 u' w'' ⟨rfl, rfl, w1, hb1, rfl⟩
  have hp' := ((hp.below hb1 hp.lt).put 0 (.float .f64 9221120237041090561)).far (p := ⟨q, 0, none⟩) hpq (.bool false)
  have hq' := ((hq.below hb1 hq.lt).far (p := ⟨p, 0, none⟩) (fun e : q = p => hpq e.symm) (.float .f64 9221120237041090561)).put 0 (.bool false)
  have hr := results_fb (fn := Try.f30) rfl tmps _ p q _ _ k2 k3 (cell_of_one hp') (cell_of_one hq')
  simp [Leaves, settle, hr]
  exact post w1 hb1
theorem number_clamp {caps : Array Value} (W : World) (R : Nat → Prop)
    (h : ∀ X, Below W.heap.size W X → Calls Try.prog 31 caps X fun e w' => ∃ r, e = .returned (.float .f64 r) ∧ R r ∧ Below X.heap.size X w') :
    Calls Try.prog 30 #[.func (Fn.func 31) #[] caps] W fun e w' => ∃ r, e = .returned (.tuple #[.float .f64 r, .bool true]) ∧ R r ∧ Below W.heap.size W w' := by
  have hmf : ∀ (fn : Fn) (first cap : Array Value) (w : World), (Instr.makeFunc fn first cap).run Try.prog w = .ok (.func fn first cap) w := fun _ _ _ _ => rfl
  obtain ⟨w0, hw0⟩ : ∃ w0, (W.alloc (.cells #[.float .f64 0] 22)).alloc (.cells #[.bool false] 4) = w0 := ⟨_, rfl⟩
  obtain ⟨p, hp⟩ : ∃ p, W.heap.size = p := ⟨_, rfl⟩
  have B0 := Lib.hid (show Below W.heap.size W w0 by rw [← hw0]; exact ((Below.refl _ _).alloc (Nat.le_refl _) _).alloc (by simp) _)
  have KP := Lib.hid (show Bk w0 p 22 #[.float .f64 0] by rw [← hw0]; exact (Bk.newAt _ _ _ _ hp).alloc _)
  have KQ := Lib.hid (show Bk w0 (p + 1) 4 #[.bool false] by rw [← hw0]; exact Bk.newAt _ _ _ _ (by simp [hp]))
  have HF := Lib.hid (h w0 B0.out)
  clear h
  go_enter_defers Try.func30, Try.ntmps30
  go_wp2_with (go_at_call 31; (refine HF.out.mono ?_; rintro e w1 ⟨r, rfl, hr, b1⟩; have c1 := cell_of_one (KP.out.below b1 KP.out.lt); have f1 := free_of_one (KP.out.below b1 KP.out.lt); have KQ1 := (KQ.out.below b1 KQ.out.lt).far (p := ⟨p, 0, none⟩) (show p + 1 ≠ p by omega) (.float .f64 r); have c2 := cell_of_one KQ1; have f2 := free_of_one KQ1; have hst := fun (W : World) => run_store_float (P := Try.prog) W ⟨p, 0, none⟩ .plain r; have K1 := Lib.hid (KP.out.below b1 KP.out.lt); have K2 := Lib.hid KQ1; have HR := Lib.hid hr; have B1 := Lib.hid (B0.out.trans (b1.mono B0.out.size)); clear KQ1 hr b1))
  refine num_ret (x := r) (y := true) ((K1.out.put 0 _).far (show p ≠ p + 1 by omega) _) (K2.out.put 0 _) rfl rfl ?_
  exact ⟨r, rfl, HR.out, (B1.out.setCell (show W.heap.size ≤ p by omega) _).setCell (show W.heap.size ≤ p + 1 by omega) _⟩
theorem number_clamp_bad {caps : Array Value} (W : World)
    (h : ∀ X, Below W.heap.size W X → Calls Try.prog 31 caps X fun e w' => e = .panicked [LV.wrg 1] ∧ Below X.heap.size X w') :
    Calls Try.prog 30 #[.func (Fn.func 31) #[] caps] W fun e w' => e = .returned (.tuple #[.float .f64 9221120237041090561, .bool false]) ∧ Below W.heap.size W w' := by
  have hmf : ∀ (fn : Fn) (first cap : Array Value) (w : World), (Instr.makeFunc fn first cap).run Try.prog w = .ok (.func fn first cap) w := fun _ _ _ _ => rfl
  obtain ⟨w0, hw0⟩ : ∃ w0, (W.alloc (.cells #[.float .f64 0] 22)).alloc (.cells #[.bool false] 4) = w0 := ⟨_, rfl⟩
  obtain ⟨p, hp⟩ : ∃ p, W.heap.size = p := ⟨_, rfl⟩
  have B0 := Lib.hid (show Below W.heap.size W w0 by rw [← hw0]; exact ((Below.refl _ _).alloc (Nat.le_refl _) _).alloc (by simp) _)
  have KP := Lib.hid (show Bk w0 p 22 #[.float .f64 0] by rw [← hw0]; exact (Bk.newAt _ _ _ _ hp).alloc _)
  have KQ := Lib.hid (show Bk w0 (p + 1) 4 #[.bool false] by rw [← hw0]; exact Bk.newAt _ _ _ _ (by simp [hp]))
  have HF := Lib.hid (h w0 B0.out)
  clear h
  go_enter_defers Try.func30, Try.ntmps30
  go_wp2_with (go_at_call 31; (refine HF.out.mono ?_; rintro e w1 ⟨rfl, b1⟩; have K1 := Lib.hid (KP.out.below b1 KP.out.lt); have K2 := Lib.hid (KQ.out.below b1 KQ.out.lt); have B1 := Lib.hid (B0.out.trans (b1.mono B0.out.size)); clear b1))
  refine num_bad (k := 1) (by decide) (show p ≠ p + 1 by omega) K1.out K2.out rfl rfl fun w2 b2 => ?_
  exact ⟨rfl, ((B1.out.trans (b2.mono B1.out.size)).setCell (show W.heap.size ≤ p by omega) _).setCell (show W.heap.size ≤ p + 1 by omega) _⟩
theorem number_left {caps : Array Value} (W : World) (R : Nat → Prop)
    (h : ∀ X, Below W.heap.size W X → Calls Try.prog 34 caps X fun e w' => ∃ r, e = .returned (.float .f64 r) ∧ R r ∧ Below X.heap.size X w') :
    Calls Try.prog 30 #[.func (Fn.func 34) #[] caps] W fun e w' => ∃ r, e = .returned (.tuple #[.float .f64 r, .bool true]) ∧ R r ∧ Below W.heap.size W w' := by
  have hmf : ∀ (fn : Fn) (first cap : Array Value) (w : World), (Instr.makeFunc fn first cap).run Try.prog w = .ok (.func fn first cap) w := fun _ _ _ _ => rfl
  obtain ⟨w0, hw0⟩ : ∃ w0, (W.alloc (.cells #[.float .f64 0] 22)).alloc (.cells #[.bool false] 4) = w0 := ⟨_, rfl⟩
  obtain ⟨p, hp⟩ : ∃ p, W.heap.size = p := ⟨_, rfl⟩
  have B0 := Lib.hid (show Below W.heap.size W w0 by rw [← hw0]; exact ((Below.refl _ _).alloc (Nat.le_refl _) _).alloc (by simp) _)
  have KP := Lib.hid (show Bk w0 p 22 #[.float .f64 0] by rw [← hw0]; exact (Bk.newAt _ _ _ _ hp).alloc _)
  have KQ := Lib.hid (show Bk w0 (p + 1) 4 #[.bool false] by rw [← hw0]; exact Bk.newAt _ _ _ _ (by simp [hp]))
  have HF := Lib.hid (h w0 B0.out)
  clear h
  go_enter_defers Try.func30, Try.ntmps30
  go_wp2_with (go_at_call 34; (refine HF.out.mono ?_; rintro e w1 ⟨r, rfl, hr, b1⟩; have c1 := cell_of_one (KP.out.below b1 KP.out.lt); have f1 := free_of_one (KP.out.below b1 KP.out.lt); have KQ1 := (KQ.out.below b1 KQ.out.lt).far (p := ⟨p, 0, none⟩) (show p + 1 ≠ p by omega) (.float .f64 r); have c2 := cell_of_one KQ1; have f2 := free_of_one KQ1; have hst := fun (W : World) => run_store_float (P := Try.prog) W ⟨p, 0, none⟩ .plain r; have K1 := Lib.hid (KP.out.below b1 KP.out.lt); have K2 := Lib.hid KQ1; have HR := Lib.hid hr; have B1 := Lib.hid (B0.out.trans (b1.mono B0.out.size)); clear KQ1 hr b1))
  refine num_ret (x := r) (y := true) ((K1.out.put 0 _).far (show p ≠ p + 1 by omega) _) (K2.out.put 0 _) rfl rfl ?_
  exact ⟨r, rfl, HR.out, (B1.out.setCell (show W.heap.size ≤ p by omega) _).setCell (show W.heap.size ≤ p + 1 by omega) _⟩
theorem number_left_bad {caps : Array Value} (W : World)
    (h : ∀ X, Below W.heap.size W X → Calls Try.prog 34 caps X fun e w' => e = .panicked [LV.wrg 1] ∧ Below X.heap.size X w') :
    Calls Try.prog 30 #[.func (Fn.func 34) #[] caps] W fun e w' => e = .returned (.tuple #[.float .f64 9221120237041090561, .bool false]) ∧ Below W.heap.size W w' := by
  have hmf : ∀ (fn : Fn) (first cap : Array Value) (w : World), (Instr.makeFunc fn first cap).run Try.prog w = .ok (.func fn first cap) w := fun _ _ _ _ => rfl
  obtain ⟨w0, hw0⟩ : ∃ w0, (W.alloc (.cells #[.float .f64 0] 22)).alloc (.cells #[.bool false] 4) = w0 := ⟨_, rfl⟩
  obtain ⟨p, hp⟩ : ∃ p, W.heap.size = p := ⟨_, rfl⟩
  have B0 := Lib.hid (show Below W.heap.size W w0 by rw [← hw0]; exact ((Below.refl _ _).alloc (Nat.le_refl _) _).alloc (by simp) _)
  have KP := Lib.hid (show Bk w0 p 22 #[.float .f64 0] by rw [← hw0]; exact (Bk.newAt _ _ _ _ hp).alloc _)
  have KQ := Lib.hid (show Bk w0 (p + 1) 4 #[.bool false] by rw [← hw0]; exact Bk.newAt _ _ _ _ (by simp [hp]))
  have HF := Lib.hid (h w0 B0.out)
  clear h
  go_enter_defers Try.func30, Try.ntmps30
  go_wp2_with (go_at_call 34; (refine HF.out.mono ?_; rintro e w1 ⟨rfl, b1⟩; have K1 := Lib.hid (KP.out.below b1 KP.out.lt); have K2 := Lib.hid (KQ.out.below b1 KQ.out.lt); have B1 := Lib.hid (B0.out.trans (b1.mono B0.out.size)); clear b1))
  refine num_bad (k := 1) (by decide) (show p ≠ p + 1 by omega) K1.out K2.out rfl rfl fun w2 b2 => ?_
  exact ⟨rfl, ((B1.out.trans (b2.mono B1.out.size)).setCell (show W.heap.size ≤ p by omega) _).setCell (show W.heap.size ≤ p + 1 by omega) _⟩
theorem number_days {caps : Array Value} (W : World) (R : Nat → Prop)
    (h : ∀ X, Below W.heap.size W X → Calls Try.prog 37 caps X fun e w' => ∃ r, e = .returned (.float .f64 r) ∧ R r ∧ Below X.heap.size X w') :
    Calls Try.prog 30 #[.func (Fn.func 37) #[] caps] W fun e w' => ∃ r, e = .returned (.tuple #[.float .f64 r, .bool true]) ∧ R r ∧ Below W.heap.size W w' := by
  have hmf : ∀ (fn : Fn) (first cap : Array Value) (w : World), (Instr.makeFunc fn first cap).run Try.prog w = .ok (.func fn first cap) w := fun _ _ _ _ => rfl
  obtain ⟨w0, hw0⟩ : ∃ w0, (W.alloc (.cells #[.float .f64 0] 22)).alloc (.cells #[.bool false] 4) = w0 := ⟨_, rfl⟩
  obtain ⟨p, hp⟩ : ∃ p, W.heap.size = p := ⟨_, rfl⟩
  have B0 := Lib.hid (show Below W.heap.size W w0 by rw [← hw0]; exact ((Below.refl _ _).alloc (Nat.le_refl _) _).alloc (by simp) _)
  have KP := Lib.hid (show Bk w0 p 22 #[.float .f64 0] by rw [← hw0]; exact (Bk.newAt _ _ _ _ hp).alloc _)
  have KQ := Lib.hid (show Bk w0 (p + 1) 4 #[.bool false] by rw [← hw0]; exact Bk.newAt _ _ _ _ (by simp [hp]))
  have HF := Lib.hid (h w0 B0.out)
  clear h
  go_enter_defers Try.func30, Try.ntmps30
  go_wp2_with (go_at_call 37; (refine HF.out.mono ?_; rintro e w1 ⟨r, rfl, hr, b1⟩; have c1 := cell_of_one (KP.out.below b1 KP.out.lt); have f1 := free_of_one (KP.out.below b1 KP.out.lt); have KQ1 := (KQ.out.below b1 KQ.out.lt).far (p := ⟨p, 0, none⟩) (show p + 1 ≠ p by omega) (.float .f64 r); have c2 := cell_of_one KQ1; have f2 := free_of_one KQ1; have hst := fun (W : World) => run_store_float (P := Try.prog) W ⟨p, 0, none⟩ .plain r; have K1 := Lib.hid (KP.out.below b1 KP.out.lt); have K2 := Lib.hid KQ1; have HR := Lib.hid hr; have B1 := Lib.hid (B0.out.trans (b1.mono B0.out.size)); clear KQ1 hr b1))
  refine num_ret (x := r) (y := true) ((K1.out.put 0 _).far (show p ≠ p + 1 by omega) _) (K2.out.put 0 _) rfl rfl ?_
  exact ⟨r, rfl, HR.out, (B1.out.setCell (show W.heap.size ≤ p by omega) _).setCell (show W.heap.size ≤ p + 1 by omega) _⟩
theorem number_days_bad {caps : Array Value} (W : World)
    (h : ∀ X, Below W.heap.size W X → Calls Try.prog 37 caps X fun e w' => e = .panicked [LV.wrg 1] ∧ Below X.heap.size X w') :
    Calls Try.prog 30 #[.func (Fn.func 37) #[] caps] W fun e w' => e = .returned (.tuple #[.float .f64 9221120237041090561, .bool false]) ∧ Below W.heap.size W w' := by
  have hmf : ∀ (fn : Fn) (first cap : Array Value) (w : World), (Instr.makeFunc fn first cap).run Try.prog w = .ok (.func fn first cap) w := fun _ _ _ _ => rfl
  obtain ⟨w0, hw0⟩ : ∃ w0, (W.alloc (.cells #[.float .f64 0] 22)).alloc (.cells #[.bool false] 4) = w0 := ⟨_, rfl⟩
  obtain ⟨p, hp⟩ : ∃ p, W.heap.size = p := ⟨_, rfl⟩
  have B0 := Lib.hid (show Below W.heap.size W w0 by rw [← hw0]; exact ((Below.refl _ _).alloc (Nat.le_refl _) _).alloc (by simp) _)
  have KP := Lib.hid (show Bk w0 p 22 #[.float .f64 0] by rw [← hw0]; exact (Bk.newAt _ _ _ _ hp).alloc _)
  have KQ := Lib.hid (show Bk w0 (p + 1) 4 #[.bool false] by rw [← hw0]; exact Bk.newAt _ _ _ _ (by simp [hp]))
  have HF := Lib.hid (h w0 B0.out)
  clear h
  go_enter_defers Try.func30, Try.ntmps30
  go_wp2_with (go_at_call 37; (refine HF.out.mono ?_; rintro e w1 ⟨rfl, b1⟩; have K1 := Lib.hid (KP.out.below b1 KP.out.lt); have K2 := Lib.hid (KQ.out.below b1 KQ.out.lt); have B1 := Lib.hid (B0.out.trans (b1.mono B0.out.size)); clear b1))
  refine num_bad (k := 1) (by decide) (show p ≠ p + 1 by omega) K1.out K2.out rfl rfl fun w2 b2 => ?_
  exact ⟨rfl, ((B1.out.trans (b2.mono B1.out.size)).setCell (show W.heap.size ≤ p by omega) _).setCell (show W.heap.size ≤ p + 1 by omega) _⟩
end Go.Proofs.Ytkanckphkmilkaa.F
