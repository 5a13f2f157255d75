/-
  Texts put together: XmB, XmC, XmD. No statement is proved here.
-/
import Derived.Test.YtkpfppiedadmbaaGreatDoorWo23
import Derived.Test.YtkpfppiedadmbaaGreatDoorWo30

/-
  Loops over a function value that counts on in a box of its own, which lay there ahead of the loop. Plain laws, no statement is proved here.
-/
namespace Go.Proofs.YtkpfppiedadmbaaGreatDoor.RD
set_option linter.unusedSimpArgs false
set_option linter.unusedVariables false
set_option maxRecDepth 1024
open Go.RowKit

/-- What a function value does that hands over values by number, and behind each sets its box to what the next one is told from. What holds (J) may hang on a height z: what lies from z on is the function value's own. -/
def ItP (P : Program) (m gf : Nat) (lb : Array Value) (encs : Nat → Array Value) (N bn : Nat) (T : TypeId) (val : Nat → Value) (ok : World → Prop) : Prop :=
  ∀ (l : Nat) (J : Nat → Nat → World → Prop) (W : World),
    (∀ k z X Y, J k z X → Below X.heap.size X Y → J k z Y) →
    (∀ k z X, J k z X → ok X ∧ Bk X bn T #[val k]) →
    (∀ k z X, J k z X → z ≤ X.heap.size → k < N → YieldAt Fence.wide (m - 1) P l (encs k) X fun e X' => e = .returned (.bool true) ∧ (∀ (b : Nat) (o : Obj), z ≤ b → X.heap[b]? = some o → o.isCells = true → X'.heap[b]? = some o) ∧ X.heap.size ≤ X'.heap.size ∧ Bk X' bn T #[val k] ∧ J (k + 1) X'.heap.size (X'.setCell ⟨bn, 0, none⟩ (val (k + 1)))) →
    J 0 W.heap.size W → CallsIn Fence.wide m P gf (#[.func (.yield l) #[] #[]] ++ lb) W fun e W' => (∃ v, e = .returned v) ∧ ∃ z, J N z W'
theorem set_put {Y : World} {bn L : Nat} {T : TypeId} {v0 v : Value} {o : Obj} (hb : Bk Y bn T #[v0]) (hne : bn ≠ L) : (Y.setCell ⟨bn, 0, none⟩ v).grownBy ((Y.putObj L o).setCell ⟨bn, 0, none⟩ v) (some L) := by
  have hb2 : Bk (Y.putObj L o) bn T #[v0] := (World.putObj_heap_other hne).trans hb
  have h1 := (Below.refl bn Y).setCell (p := ⟨bn, 0, none⟩) (Nat.le_refl _) v
  have h2 := (Below.refl bn (Y.putObj L o)).setCell (p := ⟨bn, 0, none⟩) (Nat.le_refl _) v
  have h3 := grownBy_putObj' Y L o
  refine ⟨(h2.os.trans h3.os).trans h1.os.symm, (h2.tape.trans h3.tape).trans h1.tape.symm, (h2.output.trans h3.output).trans h1.output.symm, ?_, fun k hk hkL => ?_⟩
  · simp
  · by_cases e : k = bn
    · subst e
      exact (hb2.put 0 v).trans (hb.put 0 v).symm
    · refine (Below.heap_setCell (Y.putObj L o) ⟨bn, 0, none⟩ v k e).trans (Eq.trans ?_ (Below.heap_setCell Y ⟨bn, 0, none⟩ v k e).symm)
      exact World.putObj_heap_other fun e => hkL (by rw [e])
theorem range_box {P : Program} {m gf N bn : Nat} {T : TypeId} {val : Nat → Value} {lb : Array Value} {encs : Nat → Array Value} {ok : World → Prop} {g : Operand} {ps : Array Tmp} {assign body : Code} {Q : Exit → Act → World → Prop} {a : Act} {w : World}
    (hg : a.eval g = .func (.func gf) #[] lb) (eg : ∀ args w, (callFunc gf args).run P w = .ok (.enter gf args) w) (it : ItP P (m - 1) gf lb encs N bn T val ok) (hps : ∀ k, (encs k).size = ps.size) (hbn : bn < w.heap.size)
    (I : Nat → Nat → World → Prop) (hI : OwnFrom w.heap.size (fun (s : Nat × Nat) X => I s.1 s.2 X)) (hok : ∀ k z X, I k z X → ok X ∧ Bk X bn T #[val k]) (h0 : ∀ z, w.heap.size ≤ z → I 0 z w) (o₁ : Nat → Obj) (a₁ : Nat → Nat → Act)
    (hassign : ∀ (l k t : Nat) (W : World) (K : Act → World → Prop), W.heap.size = t → K (a₁ k t) (W.alloc (o₁ k)) →
      assign.wpIn (Fence.wide.inRound l) (m - 1 - 1) P (Exit.then K (fun _ _ _ => False)) { tmps := (ps.zip (encs k)).foldl (fun t (p, v) => t.setIfInBounds p v) a.tmps, defers := [] } W)
    (hbody : ∀ (l k z t : Nat) (W : World), I k z W → z ≤ t → W.heap[t]? = some (o₁ k) → w.heap.size ≤ z → k < N → body.wpIn (Fence.wide.inRound l) (m - 1 - 1) P (fun e _ W' => e = .normal ∧ KeepsFrom w.heap.size W W' ∧ (∀ (b : Nat) (o : Obj), z ≤ b → W.heap[b]? = some o → o.isCells = true → W'.heap[b]? = some o) ∧ Bk W' bn T #[val k] ∧ ∀ z', W'.heap.size ≤ z' → I (k + 1) z' (W'.setCell ⟨bn, 0, none⟩ (val (k + 1)))) (a₁ k t) W)
    (hdone : ∀ (D z : Nat) (W : World), w.heap.size ≤ D → I N z W → W.heap[D]? = some (.deferred (some [])) → Q .normal { a with defers := { target := .collected D, args := #[] } :: a.defers } W) :
    (Code.rangeFunc g ps assign body).wpIn Fence.wide m P Q a w := by
  refine wpIn_rangeFunc fun fn _ => ?_
  obtain ⟨L, hL⟩ : ∃ L : LoopState → Loop, L = fun st => { state := st, pending := none, fn := fn, tmps := a.tmps, params := ps, assign := assign, body := body, defers := w.heap.size } := ⟨_, rfl⟩
  obtain ⟨w1, hw1⟩ : ∃ w1, (w.alloc (.deferred (some []))).alloc (.loop (L .ready)) = w1 := ⟨_, rfl⟩
  refine ⟨w.heap.size + 1, [{ target := .collected w.heap.size, args := #[] }], w1, { target := .fn (.func gf) lb, args := #[.func (.yield (w.heap.size + 1)) #[] #[]] }, w1, gf, #[.func (.yield (w.heap.size + 1)) #[] #[]] ++ lb, w1, ?_, ?_, fun _ _ => trivial, ?_, fun h => (by simp [Fence.wide] at h), ?_⟩
  · rw [← hw1, hL]
    exact run_enterLoop_outer _ _ _ _ _
  · simp only [resolve, hg]
    simp [go_sem]
  · simp [invoke, go_sem, eg]
  · have b1 : w1.heap[w.heap.size + 1]? = some (.loop (L .ready)) := by
      rw [← hw1]
      have := World.alloc_heap_new (w.alloc (.deferred (some []))) (.loop (L .ready))
      rwa [World.size_alloc] at this
    have b2 : w1.heap[w.heap.size]? = some (.deferred (some [])) := by
      rw [← hw1]
      exact (Below.heap_alloc _ _ _ (by simp)).trans (World.alloc_heap_new w _)
    have hsz : w1.heap.size = w.heap.size + 2 := by rw [← hw1]; simp
    have i1 : I 0 w1.heap.size w1 := by
      have h9 := h0 w1.heap.size (by omega)
      generalize w1.heap.size = zz at *
      rw [← hw1]
      exact hI.alloc (s := (0, zz)) _ (hI.alloc (s := (0, zz)) _ h9)
    clear hw1
    refine (it (w.heap.size + 1) (fun k z X => I k z X ∧ X.heap[w.heap.size + 1]? = some (.loop (L .ready)) ∧ X.heap[w.heap.size]? = some (.deferred (some [])) ∧ w.heap.size + 2 ≤ z) w1 ?_ (fun k z X h => hok k z X h.1) ?_ ⟨i1, b1, b2, by omega⟩).mono ?_
    · rintro k z X Y ⟨h1, h2, h3, h4⟩ hb
      exact ⟨hI (k, z) X Y none h1 (below_grown hb) (fun r e => by cases e), below_at hb h2, below_at hb h3, h4⟩
    · rintro k z X ⟨h1, h2, h3, h4⟩ hz hk
      have hy := run_yield (P := P) (args := encs k) h2 (by rw [hL]; exact hps k)
      rw [hL] at hy
      refine ⟨fn, _, assign, body, hy, roundIn_of_wpIn trivial (hassign _ k _ X _ rfl ?_)⟩
      clear hy
      have hlt : w.heap.size + 1 < X.heap.size := (Array.getElem?_eq_some_iff.1 h2).1
      have h1a := hI.alloc (s := (k, z)) (o₁ k) h1
      have h2a : (X.alloc (o₁ k)).heap[w.heap.size + 1]? = some (.loop (L .ready)) := (Below.heap_alloc _ _ _ hlt).trans h2
      have h3a : (X.alloc (o₁ k)).heap[w.heap.size]? = some (.deferred (some [])) := (Below.heap_alloc _ _ _ (by omega)).trans h3
      have hta : (X.alloc (o₁ k)).heap[X.heap.size]? = some (o₁ k) := World.alloc_heap_new X (o₁ k)
      refine ⟨_, run_beginRound h2a (by rw [hL]), ?_⟩
      have eL : ({ L .ready with state := .busy } : Loop) = L .busy := by rw [hL]
      rw [eL]
      have c1 : ((X.alloc (o₁ k)).putObj (w.heap.size + 1) (.loop (L .busy))).heap[w.heap.size + 1]? = some (.loop (L .busy)) := World.putObj_heap_same (by simp; omega)
      have c2 : ((X.alloc (o₁ k)).putObj (w.heap.size + 1) (.loop (L .busy))).heap[w.heap.size]? = some (.deferred (some [])) := (World.putObj_heap_other (by omega)).trans h3a
      refine wpIn_mono (hbody _ k z X.heap.size _ (hI.putObj (s := (k, z)) _ h1a (by omega) h2a rfl) hz ((World.putObj_heap_other (by omega)).trans hta) (by omega) hk) ?_
      rintro e a' Y ⟨rfl, hk1, hfr, hbk, hi⟩
      have d1 := hk1.same _ _ (by omega) c1 rfl
      have d2 := hk1.same _ _ (Nat.le_refl _) c2 rfl
      have hr := run_endRound (P := P) none d1
      have eR : ({ L .busy with state := if (none : Option Code).isNone then .ready else .done, pending := none } : Loop) = L .ready := by rw [hL]; rfl
      rw [eR] at hr
      have hne : bn ≠ w.heap.size + 1 := by omega
      have hgs := set_put (v := val (k + 1)) (o := .loop (L .ready)) hbk hne
      have hfar1 : (Y.setCell ⟨bn, 0, none⟩ (val (k + 1))).heap[w.heap.size + 1]? = some (.loop (L .busy)) := (Below.heap_setCell Y ⟨bn, 0, none⟩ _ _ (by show w.heap.size + 1 ≠ bn; omega)).trans d1
      refine ⟨_, _, hr, rfl, ?_, ?_, ?_, ?_, ?_, ?_, ?_⟩
      · intro b o hb ho hc
        have hbL : b ≠ w.heap.size + 1 := by
          rintro rfl
          rw [h2] at ho
          cases ho
          cases hc
        exact (World.putObj_heap_other hbL).trans (hfr b o hb ((World.putObj_heap_other hbL).trans ((Below.heap_alloc _ _ _ (Array.getElem?_eq_some_iff.1 ho).1).trans ho)) hc)
      · have := hk1.size
        simp at this ⊢
        omega
      · exact (World.putObj_heap_other hne).trans hbk
      · refine hI (k + 1, _) _ _ (some (w.heap.size + 1)) (hi _ (by simp)) hgs ?_
        rintro r e
        cases e
        exact ⟨by omega, _, hfar1, rfl⟩
      · refine (Below.heap_setCell _ ⟨bn, 0, none⟩ _ _ (by show w.heap.size + 1 ≠ bn; omega)).trans ?_
        exact World.putObj_heap_same (Array.getElem?_eq_some_iff.1 d1).1
      · refine (Below.heap_setCell _ ⟨bn, 0, none⟩ _ _ (by show w.heap.size ≠ bn; omega)).trans ?_
        exact (World.putObj_heap_other (by omega)).trans d2
      · have h5 := hk1.size
        simp only [World.putObj_size, World.size_alloc] at h5 ⊢
        omega
    · rintro e Y ⟨⟨v, rfl⟩, z, h1, h2, h3, h4⟩
      have hr := run_endLoop (P := P) h2 (by rw [hL]; simp)
      have eP : (L .ready).pending = none := by rw [hL]
      rw [eP] at hr
      exact ⟨none, _, hr, hdone _ z _ (Nat.le_refl _) (hI.putObj (s := (N, z)) _ h1 (by omega) h2 rfl) ((World.putObj_heap_other (by omega)).trans h3)⟩
end Go.Proofs.YtkpfppiedadmbaaGreatDoor.RD

/-
  The landed package xmss: what hands over the places of an index. No statement is proved here.
-/
namespace Go.Proofs.YtkpfppiedadmbaaGreatDoor.S16
set_option linter.unusedSimpArgs false
set_option linter.unusedVariables false
set_option maxRecDepth 1024
open Go.RowKit Go.Shelf S15
attribute [local go_sem] Oper.semAt_some

theorem places_any (L H : Int) (n : Nat) (w : World) :
    Calls Tryz.prog 21 #[.agg (shA L H), .int .u64 (n : Int)] w fun e w' => e = .returned (.func (.func 53) #[] #[.pointer (some ⟨w.heap.size, 0, none⟩), .pointer (some ⟨w.heap.size + 1, 0, none⟩)]) ∧ w' = (w.alloc (.cells (shA L H) 23)).alloc (.cells #[.int .u64 (n : Int)] 27) := by
  have hmf : ∀ (fn : Fn) (first cap : Array Value) (w : World), (Instr.makeFunc fn first cap).run Tryz.prog w = .ok (.func fn first cap) w := fun _ _ _ _ => rfl
  go_enter Tryz.func21, Tryz.ntmps21
  go_wp2
  go_ret
  exact ⟨rfl, rfl⟩
/-- What is left of an index, by layers. -/
def nT (h n j : Nat) : Nat := n / 2 ^ (h * j)
theorem nT_zero (h n : Nat) : nT h n 0 = n := by simp [nT]
theorem nT_succ (h n j : Nat) : nT h n (j + 1) = nT h n j / 2 ^ h := by
  rw [nT, nT, Nat.div_div_eq_div_mul, ← Nat.pow_add, Nat.mul_succ]
abbrev plN (h n j : Nat) : Array Value := plA j (nT h n (j + 1)) (nT h n j % 2 ^ h)
set_option maxHeartbeats 2000000 in
theorem places_it (m : Nat) (hm : 1 ≤ m) (bx bn l h n : Nat) (hl : l < 13) (hh : h < 21) (hn : n < 18446744073709551616) :
    RD.ItP Tryz.prog m 53 #[.pointer (some ⟨bx, 0, none⟩), .pointer (some ⟨bn, 0, none⟩)] (fun j => #[.agg (plN h n j)]) l bn 27 (fun j => .int .u64 ((nT h n j : Nat) : Int)) (fun X => Bk X bx 23 (shA l h)) := by
  intro lp J W hJb hJo hY h0
  have HJB := Lib.hid hJb
  have HJO := Lib.hid hJo
  have HY := Lib.hid hY
  clear hJb hJo hY
  obtain ⟨M, hM⟩ : ∃ M : Nat, M = 2 ^ h := ⟨_, rfl⟩
  have hM1 : 1 ≤ M := by rw [hM]; exact Nat.two_pow_pos h
  have hM2 : M ≤ 1048576 := by rw [hM]; exact Nat.pow_le_pow_right (n := 2) (by omega) (show h ≤ 20 by omega)
  have hs : IntKind.u64.wrap ((2 : Int) ^ h) = (M : Int) := by rw [hM]; exact shl_pow' (by omega)
  have HM := Lib.hid hM
  clear hM
  have hb0 := (HJO.out _ _ _ h0).1
  have k0 : W.cell? ⟨bx, 0, none⟩ = some (.int .i64 (l : Int)) := hb0.cell 0
  have k1 : W.cell? ⟨bx, 1, none⟩ = some (.int .i64 (h : Int)) := hb0.cell 1
  clear hb0
  refine callsIn_of_wp (args := #[.func (.yield lp) #[] #[], .pointer (some ⟨bx, 0, none⟩), .pointer (some ⟨bn, 0, none⟩)]) Tryz.func53 rfl trivial ?_ rfl
  simp only [Tryz.ntmps53, List.size_toArray, List.length_cons, List.length_nil, Nat.reduceAdd, Nat.reduceSub, Array.replicate_succ, Array.replicate_zero, List.push_toArray, List.append_toArray, List.nil_append, List.cons_append]
  gi_wp2_with (fail)
  gi_loopw [12] (fun i wr => ∃ j z : Nat, j ≤ l ∧ i = .int .i64 (j : Int) ∧ z ≤ wr.heap.size ∧ J j z wr) (fun i _ => l - (intOf i).toNat)
  case atStart => exact ⟨0, W.heap.size, Nat.zero_le _, rfl, Nat.le_refl _, h0⟩
  case round =>
    obtain ⟨j, z, hj, rfl, hz, hJ⟩ := hrel
    by_cases hlt : j < l
    · have t0 : (j : Int) < (l : Int) := by omega
      have e1 : IntKind.u32.wrap (j : Int) = (j : Int) := by rw [IntKind.wrap_u32]; omega
      obtain ⟨hbx, hbn⟩ := HJO.out _ _ _ hJ
      obtain ⟨a0, ha0⟩ : ∃ a0, a0 = nT h n j := ⟨_, rfl⟩
      obtain ⟨b0, hb0⟩ : ∃ b0, b0 = a0 / M := ⟨_, rfl⟩
      obtain ⟨q0, hq0⟩ : ∃ q0, q0 = a0 % M := ⟨_, rfl⟩
      have hv1 : nT h n (j + 1) = b0 := by rw [nT_succ, ← ha0, ← HM.out, hb0]
      have hv2 : nT h n j % 2 ^ h = q0 := by rw [← ha0, ← HM.out, hq0]
      have ha1 : a0 < 18446744073709551616 := by rw [ha0]; exact Nat.lt_of_le_of_lt (Nat.div_le_self _ _) hn
      have hq1 : q0 < 1048576 := by rw [hq0]; have := Nat.mod_lt a0 (show 0 < M by omega); omega
      have f1 : (a0 : Int) / (M : Int) = (b0 : Int) := by rw [hb0]; simp
      have f2 : (a0 : Int) % (M : Int) = (q0 : Int) := by rw [hq0]; simp
      have f3 : IntKind.u32.wrap (q0 : Int) = (q0 : Int) := by rw [IntKind.wrap_u32]; omega
      have f4 : ¬ (M : Int) = 0 := by omega
      have f4' : ¬ M = 0 := by omega
      have f5 : IntKind.u64.wrap (b0 : Int) = (b0 : Int) := by
        have : b0 ≤ a0 := by rw [hb0]; exact Nat.div_le_self _ _
        rw [IntKind.wrap_u64]; omega
      have f6 : (a0 : Int).tmod (M : Int) = (q0 : Int) := by rw [Int.tmod_eq_emod_of_nonneg (by omega)]; exact f2
      have HYJ := Lib.hid (HY.out j z)
      simp only [hv1] at HYJ
      have HV1 := Lib.hid hv1
      have HV2 := Lib.hid hv2
      have HJ := Lib.hid hJ
      have HBN := Lib.hid (show Bk wr bn 27 #[.int .u64 (a0 : Int)] by rw [ha0]; exact hbn)
      have HLT := Lib.hid hlt
      have HZ := Lib.hid hz
      have BD := Lib.hid (Below.refl wr.heap.size wr).drew
      have KS := Lib.hid (show ∀ X, Below wr.heap.size wr X → X.cell? ⟨bn, 0, none⟩ = some (.int .u64 (a0 : Int)) from fun X hX => (HBN.out.below hX HBN.out.lt).cell 0)
      clear hbx hbn hv1 hv2 ha0 hb0 hq0 hJ h0 k0 k1 hs hz
      gi_wp2_with (fail)
      refine wpIn_wide.2 ?_
      (go_region_held3 (fun X => X.cell? ⟨bn, 0, none⟩ = some (.int .u64 (a0 : Int))) (first
        | exact KS.out _ BD.out
        | exact KS.out _ (BD.out.alloc BD.out.size _)
        | (trace_state; fail)) (fail))
      have hsz := HZ.out
      have PB := Lib.hid (Bk.newAt wr 52 (plA j b0 q0) wr.heap.size rfl)
      have BX := Lib.hid (show Below wr.heap.size wr (wr.alloc (.cells (plA j b0 q0) 52)).drew from ((Below.refl _ _).alloc (Nat.le_refl _) _).drew)
      obtain ⟨t, ht⟩ : ∃ t, wr.heap.size = t := ⟨_, rfl⟩
      obtain ⟨X, hX⟩ : ∃ X, (wr.alloc (.cells (plA j b0 q0) 52)).drew = X := ⟨_, rfl⟩
      rw [ht] at PB
      have PX := Lib.hid (show Bk X t 52 (plA j b0 q0) by rw [← hX]; exact PB.out)
      rw [hX] at BX
      have p0 : X.cell? ⟨t, 0, none⟩ = some (.int .u32 (j : Int)) := PX.out.cell 0
      have p1 : X.cell? ⟨t, 1, none⟩ = some (.int .u64 (b0 : Int)) := PX.out.cell 1
      have p2 : X.cell? ⟨t, 2, none⟩ = some (.int .u32 (q0 : Int)) := PX.out.cell 2
      have e9 : plN h n j = plA j b0 q0 := by
        show plA j (nT h n (j + 1)) (nT h n j % 2 ^ h) = _
        rw [HV1.out, HV2.out]
      have YX := HYJ.out X (HJB.out _ _ _ _ HJ.out BX.out) (Nat.le_trans HZ.out BX.out.size) HLT.out
      rw [e9] at YX
      obtain ⟨fn, tmps, assign, body, hy, hR⟩ := YX
      rw [hX, ht]
      clear PB f1 f2 f3 f4 f4' f5 f6 e9
      have HZT := Lib.hid (show z ≤ t by rw [← ht]; exact HZ.out)
      clear hX ht
      gi_wp2_with (first
        | (refine hR.mono ?_; rintro e w2 ⟨rfl, hfr, hsz2, hbk2, hJ2⟩; have B2 := Lib.hid hbk2; have J2 := Lib.hid hJ2; have P2 := Lib.hid (show Bk w2 t 52 (plA j b0 q0) from hfr t _ HZT.out PX.out rfl); have c2 : w2.cell? ⟨t, 1, none⟩ = some (.int .u64 (b0 : Int)) := P2.out.cell 1; have d2 : w2.cell? ⟨bn, 0, none⟩ = some (.int .u64 (nT h n j : Int)) := B2.out.cell 0; have f2 := B2.out.frozen 0; clear hfr hsz2 hbk2 hJ2)
        | (refine ⟨trivial, ?_⟩; refine hR.mono ?_; rintro e w2 ⟨rfl, hfr, hsz2, hbk2, hJ2⟩; have B2 := Lib.hid hbk2; have J2 := Lib.hid hJ2; have P2 := Lib.hid (show Bk w2 t 52 (plA j b0 q0) from hfr t _ HZT.out PX.out rfl); have c2 : w2.cell? ⟨t, 1, none⟩ = some (.int .u64 (b0 : Int)) := P2.out.cell 1; have d2 : w2.cell? ⟨bn, 0, none⟩ = some (.int .u64 (nT h n j : Int)) := B2.out.cell 0; have f2 := B2.out.frozen 0; clear hfr hsz2 hbk2 hJ2)
        | (refine ⟨trivial, fun h => (by simp [Fence.wide] at h), ?_⟩; refine hR.mono ?_; rintro e w2 ⟨rfl, hfr, hsz2, hbk2, hJ2⟩; have B2 := Lib.hid hbk2; have J2 := Lib.hid hJ2; have P2 := Lib.hid (show Bk w2 t 52 (plA j b0 q0) from hfr t _ HZT.out PX.out rfl); have c2 : w2.cell? ⟨t, 1, none⟩ = some (.int .u64 (b0 : Int)) := P2.out.cell 1; have d2 : w2.cell? ⟨bn, 0, none⟩ = some (.int .u64 (nT h n j : Int)) := B2.out.cell 0; have f2 := B2.out.frozen 0; clear hfr hsz2 hbk2 hJ2))
      go_roundw
      case rel =>
        have := J2.out
        exact ⟨j + 1, w2.heap.size, by omega, by go_num, by simp, this⟩
      case measure => simp [intOf]; omega
    · obtain rfl : j = l := by omega
      have t0 : ¬ (j : Int) < (j : Int) := by omega
      have HJ := Lib.hid hJ
      clear hJ h0
      gi_wp2
      go_end0
      exact ⟨⟨_, rfl⟩, z, HJ.out⟩
end Go.Proofs.YtkpfppiedadmbaaGreatDoor.S16

/-
  The landed package xmss: what holds while the layers of a signature are gone through. No statement is proved here.
-/
namespace Go.Proofs.YtkpfppiedadmbaaGreatDoor.S16
set_option linter.unusedSimpArgs false
set_option linter.unusedVariables false
set_option maxRecDepth 1024
open Go.RowKit S15 RD

/-- Of what lay below n all but the blocks of E is as it was. -/
structure KX (n : Nat) (E : Nat → Prop) (X Y : World) : Prop where
  size : X.heap.size ≤ Y.heap.size
  same : ∀ k, k < n → ¬ E k → Y.heap[k]? = X.heap[k]?
section
variable {n : Nat} {E : Nat → Prop} {X Y Z : World}
theorem KX.refl (X : World) : KX n E X X := ⟨Nat.le_refl _, fun _ _ _ => rfl⟩
theorem KX.trans (h : KX n E X Y) (k : KX n E Y Z) : KX n E X Z := ⟨Nat.le_trans h.size k.size, fun i h1 h2 => (k.same i h1 h2).trans (h.same i h1 h2)⟩
theorem KX.bel (h : Below X.heap.size X Y) (hn : n ≤ X.heap.size) : KX n E X Y := ⟨h.size, fun k hk _ => h.block k (by omega)⟩
theorem KX.grown {row : Option Nat} (h : X.grownBy Y row) (hn : n ≤ X.heap.size) (hr : ∀ r, row = some r → n ≤ r) : KX n E X Y :=
  ⟨h.size, fun k h1 _ => h.block k (by omega) fun e => by have := hr k e.symm; omega⟩
theorem KX.grown' {row : Option Nat} (h : X.grownBy Y row) (hn : n ≤ X.heap.size) (hr : ∀ r, row = some r → n ≤ r ∨ E r) : KX n E X Y :=
  ⟨h.size, fun k h1 h2 => h.block k (by omega) fun e => by
    rcases hr k e.symm with h3 | h3
    · omega
    · exact h2 h3⟩
theorem KX.set {g : Nat} (hg : E g) (X : World) (i : Nat) (v : Value) : KX n E X (X.setCell ⟨g, i, none⟩ v) :=
  ⟨by simp, fun k _ h2 => Below.heap_setCell X ⟨g, i, none⟩ v k fun e => h2 (by rw [show k = g from e]; exact hg)⟩
theorem KX.bk (h : KX n E X Y) {g : Nat} {t : TypeId} {cs : Array Value} (hb : Bk X g t cs) (h1 : g < n) (h2 : ¬ E g) : Bk Y g t cs := (h.same _ h1 h2).trans hb
theorem KX.rd (h : KX n E X Y) {A : Option Addr} {m c : Nat} {xs : List UInt8} (hr : Rd X A m c xs) (ha : ∀ a, 0 < m → A = some a → a.block < n ∧ ¬ E a.block) : Rd Y A m c xs := by
  refine ⟨hr.len, hr.cap, hr.max, hr.nil, fun hn => ?_⟩
  obtain ⟨b, off, rfl, hb, hc⟩ := hr.at_ hn
  obtain ⟨h1, h2⟩ := ha _ hn rfl
  exact ⟨b, off, rfl, Nat.lt_of_lt_of_le hb h.size, fun j hj => (World.cell?_of_block (a := ⟨b, off + j, none⟩) (h.same b h1 h2)).trans (hc j hj)⟩
theorem KX.sl {P : El} (hP : FP P) (h : KX n E X Y) {S : Nat → Prop} {A : Option Addr} {m c : Nat} (hs : Sl P X S A m c) (ha : ∀ b, S b → b < n ∧ ¬ E b) : Sl P Y S A m c :=
  hs.keep hP h.size fun b hb _ => h.same b (ha b hb).1 (ha b hb).2
end
theorem KX.mono {n n' : Nat} {E E' : Nat → Prop} {X Y : World} (h : KX n E X Y) (hn : n' ≤ n) (hE : ∀ b, b < n' → E b → E' b) : KX n' E' X Y := ⟨h.size, fun k hk hne => h.same k (by omega) fun e => hne (hE k hk e)⟩
/-- A row is not touched where a box of no byte is set. -/
theorem rd_box {w : World} {A : Option Addr} {n c g : Nat} {xs : List UInt8} {T : TypeId} {v : Value} (h : Rd w A n c xs) (hG : Bk w g T #[v]) (hv : ∀ x : UInt8, v ≠ .int .u8 (x.toNat : Int)) (i : Nat) (u : Value) : Rd (w.setCell ⟨g, i, none⟩ u) A n c xs := rd_farBk h hG hv i u
theorem no_u8_slice {A : Option Addr} {n c : Nat} : ∀ x : UInt8, (Value.slice A n c) ≠ .int .u8 (x.toNat : Int) := fun x e => by cases e
theorem no_u8_u64 {z : Int} : ∀ x : UInt8, (Value.int .u64 z) ≠ .int .u8 (x.toNat : Int) := fun x e => by cases e
/-- While a signature is held: what is left of it, and where it has led. -/
structure FI (w wL : World) (sd : List UInt8) (h l n ER ES bn : Nat) (R : List UInt8) (k : Nat) (X : World) : Prop where
  ke : KX wL.heap.size (fun b => b = ER ∨ b = ES ∨ b = bn) wL X
  bel : Below w.heap.size w X
  box : Bk X bn 27 #[.int .u64 ((nT h n k : Nat) : Int)]
  got : ∃ (A : Option Addr) (c m : Nat) (xs : List UInt8) (A' : Option Addr) (c' : Nat) (ys : List UInt8), Bk X ER 24 #[.slice A m c] ∧ Rd w A m c xs ∧ m = (l - k) * (2144 + 32 * h) ∧ Bk X ES 24 #[.slice A' 32 c'] ∧ Rd X A' 32 c' ys ∧ fitF sd h k (l - k) (nT h n k) ys xs = R
theorem FI.own {w wL : World} {sd : List UInt8} {h l n ER ES bn : Nat} {R : List UInt8} (hw : w.heap.size ≤ wL.heap.size) : OwnFrom wL.heap.size (fun (s : Nat × Nat) X => FI w wL sd h l n ER ES bn R s.1 X) := by
  intro s X Y row hs hg hr
  have hc : CK X Y := CK.of hg fun r e => (hr r e).2
  obtain ⟨A, c, m, xs, A', c', ys, h1, h2, h3, h4, h5, h6⟩ := hs.got
  exact ⟨hs.ke.trans (KX.grown hg hs.ke.size fun r e => (hr r e).1), hs.bel.grown hg hs.bel.size (fun j e => Nat.le_trans hw (hr j e).1), hc.bk hs.box, A, c, m, xs, A', c', ys, hc.bk h1, h2, h3, hc.bk h4, hc.rd h5, h6⟩
end Go.Proofs.YtkpfppiedadmbaaGreatDoor.S16
