/-
  Texts put together: Rnd. No statement is proved here.
-/
import Derived.RangeFuncNested
import Derived.RangeFuncCalls
import Derived.RangeFuncLeaves
import Derived.OwnWalkIn
import Derived.Test.YtnoflgkjdibblaaGreatDoorWa08

/-
  A loop over a function value that hands over rows: what the function value tells of what it hands over may hang on the world. A region that draws its order within a round. No statement is proved here.
-/
namespace Go.Proofs.YtnoflgkjdibblaaGreatDoor.RD
set_option linter.unusedSimpArgs false
set_option linter.unusedVariables false
set_option maxRecDepth 1024
open Go.RowKit

section
variable {P : Program} {ops : Array Oper} {md : Region.Mode} {Q : Exit → Act → World → Prop} {l m : Nat}
theorem calls_in {f : FuncId} {args : Array Value} {w : World} {R : Ending → World → Prop} (h : Calls P f args w R) : CallsIn (Fence.wide.inRound l) m P f args w R := (callsIn_wide.2 h).inRound l
theorem rows_in {row : String} {args : Array Value} {w : World} {R : Value → World → Prop} (h : Rows P row args w R) : RowsIn (Fence.wide.inRound l) m P row args w R := fun c cs _ => by
  obtain ⟨v, w', r, s⟩ := h c cs
  exact ⟨v, w', r, stepsIn_wide.2 s⟩
/-- An operation outside of rounds is one in a round, if it defers nothing. -/
theorem oper_in {o : Oper} {a : Act} {w : World} {K K' : Act → World → Prop} (hd : ∀ c, o.op ≠ .defer c) (hK : ∀ a w, K a w → K' a w) (h : o.wp P a w K Q) : o.wpIn (Fence.wide.inRound l) m P a w K' Q := by
  refine ⟨fun _ _ => trivial, ?_⟩
  rw [Oper.semAt_plain _ _ _ hd]
  unfold Oper.wp at h
  generalize (execOp a.eval o).run P w = r at *
  cases r with
  | ok n w' =>
    cases n <;> simp only [Oper.upon, Oper.uponIn] at h ⊢ <;>
      first
        | exact hK _ _ h
        | exact h.elim
        | exact ⟨fun h => (by simp [Fence.wide] at h), (calls_in h).mono fun e w'' he => by cases e <;> first | exact hK _ _ he | exact he⟩
        | exact ⟨fun h => (by simp [Fence.wide] at h), (rows_in h).mono fun _ _ he => hK _ _ he⟩
  | halt x w' => cases x <;> simp only [Oper.upon, Oper.uponIn] at h ⊢ <;> exact h
/-- A region that draws its order, likewise. -/
theorem any_in (hq : ¬ LetsOut Q) (hd : ∀ (i : Nat) (o : Oper), ops[i]? = some o → ∀ c, o.op ≠ .defer c) : ∀ (fuel : Nat) (listed : Array Bool) (a : Act) (w : World), wpAny P md ops Q fuel listed a w → wpAnyIn (Fence.wide.inRound l) m P md ops Q fuel listed a w
  | 0, listed, a, w, h => h
  | fuel + 1, listed, a, w, h => by
    refine ⟨h.1, fun i hi => ?_⟩
    have h1 := h.2 i hi
    unfold wpOp at h1
    unfold wpOpIn
    cases ho : ops[i]? with
    | none =>
      rw [ho] at h1
      exact any_in hq hd fuel _ _ _ h1
    | some o =>
      rw [ho] at h1
      simp only at h1 ⊢
      by_cases hw : Region.wanted o (yielded ops a.tmps) = true
      · rw [if_pos hw] at h1 ⊢
        rcases h1 with h1 | h1
        · exact oper_in (hd i o ho) (fun a w => any_in hq hd fuel _ a w) h1
        · exact absurd h1.2 hq
      · rw [if_neg hw] at h1 ⊢
        exact ⟨fun _ _ => trivial, any_in hq hd fuel _ _ _ h1⟩
def noDefer (ops : Array Oper) : Bool := ops.all fun o => match o.op with | .defer _ => false | _ => true
theorem noDefer_spec (h : noDefer ops = true) : ∀ (i : Nat) (o : Oper), ops[i]? = some o → ∀ c, o.op ≠ .defer c := by
  intro i o ho c hc
  have := Array.all_eq_true_iff_forall_mem.1 h o (Array.mem_of_getElem? ho)
  rw [hc] at this
  cases this
theorem region_in {id : Nat} {a : Act} {w : World} {l' : List Oper} (hm : P.follows .mixedOrders = true) (hq : ¬ LetsOut Q) (hd : noDefer l'.toArray = true)
    (h : wpAny P .any l'.toArray Q l'.toArray.size (Array.replicate l'.toArray.size false) a w.drew) : (Code.region id l'.toArray true).wpIn (Fence.wide.inRound l) m P Q a w :=
  wpIn_region_any hm (any_in hq (noDefer_spec hd) _ _ _ _ h)
end

/-- What a function value that hands over rows does: of the k-th it tells what G says of it in that world. -/
def ItW {β : Type} (P : Program) (m gf : Nat) (lb : Array Value) (encs : Nat → β → Array Value) (G : Nat → β → World → Prop) (N : Nat) (ok : World → Prop) : Prop :=
  ∀ (l : Nat) (J : Nat → World → Prop) (W : World), (∀ k X Y, J k X → Below X.heap.size X Y → J k Y) → (∀ k X, J k X → ok X) →
    (∀ k x X, J k X → k < N → G k x X → YieldAt Fence.wide (m - 1) P l (encs k x) X fun e X' => e = .returned (.bool true) ∧ J (k + 1) X') → J 0 W →
    CallsIn Fence.wide m P gf (#[.func (.yield l) #[] #[]] ++ lb) W fun e W' => (∃ v, e = .returned v) ∧ J N W'
theorem below_grown {X Y : World} (h : Below X.heap.size X Y) : X.grownBy Y none := ⟨h.os, h.tape, h.output, h.size, fun k hk _ => h.block k hk⟩
theorem below_at {X Y : World} {k : Nat} {o : Obj} (h : Below X.heap.size X Y) (hk : X.heap[k]? = some o) : Y.heap[k]? = some o := (h.block k (Array.getElem?_eq_some_iff.1 hk).1).trans hk
theorem range_rounds {β : Type} {P : Program} {m gf N : Nat} {lb : Array Value} {encs : Nat → β → Array Value} {G : Nat → β → World → Prop} {ok : World → Prop} {g : Operand} {ps : Array Tmp} {assign body : Code} {Q : Exit → Act → World → Prop} {a : Act} {w : World}
    (hg : a.eval g = .func (.func gf) #[] lb) (eg : ∀ args w, (callFunc gf args).run P w = .ok (.enter gf args) w) (it : ItW P (m - 1) gf lb encs G N ok) (hps : ∀ k x, (encs k x).size = ps.size)
    (I : Nat → World → Prop) (hI : OwnFrom w.heap.size I) (hok : ∀ k X, I k X → ok X) (h0 : I 0 w)
    (hG : ∀ k x X l o o', G k x X → w.heap.size ≤ l → X.heap[l]? = some o → o.isCells = false → G k x (X.putObj l o')) (a₁ : Nat → β → Act)
    (hassign : ∀ (l k : Nat) (x : β) (W : World) (K : Act → World → Prop), K (a₁ k x) W →
      assign.wpIn (Fence.wide.inRound l) (m - 1 - 1) P (Exit.then K (fun _ _ _ => False)) { tmps := (ps.zip (encs k x)).foldl (fun t (p, v) => t.setIfInBounds p v) a.tmps, defers := [] } W)
    (hbody : ∀ (l k : Nat) (x : β) (W : World), I k W → k < N → G k x W → body.wpIn (Fence.wide.inRound l) (m - 1 - 1) P (fun e _ W' => e = .normal ∧ KeepsFrom w.heap.size W W' ∧ I (k + 1) W') (a₁ k x) W)
    (hdone : ∀ (D : Nat) (W : World), w.heap.size ≤ D → I N W → W.heap[D]? = some (.deferred (some [])) → Q .normal { a with defers := { target := .collected D, args := #[] } :: a.defers } W) :
    (Code.rangeFunc g ps assign body).wpIn Fence.wide m P Q a w := by
  refine wpIn_rangeFunc fun fn _ => ?_
  obtain ⟨L, hL⟩ : ∃ L : LoopState → Loop, L = fun st => { state := st, pending := none, fn := fn, tmps := a.tmps, params := ps, assign := assign, body := body, defers := w.heap.size } := ⟨_, rfl⟩
  obtain ⟨w1, hw1⟩ : ∃ w1, (w.alloc (.deferred (some []))).alloc (.loop (L .ready)) = w1 := ⟨_, rfl⟩
  refine ⟨w.heap.size + 1, [{ target := .collected w.heap.size, args := #[] }], w1, { target := .fn (.func gf) lb, args := #[.func (.yield (w.heap.size + 1)) #[] #[]] }, w1, gf, #[.func (.yield (w.heap.size + 1)) #[] #[]] ++ lb, w1, ?_, ?_, fun _ _ => trivial, ?_, fun h => (by simp [Fence.wide] at h), ?_⟩
  · rw [← hw1, hL]
    exact run_enterLoop_outer _ _ _ _ _
  · simp only [resolve, hg]
    simp [go_sem]
  · simp [invoke, go_sem, eg]
  · have b1 : w1.heap[w.heap.size + 1]? = some (.loop (L .ready)) := by
      rw [← hw1]
      have := World.alloc_heap_new (w.alloc (.deferred (some []))) (.loop (L .ready))
      rwa [World.size_alloc] at this
    have b2 : w1.heap[w.heap.size]? = some (.deferred (some [])) := by
      rw [← hw1]
      exact (Below.heap_alloc _ _ _ (by simp)).trans (World.alloc_heap_new w _)
    have i1 : I 0 w1 := by
      rw [← hw1]
      exact hI.alloc _ (hI.alloc _ h0)
    clear hw1
    refine (it (w.heap.size + 1) (fun k X => I k X ∧ X.heap[w.heap.size + 1]? = some (.loop (L .ready)) ∧ X.heap[w.heap.size]? = some (.deferred (some []))) w1 ?_ (fun k X h => hok k X h.1) ?_ ⟨i1, b1, b2⟩).mono ?_
    · rintro k X Y ⟨h1, h2, h3⟩ hb
      exact ⟨hI k X Y none h1 (below_grown hb) (fun r e => by cases e), below_at hb h2, below_at hb h3⟩
    · rintro k x X ⟨h1, h2, h3⟩ hk hx
      have hy := run_yield (P := P) (args := encs k x) h2 (by rw [hL]; exact hps k x)
      rw [hL] at hy
      refine ⟨fn, _, assign, body, hy, roundIn_of_wpIn trivial (hassign _ k x X _ ?_)⟩
      clear hy
      refine ⟨_, run_beginRound h2 (by rw [hL]), ?_⟩
      have hlt : w.heap.size + 1 < X.heap.size := (Array.getElem?_eq_some_iff.1 h2).1
      have eL : ({ L .ready with state := .busy } : Loop) = L .busy := by rw [hL]
      rw [eL]
      have c1 : (X.putObj (w.heap.size + 1) (.loop (L .busy))).heap[w.heap.size + 1]? = some (.loop (L .busy)) := World.putObj_heap_same hlt
      have c2 : (X.putObj (w.heap.size + 1) (.loop (L .busy))).heap[w.heap.size]? = some (.deferred (some [])) := (World.putObj_heap_other (by omega)).trans h3
      refine wpIn_mono (hbody _ k x _ (hI.putObj _ h1 (by omega) h2 rfl) hk (hG k x X _ _ _ hx (by omega) h2 rfl)) ?_
      rintro e a' Y ⟨rfl, hk1, hi⟩
      have d1 := hk1.same _ _ (by omega) c1 rfl
      have d2 := hk1.same _ _ (Nat.le_refl _) c2 rfl
      have hr := run_endRound (P := P) none d1
      have eR : ({ L .busy with state := if (none : Option Code).isNone then .ready else .done, pending := none } : Loop) = L .ready := by rw [hL]; rfl
      rw [eR] at hr
      exact ⟨_, _, hr, rfl, hI.putObj _ hi (by omega) d1 rfl, World.putObj_heap_same (Array.getElem?_eq_some_iff.1 d1).1, (World.putObj_heap_other (by omega)).trans d2⟩
    · rintro e Y ⟨⟨v, rfl⟩, h1, h2, h3⟩
      have hr := run_endLoop (P := P) h2 (by rw [hL]; simp)
      have eP : (L .ready).pending = none := by rw [hL]
      rw [eP] at hr
      exact ⟨none, _, hr, hdone _ _ (Nat.le_refl _) (hI.putObj _ h1 (by omega) h2 rfl) ((World.putObj_heap_other (by omega)).trans h3)⟩

/-! A region gone through by hand: what yields in each world that meets S is taken first; then whichever may come up. -/
def nthO : List Oper → Nat → Option Oper
  | [], _ => none
  | o :: _, 0 => some o
  | _ :: l, n + 1 => nthO l n
theorem nthO_eq : ∀ (l : List Oper) (i : Nat), l.toArray[i]? = nthO l i
  | [], i => by simp [nthO]
  | o :: l, 0 => by simp [nthO]
  | o :: l, n + 1 => by
    have := nthO_eq l n
    simpa [nthO] using this
section
variable {P : Program} {md : Region.Mode} {Q : Exit → Act → World → Prop} {S : World → Prop} {l : List Oper} {fuel : Nat} {L : Array Bool} {a : Act} {w : World} {o : Oper}
theorem h_begin (S : World → Prop) (n : Nat) {id r m : Nat} (hm : P.follows .mixedOrders = true) (hq : ¬ LetsOut Q) (hd : noDefer l.toArray = true) (hn : l.toArray.size = n) (h : wpAnyH P .any l.toArray Q S n (Array.replicate n false) a w.drew) : (Code.region id l.toArray true).wpIn (Fence.wide.inRound r) m P Q a w := by
  subst hn
  exact region_in hm hq hd (wpAny_of_held _ _ _ _ h)
theorem h_take (i : Nat) (v : Value) (hi : nthO l i = some o) (hs : Region.noSelect l.toArray = true) (hf : Region.free md l.toArray L i = true) (hr : (Region.ready md l.toArray L).contains i = true)
    (hQ : ∀ c a w, Q (.panic c) (a.put o.dst v) w → Q (.panic c) a w) (hw : Region.wanted o (yielded l.toArray a.tmps) = true) (hS : S w) (hx : ∀ X, S X → (execOp a.eval o).run P X = .ok (.value v) X)
    (h : wpAnyH P md l.toArray Q S fuel (L.setIfInBounds i true) (a.put o.dst v) w) : wpAnyH P md l.toArray Q S (fuel + 1) L a w :=
  wpAnyH_take ((nthO_eq l i).trans hi) hs hf hr hQ (.inl ⟨hw, hx⟩) hS h
theorem h_any (rs : List Nat) (hr : Region.ready md l.toArray L = rs) (hne : rs ≠ []) (h : ∀ i ∈ rs, wpOp P l.toArray Q i (fun a' w' => S w' ∧ wpAnyH P md l.toArray Q S fuel (L.setIfInBounds i true) a' w') a w) : wpAnyH P md l.toArray Q S (fuel + 1) L a w :=
  wpAnyH_all hr hne h
theorem one_of {i : Nat} {p : Nat → Prop} (h : p i) : ∀ j ∈ [i], p j := by simpa using h
theorem two_of {i j : Nat} {p : Nat → Prop} (h : p i) (h' : p j) : ∀ k ∈ [i, j], p k := by simpa using ⟨h, h'⟩
/-- One of them has come up. -/
theorem h_op {i : Nat} {K : Act → World → Prop} (hi : nthO l i = some o) (h : if Region.wanted o (yielded l.toArray a.tmps) = true then o.wp P a w K Q else K (a.put o.dst undef) w) : wpOp P l.toArray Q i K a w := by
  unfold wpOp
  rw [nthO_eq, hi]
  simp only
  by_cases hw : Region.wanted o (yielded l.toArray a.tmps) = true
  · rw [if_pos hw] at h ⊢
    exact .inl h
  · rw [if_neg hw] at h ⊢
    exact h
theorem h_run {i : Nat} {K : Act → World → Prop} (v : Value) (w' : World) (hi : nthO l i = some o) (hw : Region.wanted o (yielded l.toArray a.tmps) = true) (hx : (execOp a.eval o).run P w = .ok (.value v) w') (h : K (a.put o.dst v) w') : wpOp P l.toArray Q i K a w :=
  h_op hi (by rw [if_pos hw]; unfold Oper.wp; rw [hx]; exact h)
theorem h_skip {i : Nat} {K : Act → World → Prop} (w' : World) (hi : nthO l i = some o) (hw : Region.wanted o (yielded l.toArray a.tmps) = true) (hx : (execOp a.eval o).run P w = .ok .skip w') (h : K (a.put o.dst undef) w') : wpOp P l.toArray Q i K a w :=
  h_op hi (by rw [if_pos hw]; unfold Oper.wp; rw [hx]; exact h)
theorem h_call {i : Nat} {K : Act → World → Prop} (f : FuncId) (args : Array Value) (hi : nthO l i = some o) (hw : Region.wanted o (yielded l.toArray a.tmps) = true) (hx : (execOp a.eval o).run P w = .ok (.enter f args) w) (h : Calls P f args w fun e w' => ∃ v, e = .returned v ∧ K (a.put o.dst v) w') : wpOp P l.toArray Q i K a w :=
  h_op hi (by
    rw [if_pos hw]
    unfold Oper.wp
    rw [hx]
    refine h.mono ?_
    rintro e w' ⟨v, rfl, h⟩
    exact h)
theorem h_done {n : Nat} (hr : Region.ready md l.toArray L = []) (h : Q .normal a w) : wpAnyH P md l.toArray Q S n L a w := wpAnyH_done hr h n
end
/-- What is known of cells alone abides where what is no cells turns. -/
structure CK (X Y : World) : Prop where
  size : X.heap.size ≤ Y.heap.size
  same : ∀ (k : Nat) (o : Obj), X.heap[k]? = some o → o.isCells = true → Y.heap[k]? = some o
theorem CK.of {X Y : World} {row : Option Nat} (hg : X.grownBy Y row) (hr : ∀ r, row = some r → ∃ o : Obj, X.heap[r]? = some o ∧ o.isCells = false) : CK X Y :=
  ⟨hg.size, fun k o hk ho => (hg.block k (Array.getElem?_eq_some_iff.1 hk).1 fun e => by
    obtain ⟨o', h1, h2⟩ := hr k e.symm
    rw [hk] at h1
    cases h1
    rw [ho] at h2
    cases h2).trans hk⟩
theorem CK.putObj {X : World} {l : Nat} {o o' : Obj} (hl : X.heap[l]? = some o) (ho : o.isCells = false) : CK X (X.putObj l o') :=
  CK.of (row := some l) (grownBy_putObj' X l o') fun r e => by cases e; exact ⟨o, hl, ho⟩
theorem cells_of {X : World} {p : Addr} {v : Value} (h : X.cell? p = some v) : ∃ o, X.heap[p.block]? = some o ∧ o.isCells = true := by
  unfold World.cell? at h
  cases ho : X.heap[p.block]? with
  | none => rw [ho] at h; cases h
  | some o =>
    rw [ho] at h
    cases o <;> first | exact ⟨_, rfl, rfl⟩ | cases h
theorem CK.cell {X Y : World} (h : CK X Y) {p : Addr} {v : Value} (hp : X.cell? p = some v) : Y.cell? p = some v := by
  obtain ⟨o, h1, h2⟩ := cells_of hp
  exact (World.cell?_of_block ((h.same _ o h1 h2).trans h1.symm)).trans hp
theorem CK.rd {X Y : World} (h : CK X Y) {A : Option Addr} {n c : Nat} {xs : List UInt8} (hr : Rd X A n c xs) : Rd Y A n c xs := by
  refine ⟨hr.len, hr.cap, hr.max, hr.nil, fun hn => ?_⟩
  obtain ⟨b, off, rfl, hb, hc⟩ := hr.at_ hn
  refine ⟨b, off, rfl, Nat.lt_of_lt_of_le hb h.size, fun j hj => ?_⟩
  exact h.cell (hc j hj)
theorem CK.bk {X Y : World} (h : CK X Y) {g : Nat} {t : TypeId} {cs : Array Value} (hb : Bk X g t cs) : Bk Y g t cs := h.same _ _ hb rfl
theorem CK.own {X Y : World} (h : CK X Y) {B e size n : Nat} {v : Value} {xs : List Value} (ho : X.ownsRow B e size v n xs) : Y.ownsRow B e size v n xs := by
  refine ⟨ho.1, ?_⟩
  rcases ho.2 with h1 | ⟨b, cap, cur, h1, h2, h3, h4⟩
  · exact .inl h1
  · exact .inr ⟨b, cap, cur, h1, h2, h.same _ _ h3 rfl, h4⟩
end Go.Proofs.YtnoflgkjdibblaaGreatDoor.RD
