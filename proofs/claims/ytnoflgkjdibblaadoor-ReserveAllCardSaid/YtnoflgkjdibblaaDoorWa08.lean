/-
  Texts put together: Rnd, DkA, DkB, DkC, DkD, DkE, DkF, DkG, OpenA, Open. No statement is proved here.
-/
import Derived.RangeFuncNested
import Derived.RangeFuncCalls
import Derived.RangeFuncLeaves
import Derived.OwnWalkIn
import Derived.Test.YtnoflgkjdibblaaDoorWa07
import Derived.Test.YtnoflgkjdibblaaDoorWa06
import Derived.Deep.CutRange
import Derived.Test.YtnoflgkjdibblaaDoorRows
import Derived.ProofKit
import Derived.OpenShut
import Derived.ShutString
import Derived.ChangeOld
import Derived.Below
import Derived.Test.YtnoflgkjdibblaaDoorWa01

/-
  A loop over a function value that hands over rows: what the function value tells of what it hands over may hang on the world. A region that draws its order within a round. No statement is proved here.
-/
namespace Go.Proofs.YtnoflgkjdibblaaDoor.RD
set_option linter.unusedSimpArgs false
set_option linter.unusedVariables false
set_option maxRecDepth 1024
open Go.RowKit

section
variable {P : Program} {ops : Array Oper} {md : Region.Mode} {Q : Exit → Act → World → Prop} {l m : Nat}
theorem calls_in {f : FuncId} {args : Array Value} {w : World} {R : Ending → World → Prop} (h : Calls P f args w R) : CallsIn (Fence.wide.inRound l) m P f args w R := (callsIn_wide.2 h).inRound l
theorem rows_in {row : String} {args : Array Value} {w : World} {R : Value → World → Prop} (h : Rows P row args w R) : RowsIn (Fence.wide.inRound l) m P row args w R := fun c cs _ => by
  obtain ⟨v, w', r, s⟩ := h c cs
  exact ⟨v, w', r, stepsIn_wide.2 s⟩
/-- An operation outside of rounds is one in a round, if it defers nothing. -/
theorem oper_in {o : Oper} {a : Act} {w : World} {K K' : Act → World → Prop} (hd : ∀ c, o.op ≠ .defer c) (hK : ∀ a w, K a w → K' a w) (h : o.wp P a w K Q) : o.wpIn (Fence.wide.inRound l) m P a w K' Q := by
  refine ⟨fun _ _ => trivial, ?_⟩
  rw [Oper.semAt_plain _ _ _ hd]
  unfold Oper.wp at h
  generalize (execOp a.eval o).run P w = r at *
  cases r with
  | ok n w' =>
    cases n <;> simp only [Oper.upon, Oper.uponIn] at h ⊢ <;>
      first
        | exact hK _ _ h
        | exact h.elim
        | exact ⟨fun h => (by simp [Fence.wide] at h), (calls_in h).mono fun e w'' he => by cases e <;> first | exact hK _ _ he | exact he⟩
        | exact ⟨fun h => (by simp [Fence.wide] at h), (rows_in h).mono fun _ _ he => hK _ _ he⟩
  | halt x w' => cases x <;> simp only [Oper.upon, Oper.uponIn] at h ⊢ <;> exact h
/-- A region that draws its order, likewise. -/
theorem any_in (hq : ¬ LetsOut Q) (hd : ∀ (i : Nat) (o : Oper), ops[i]? = some o → ∀ c, o.op ≠ .defer c) : ∀ (fuel : Nat) (listed : Array Bool) (a : Act) (w : World), wpAny P md ops Q fuel listed a w → wpAnyIn (Fence.wide.inRound l) m P md ops Q fuel listed a w
  | 0, listed, a, w, h => h
  | fuel + 1, listed, a, w, h => by
    refine ⟨h.1, fun i hi => ?_⟩
    have h1 := h.2 i hi
    unfold wpOp at h1
    unfold wpOpIn
    cases ho : ops[i]? with
    | none =>
      rw [ho] at h1
      exact any_in hq hd fuel _ _ _ h1
    | some o =>
      rw [ho] at h1
      simp only at h1 ⊢
      by_cases hw : Region.wanted o (yielded ops a.tmps) = true
      · rw [if_pos hw] at h1 ⊢
        rcases h1 with h1 | h1
        · exact oper_in (hd i o ho) (fun a w => any_in hq hd fuel _ a w) h1
        · exact absurd h1.2 hq
      · rw [if_neg hw] at h1 ⊢
        exact ⟨fun _ _ => trivial, any_in hq hd fuel _ _ _ h1⟩
def noDefer (ops : Array Oper) : Bool := ops.all fun o => match o.op with | .defer _ => false | _ => true
theorem noDefer_spec (h : noDefer ops = true) : ∀ (i : Nat) (o : Oper), ops[i]? = some o → ∀ c, o.op ≠ .defer c := by
  intro i o ho c hc
  have := Array.all_eq_true_iff_forall_mem.1 h o (Array.mem_of_getElem? ho)
  rw [hc] at this
  cases this
theorem region_in {id : Nat} {a : Act} {w : World} {l' : List Oper} (hm : P.follows .mixedOrders = true) (hq : ¬ LetsOut Q) (hd : noDefer l'.toArray = true)
    (h : wpAny P .any l'.toArray Q l'.toArray.size (Array.replicate l'.toArray.size false) a w.drew) : (Code.region id l'.toArray true).wpIn (Fence.wide.inRound l) m P Q a w :=
  wpIn_region_any hm (any_in hq (noDefer_spec hd) _ _ _ _ h)
end

/-- What a function value that hands over rows does: of the k-th it tells what G says of it in that world. -/
def ItW {β : Type} (P : Program) (m gf : Nat) (lb : Array Value) (encs : Nat → β → Array Value) (G : Nat → β → World → Prop) (N : Nat) (ok : World → Prop) : Prop :=
  ∀ (l : Nat) (J : Nat → World → Prop) (W : World), (∀ k X Y, J k X → Below X.heap.size X Y → J k Y) → (∀ k X, J k X → ok X) →
    (∀ k x X, J k X → k < N → G k x X → YieldAt Fence.wide (m - 1) P l (encs k x) X fun e X' => e = .returned (.bool true) ∧ J (k + 1) X') → J 0 W →
    CallsIn Fence.wide m P gf (#[.func (.yield l) #[] #[]] ++ lb) W fun e W' => (∃ v, e = .returned v) ∧ J N W'
theorem below_grown {X Y : World} (h : Below X.heap.size X Y) : X.grownBy Y none := ⟨h.os, h.tape, h.output, h.size, fun k hk _ => h.block k hk⟩
theorem below_at {X Y : World} {k : Nat} {o : Obj} (h : Below X.heap.size X Y) (hk : X.heap[k]? = some o) : Y.heap[k]? = some o := (h.block k (Array.getElem?_eq_some_iff.1 hk).1).trans hk
theorem range_rounds {β : Type} {P : Program} {m gf N : Nat} {lb : Array Value} {encs : Nat → β → Array Value} {G : Nat → β → World → Prop} {ok : World → Prop} {g : Operand} {ps : Array Tmp} {assign body : Code} {Q : Exit → Act → World → Prop} {a : Act} {w : World}
    (hg : a.eval g = .func (.func gf) #[] lb) (eg : ∀ args w, (callFunc gf args).run P w = .ok (.enter gf args) w) (it : ItW P (m - 1) gf lb encs G N ok) (hps : ∀ k x, (encs k x).size = ps.size)
    (I : Nat → World → Prop) (hI : OwnFrom w.heap.size I) (hok : ∀ k X, I k X → ok X) (h0 : I 0 w)
    (hG : ∀ k x X l o o', G k x X → w.heap.size ≤ l → X.heap[l]? = some o → o.isCells = false → G k x (X.putObj l o')) (a₁ : Nat → β → Act)
    (hassign : ∀ (l k : Nat) (x : β) (W : World) (K : Act → World → Prop), K (a₁ k x) W →
      assign.wpIn (Fence.wide.inRound l) (m - 1 - 1) P (Exit.then K (fun _ _ _ => False)) { tmps := (ps.zip (encs k x)).foldl (fun t (p, v) => t.setIfInBounds p v) a.tmps, defers := [] } W)
    (hbody : ∀ (l k : Nat) (x : β) (W : World), I k W → k < N → G k x W → body.wpIn (Fence.wide.inRound l) (m - 1 - 1) P (fun e _ W' => e = .normal ∧ KeepsFrom w.heap.size W W' ∧ I (k + 1) W') (a₁ k x) W)
    (hdone : ∀ (D : Nat) (W : World), w.heap.size ≤ D → I N W → W.heap[D]? = some (.deferred (some [])) → Q .normal { a with defers := { target := .collected D, args := #[] } :: a.defers } W) :
    (Code.rangeFunc g ps assign body).wpIn Fence.wide m P Q a w := by
  refine wpIn_rangeFunc fun fn _ => ?_
  obtain ⟨L, hL⟩ : ∃ L : LoopState → Loop, L = fun st => { state := st, pending := none, fn := fn, tmps := a.tmps, params := ps, assign := assign, body := body, defers := w.heap.size } := ⟨_, rfl⟩
  obtain ⟨w1, hw1⟩ : ∃ w1, (w.alloc (.deferred (some []))).alloc (.loop (L .ready)) = w1 := ⟨_, rfl⟩
  refine ⟨w.heap.size + 1, [{ target := .collected w.heap.size, args := #[] }], w1, { target := .fn (.func gf) lb, args := #[.func (.yield (w.heap.size + 1)) #[] #[]] }, w1, gf, #[.func (.yield (w.heap.size + 1)) #[] #[]] ++ lb, w1, ?_, ?_, fun _ _ => trivial, ?_, fun h => (by simp [Fence.wide] at h), ?_⟩
  · rw [← hw1, hL]
    exact run_enterLoop_outer _ _ _ _ _
  · simp only [resolve, hg]
    simp [go_sem]
  · simp [invoke, go_sem, eg]
  · have b1 : w1.heap[w.heap.size + 1]? = some (.loop (L .ready)) := by
      rw [← hw1]
      have := World.alloc_heap_new (w.alloc (.deferred (some []))) (.loop (L .ready))
      rwa [World.size_alloc] at this
    have b2 : w1.heap[w.heap.size]? = some (.deferred (some [])) := by
      rw [← hw1]
      exact (Below.heap_alloc _ _ _ (by simp)).trans (World.alloc_heap_new w _)
    have i1 : I 0 w1 := by
      rw [← hw1]
      exact hI.alloc _ (hI.alloc _ h0)
    clear hw1
    refine (it (w.heap.size + 1) (fun k X => I k X ∧ X.heap[w.heap.size + 1]? = some (.loop (L .ready)) ∧ X.heap[w.heap.size]? = some (.deferred (some []))) w1 ?_ (fun k X h => hok k X h.1) ?_ ⟨i1, b1, b2⟩).mono ?_
    · rintro k X Y ⟨h1, h2, h3⟩ hb
      exact ⟨hI k X Y none h1 (below_grown hb) (fun r e => by cases e), below_at hb h2, below_at hb h3⟩
    · rintro k x X ⟨h1, h2, h3⟩ hk hx
      have hy := run_yield (P := P) (args := encs k x) h2 (by rw [hL]; exact hps k x)
      rw [hL] at hy
      refine ⟨fn, _, assign, body, hy, roundIn_of_wpIn trivial (hassign _ k x X _ ?_)⟩
      clear hy
      refine ⟨_, run_beginRound h2 (by rw [hL]), ?_⟩
      have hlt : w.heap.size + 1 < X.heap.size := (Array.getElem?_eq_some_iff.1 h2).1
      have eL : ({ L .ready with state := .busy } : Loop) = L .busy := by rw [hL]
      rw [eL]
      have c1 : (X.putObj (w.heap.size + 1) (.loop (L .busy))).heap[w.heap.size + 1]? = some (.loop (L .busy)) := World.putObj_heap_same hlt
      have c2 : (X.putObj (w.heap.size + 1) (.loop (L .busy))).heap[w.heap.size]? = some (.deferred (some [])) := (World.putObj_heap_other (by omega)).trans h3
      refine wpIn_mono (hbody _ k x _ (hI.putObj _ h1 (by omega) h2 rfl) hk (hG k x X _ _ _ hx (by omega) h2 rfl)) ?_
      rintro e a' Y ⟨rfl, hk1, hi⟩
      have d1 := hk1.same _ _ (by omega) c1 rfl
      have d2 := hk1.same _ _ (Nat.le_refl _) c2 rfl
      have hr := run_endRound (P := P) none d1
      have eR : ({ L .busy with state := if (none : Option Code).isNone then .ready else .done, pending := none } : Loop) = L .ready := by rw [hL]; rfl
      rw [eR] at hr
      exact ⟨_, _, hr, rfl, hI.putObj _ hi (by omega) d1 rfl, World.putObj_heap_same (Array.getElem?_eq_some_iff.1 d1).1, (World.putObj_heap_other (by omega)).trans d2⟩
    · rintro e Y ⟨⟨v, rfl⟩, h1, h2, h3⟩
      have hr := run_endLoop (P := P) h2 (by rw [hL]; simp)
      have eP : (L .ready).pending = none := by rw [hL]
      rw [eP] at hr
      exact ⟨none, _, hr, hdone _ _ (Nat.le_refl _) (hI.putObj _ h1 (by omega) h2 rfl) ((World.putObj_heap_other (by omega)).trans h3)⟩

/-! A region gone through by hand: what yields in each world that meets S is taken first; then whichever may come up. -/
def nthO : List Oper → Nat → Option Oper
  | [], _ => none
  | o :: _, 0 => some o
  | _ :: l, n + 1 => nthO l n
theorem nthO_eq : ∀ (l : List Oper) (i : Nat), l.toArray[i]? = nthO l i
  | [], i => by simp [nthO]
  | o :: l, 0 => by simp [nthO]
  | o :: l, n + 1 => by
    have := nthO_eq l n
    simpa [nthO] using this
section
variable {P : Program} {md : Region.Mode} {Q : Exit → Act → World → Prop} {S : World → Prop} {l : List Oper} {fuel : Nat} {L : Array Bool} {a : Act} {w : World} {o : Oper}
theorem h_begin (S : World → Prop) (n : Nat) {id r m : Nat} (hm : P.follows .mixedOrders = true) (hq : ¬ LetsOut Q) (hd : noDefer l.toArray = true) (hn : l.toArray.size = n) (h : wpAnyH P .any l.toArray Q S n (Array.replicate n false) a w.drew) : (Code.region id l.toArray true).wpIn (Fence.wide.inRound r) m P Q a w := by
  subst hn
  exact region_in hm hq hd (wpAny_of_held _ _ _ _ h)
theorem h_take (i : Nat) (v : Value) (hi : nthO l i = some o) (hs : Region.noSelect l.toArray = true) (hf : Region.free md l.toArray L i = true) (hr : (Region.ready md l.toArray L).contains i = true)
    (hQ : ∀ c a w, Q (.panic c) (a.put o.dst v) w → Q (.panic c) a w) (hw : Region.wanted o (yielded l.toArray a.tmps) = true) (hS : S w) (hx : ∀ X, S X → (execOp a.eval o).run P X = .ok (.value v) X)
    (h : wpAnyH P md l.toArray Q S fuel (L.setIfInBounds i true) (a.put o.dst v) w) : wpAnyH P md l.toArray Q S (fuel + 1) L a w :=
  wpAnyH_take ((nthO_eq l i).trans hi) hs hf hr hQ (.inl ⟨hw, hx⟩) hS h
theorem h_any (rs : List Nat) (hr : Region.ready md l.toArray L = rs) (hne : rs ≠ []) (h : ∀ i ∈ rs, wpOp P l.toArray Q i (fun a' w' => S w' ∧ wpAnyH P md l.toArray Q S fuel (L.setIfInBounds i true) a' w') a w) : wpAnyH P md l.toArray Q S (fuel + 1) L a w :=
  wpAnyH_all hr hne h
theorem one_of {i : Nat} {p : Nat → Prop} (h : p i) : ∀ j ∈ [i], p j := by simpa using h
theorem two_of {i j : Nat} {p : Nat → Prop} (h : p i) (h' : p j) : ∀ k ∈ [i, j], p k := by simpa using ⟨h, h'⟩
/-- One of them has come up. -/
theorem h_op {i : Nat} {K : Act → World → Prop} (hi : nthO l i = some o) (h : if Region.wanted o (yielded l.toArray a.tmps) = true then o.wp P a w K Q else K (a.put o.dst undef) w) : wpOp P l.toArray Q i K a w := by
  unfold wpOp
  rw [nthO_eq, hi]
  simp only
  by_cases hw : Region.wanted o (yielded l.toArray a.tmps) = true
  · rw [if_pos hw] at h ⊢
    exact .inl h
  · rw [if_neg hw] at h ⊢
    exact h
theorem h_run {i : Nat} {K : Act → World → Prop} (v : Value) (w' : World) (hi : nthO l i = some o) (hw : Region.wanted o (yielded l.toArray a.tmps) = true) (hx : (execOp a.eval o).run P w = .ok (.value v) w') (h : K (a.put o.dst v) w') : wpOp P l.toArray Q i K a w :=
  h_op hi (by rw [if_pos hw]; unfold Oper.wp; rw [hx]; exact h)
theorem h_skip {i : Nat} {K : Act → World → Prop} (w' : World) (hi : nthO l i = some o) (hw : Region.wanted o (yielded l.toArray a.tmps) = true) (hx : (execOp a.eval o).run P w = .ok .skip w') (h : K (a.put o.dst undef) w') : wpOp P l.toArray Q i K a w :=
  h_op hi (by rw [if_pos hw]; unfold Oper.wp; rw [hx]; exact h)
theorem h_call {i : Nat} {K : Act → World → Prop} (f : FuncId) (args : Array Value) (hi : nthO l i = some o) (hw : Region.wanted o (yielded l.toArray a.tmps) = true) (hx : (execOp a.eval o).run P w = .ok (.enter f args) w) (h : Calls P f args w fun e w' => ∃ v, e = .returned v ∧ K (a.put o.dst v) w') : wpOp P l.toArray Q i K a w :=
  h_op hi (by
    rw [if_pos hw]
    unfold Oper.wp
    rw [hx]
    refine h.mono ?_
    rintro e w' ⟨v, rfl, h⟩
    exact h)
theorem h_done {n : Nat} (hr : Region.ready md l.toArray L = []) (h : Q .normal a w) : wpAnyH P md l.toArray Q S n L a w := wpAnyH_done hr h n
end
/-- What is known of cells alone abides where what is no cells turns. -/
structure CK (X Y : World) : Prop where
  size : X.heap.size ≤ Y.heap.size
  same : ∀ (k : Nat) (o : Obj), X.heap[k]? = some o → o.isCells = true → Y.heap[k]? = some o
theorem CK.of {X Y : World} {row : Option Nat} (hg : X.grownBy Y row) (hr : ∀ r, row = some r → ∃ o : Obj, X.heap[r]? = some o ∧ o.isCells = false) : CK X Y :=
  ⟨hg.size, fun k o hk ho => (hg.block k (Array.getElem?_eq_some_iff.1 hk).1 fun e => by
    obtain ⟨o', h1, h2⟩ := hr k e.symm
    rw [hk] at h1
    cases h1
    rw [ho] at h2
    cases h2).trans hk⟩
theorem CK.putObj {X : World} {l : Nat} {o o' : Obj} (hl : X.heap[l]? = some o) (ho : o.isCells = false) : CK X (X.putObj l o') :=
  CK.of (row := some l) (grownBy_putObj' X l o') fun r e => by cases e; exact ⟨o, hl, ho⟩
theorem cells_of {X : World} {p : Addr} {v : Value} (h : X.cell? p = some v) : ∃ o, X.heap[p.block]? = some o ∧ o.isCells = true := by
  unfold World.cell? at h
  cases ho : X.heap[p.block]? with
  | none => rw [ho] at h; cases h
  | some o =>
    rw [ho] at h
    cases o <;> first | exact ⟨_, rfl, rfl⟩ | cases h
theorem CK.cell {X Y : World} (h : CK X Y) {p : Addr} {v : Value} (hp : X.cell? p = some v) : Y.cell? p = some v := by
  obtain ⟨o, h1, h2⟩ := cells_of hp
  exact (World.cell?_of_block ((h.same _ o h1 h2).trans h1.symm)).trans hp
theorem CK.rd {X Y : World} (h : CK X Y) {A : Option Addr} {n c : Nat} {xs : List UInt8} (hr : Rd X A n c xs) : Rd Y A n c xs := by
  refine ⟨hr.len, hr.cap, hr.max, hr.nil, fun hn => ?_⟩
  obtain ⟨b, off, rfl, hb, hc⟩ := hr.at_ hn
  refine ⟨b, off, rfl, Nat.lt_of_lt_of_le hb h.size, fun j hj => ?_⟩
  exact h.cell (hc j hj)
theorem CK.bk {X Y : World} (h : CK X Y) {g : Nat} {t : TypeId} {cs : Array Value} (hb : Bk X g t cs) : Bk Y g t cs := h.same _ _ hb rfl
theorem CK.own {X Y : World} (h : CK X Y) {B e size n : Nat} {v : Value} {xs : List Value} (ho : X.ownsRow B e size v n xs) : Y.ownsRow B e size v n xs := by
  refine ⟨ho.1, ?_⟩
  rcases ho.2 with h1 | ⟨b, cap, cur, h1, h2, h3, h4⟩
  · exact .inl h1
  · exact .inr ⟨b, cap, cur, h1, h2, h.same _ _ h3 rfl, h4⟩
end Go.Proofs.YtnoflgkjdibblaaDoor.RD

/-
  The document's own disk: what is written. No statement is proved here. (Written by gendka.py.)
-/
namespace Go.Proofs.YtnoflgkjdibblaaDoor.S19
set_option linter.unusedSimpArgs false
set_option linter.unusedVariables false
set_option maxRecDepth 4096
open Go.RowKit

/-- append to a row of whole numbers. -/
theorem append_zi {w : World} {ops : Array Oper} {rest : List Oper} {o : Oper} {a : Act} {Q : Exit → Act → World → Prop} (hgd : o.guard = none) (s x : Operand)
    (ho : o.op = .call { callee := .builtin .append, args := #[s, x], argTypes := #[68, 68] })
    (base : Nat) (v : Value) (n : Nat) (xs : List Int) (hs : a.eval s = v) (hown : w.ownsRow base 3 1 v n (zv xs))
    (ad : Addr) (m c : Nat) (ys : List Int) (hx : a.eval x = .slice (some ad) m c) (hr : RI w .i64 (some ad) m c ys) (hb : n + m ≤ 2000000000000) (hbase : base ≤ w.heap.size)
    (h : ∀ v' w', w'.ownsRow base 3 1 v' (n + m) (zv (xs ++ ys)) → w.grownBy w' v.ownBlock → (v'.ownBlock = v.ownBlock ∨ v'.ownBlock = some w.heap.size) → wpList Tryd.prog ops Q rest (a.put o.dst v') w') : wpList Tryd.prog ops Q (o :: rest) a w :=
  wpList_plain hgd fun K hK => by
    have := step_append_zi (ops := ops) (o := o) (a := a) (K := K) (Q := Q) (E := True) (by simp [Region.wanted, hgd]) s x ho base v n xs hs hown ad m c ys hx hr hb hbase (fun v' w' h1 h2 h3 => hK _ _ (h v' w' h1 h2 h3))
    rwa [if_pos (by simp [Region.wanted, hgd])] at this
theorem Tryd.infoBs : (Tryd.prog.info? 25).map (fun i => (i.zero, i.size, i.bytes)) = some (some (.slice none 0 0), 1, 24) := by kernel_rfl
/-- append of one row to rows, at a step. -/
theorem step_append_bs {w : World} {ops : Array Oper} {o : Oper} {a : Act} {K : Act → World → Prop} {Q : Exit → Act → World → Prop} {E : Prop} (hw : Region.wanted o (yielded ops a.tmps) = true) (s x : Operand)
    (ho : o.op = .call { callee := .builtin .append, args := #[s, x], argTypes := #[73, 73] })
    (base : Nat) (v : Value) (n : Nat) (vs : List Value) (hs : a.eval s = v) (hown : w.ownsRow base 25 1 v n vs)
    (b : Nat) (u : Value) (hx : a.eval x = .slice (some ⟨b, 0, none⟩) 1 1) (hu : u.oneCell' = true) (hc : w.cell? ⟨b, 0, none⟩ = some u) (hb : n + 1 ≤ 2000000000000) (hbase : base ≤ w.heap.size)
    (h : ∀ v' w', w'.ownsRow base 25 1 v' (n + 1) (vs ++ [u]) → w.grownBy w' v.ownBlock → (v'.ownBlock = v.ownBlock ∨ v'.ownBlock = some w.heap.size) → K (a.put o.dst v') w') :
    if Region.wanted o (yielded ops a.tmps) = true then Oper.wp Tryd.prog o a w K Q else E := by
  obtain ⟨i0, hi, hz0, hz1, hz2⟩ := info_parts Tryd.infoBs
  rw [if_pos hw]
  obtain ⟨v', w', hrun, h2, h3, _, h5⟩ := run_append_own_at (P := Tryd.prog) w base 73 o.type 25 i0 (.slice none 0 0) 1 24 Tryd.underlying73 hi hz0 hz1 hz2 rfl (by omega) v n vs hown ⟨b, 0, none⟩ 1 1 [u]
      (by simp) (fun j x hj => by
        match j, hj with
        | 0, hj => simp at hj; subst hj; simpa [Addr.add] using hc
        | j + 1, hj => simp at hj) (fun x hx => by simp at hx; rw [hx]; exact hu) (by simp only [maxLen]; omega) (by omega) hbase
  unfold Oper.wp
  simp [execOp, ho, resolve, invoke, builtin, hs, hx, hrun, Result.andThen]
  exact h v' w' h2 h3 h5
theorem pendZ_snoc (p : List (Nat × List UInt8)) (i : Nat) (b : List UInt8) : pendZ (p ++ [(i, b)]) = pendZ p ++ [(i : Int)] := by simp [pendZ]
theorem pendR_snoc (p : List (Nat × List UInt8)) (i : Nat) (b : List UInt8) : pendR (p ++ [(i, b)]) = pendR p ++ [b] := by simp [pendR]
theorem own_ltB {w : World} {B e size n : Nat} {v : Value} {xs : List Value} (h : w.ownsRow B e size v n xs) : ∀ b, v.ownBlock = some b → b < w.heap.size := fun b e => (h.lt b e).2
end Go.Proofs.YtnoflgkjdibblaaDoor.S19

/-
  The document's own disk: what is flushed. No statement is proved here.
-/
namespace Go.Proofs.YtnoflgkjdibblaaDoor.S19
set_option linter.unusedSimpArgs false
set_option linter.unusedVariables false
set_option maxRecDepth 4096
open Go.RowKit

section
variable {N : Nat} {w : World} {h bS n cS : Nat} {G : Nat → Prop} {V : RkV} {sure : List (List UInt8)} {zs : List Int} {rs : List (List UInt8)} {fails : List Int}
/-- One sure row is another one. -/
theorem Rest.setS (r : Rest N w h sure zs rs fails G V) (hS : V.vS = .slice (some ⟨bS, 0, none⟩) sure.length cS) {i : Nat} (hi : i < sure.length) {u : Value} {xs : List UInt8} (hu : Rr w G h V (some u) xs) :
    Rest N (w.setCell ⟨bS, i, none⟩ u) h (sure.set i xs) zs rs fails G { V with ss := V.ss.set i u } ∧ Mv N G w (w.setCell ⟨bS, i, none⟩ u) := by
  have hob : V.vS.ownBlock = some bS := by rw [hS]; rfl
  have hk : ∀ b, b ≠ bS → (w.setCell ⟨bS, i, none⟩ u).heap[b]? = w.heap[b]? := fun b hb => Below.heap_setCell w ⟨bS, i, none⟩ u b hb
  have hs : w.heap.size ≤ (w.setCell ⟨bS, i, none⟩ u).heap.size := by simp
  have hG : G bS := r.inG bS (.inr (.inl hob))
  have hrow : ∀ u' xs', Rr w G h V u' xs' → Rr (w.setCell ⟨bS, i, none⟩ u) G h { V with ss := V.ss.set i u } u' xs' := fun u' xs' hr => by
    have := hr.keep (w' := w.setCell ⟨bS, i, none⟩ u) hs fun b _ h2 _ => hk b fun e => h2 (.inr (.inl (by rw [e]; exact hob)))
    exact this
  have oS := r.oS
  have hsl : V.ss.length = sure.length := by have := oS.1; omega
  refine ⟨⟨?_, fun j hj => ?_, own_keepH r.oW fun b e _ => hk b fun e' => (r.dW b e).2.1 (by rw [e']; exact hob), own_keepH r.oB fun b e _ => hk b fun e' => (r.dB b e).2.1 (by rw [e']; exact hob), fun j hj => hrow _ _ (r.rB j hj),
    r.rF.keep hs fun a h1 h2 _ => hk _ fun e => (r.inF a h1 h2).2 (.inr (.inl (by rw [e]; exact hob))), r.inF, r.inG, fun b hb => ⟨(r.gN b hb).1, Nat.lt_of_lt_of_le (r.gN b hb).2 hs⟩, r.dS, r.dW, r.dB⟩,
    ⟨(Below.refl _ _).setCell (p := ⟨bS, i, none⟩) (r.gN bS hG).1 u, fun b _ hb => hk b (by rintro rfl; exact hb hG)⟩⟩
  · rw [List.length_set]
    rw [hS] at oS ⊢
    exact (oS.stored i u).1
  · rw [List.length_set] at hj
    show Rr _ G h _ (V.ss.set i u)[j]? ((sure.set i xs).getD j [])
    by_cases e : i = j
    · subst e
      rw [List.getElem?_set_self (by omega), List.getD_eq_getElem?_getD, List.getElem?_set_self hi]
      exact hrow _ _ hu
    · rw [List.getElem?_set_ne e, List.getD_eq_getElem?_getD, List.getElem?_set_ne e, ← List.getD_eq_getElem?_getD]
      exact hrow _ _ (r.rS j hj)
/-- Nothing is pending. -/
theorem Rest.nil (r : Rest N w h sure zs rs fails G V) : Rest N w h sure [] [] fails G { V with vW := .slice none 0 0, vB := .slice none 0 0, bs := [] } := by
  have hsp : ∀ b, spine h { V with vW := .slice none 0 0, vB := .slice none 0 0, bs := [] } b → spine h V b := by
    rintro b (e | e | e | e)
    · exact .inl e
    · exact .inr (.inl e)
    · simp [Value.ownBlock] at e
    · simp [Value.ownBlock] at e
  refine ⟨r.oS, fun i hi => ?_, World.ownsRow_nil _ _ _ _, World.ownsRow_nil _ _ _ _, fun i hi => absurd hi (by simp), r.rF, fun a h1 h2 => ⟨(r.inF a h1 h2).1, fun e => (r.inF a h1 h2).2 (hsp _ e)⟩, fun b e => r.inG b (hsp b e), r.gN, ?_, ?_, ?_⟩
  · obtain ⟨A, n, c, h1, h2, h3⟩ := r.rS i hi
    exact ⟨A, n, c, h1, h2, fun a q1 q2 => ⟨(h3 a q1 q2).1, fun e => (h3 a q1 q2).2 (hsp _ e)⟩⟩
  · intro b e
    exact ⟨(r.dS b e).1, by simp [Value.ownBlock], by simp [Value.ownBlock]⟩
  · intro b e
    simp [Value.ownBlock] at e
  · intro b e
    simp [Value.ownBlock] at e
end
theorem laid_snoc (i : Nat) (b : List UInt8) : ∀ (ps : List (Nat × List UInt8)) (s : List (List UInt8)), Dk.laid (ps ++ [(i, b)]) s = (Dk.laid ps s).set i b
  | [], s => rfl
  | p :: ps, s => by rw [List.cons_append, Dk.laid, laid_snoc i b ps, Dk.laid]
theorem laid_take (ps : List (Nat × List UInt8)) (s : List (List UInt8)) (k : Nat) (hk : k < ps.length) : Dk.laid (ps.take (k + 1)) s = (Dk.laid (ps.take k) s).set (ps.getD k (0, [])).1 (ps.getD k (0, [])).2 := by
  have e : ps.take (k + 1) = ps.take k ++ [((ps.getD k (0, [])).1, (ps.getD k (0, [])).2)] := by
    have e0 : ((ps.getD k (0, [])).1, (ps.getD k (0, [])).2) = ps[k] := by simp [List.getD, hk]
    rw [e0, List.take_add_one, List.getElem?_eq_getElem hk]
    rfl
  rw [e, laid_snoc]
end Go.Proofs.YtnoflgkjdibblaaDoor.S19

/-
  The document's own disk: Flush. No statement is proved here. (Written by gendkc.py.)
-/
namespace Go.Proofs.YtnoflgkjdibblaaDoor.S19
set_option linter.unusedSimpArgs false
set_option linter.unusedVariables false
set_option maxRecDepth 4096
open Go.RowKit

end Go.Proofs.YtnoflgkjdibblaaDoor.S19

/-
  The document's own disk: one sure row more; rows that have come. No statement is proved here.
-/
namespace Go.Proofs.YtnoflgkjdibblaaDoor.S19
set_option linter.unusedSimpArgs false
set_option linter.unusedVariables false
set_option maxRecDepth 4096
open Go.RowKit

section
variable {N : Nat} {w wl w' : World} {h : Nat} {G : Nat → Prop} {V : RkV} {sure : List (List UInt8)} {zs : List Int} {rs : List (List UInt8)} {fails : List Int}
theorem Rest.lo (r : Rest N w h sure zs rs fails G V) : N ≤ w.heap.size := by have := r.gN h (r.inG h (.inl rfl)); omega
theorem Rest.fLt (r : Rest N w h sure zs rs fails G V) : ∀ a, 0 < V.nF → V.AF = some a → a.block < w.heap.size := fun a h1 h2 => by
  obtain ⟨b, off, e, hbb, _⟩ := r.rF.at_ h1
  rw [h2] at e
  injection e with e
  subst e
  exact hbb
/-- One sure row more. -/
theorem Rest.pushS (r : Rest N w h sure zs rs fails G V) (hb : Below w.heap.size w wl) {v' u : Value} {xs : List UInt8} {A : Option Addr} {n c : Nat} (ho : w'.ownsRow N 25 1 v' (sure ++ [xs]).length (V.ss ++ [u])) (hg : wl.grownBy w' V.vS.ownBlock) (hv : v'.ownBlock = V.vS.ownBlock ∨ v'.ownBlock = some wl.heap.size) (hlt : ∀ b, v'.ownBlock = some b → b < w'.heap.size)
    (hu : u = .slice A n c) (hr : Rd wl A n c xs) (hA : ∀ a, 0 < n → A = some a → w.heap.size ≤ a.block) :
    Rest N w' h (sure ++ [xs]) zs rs fails (fun b => plus G v' b ∨ ∃ a, 0 < n ∧ A = some a ∧ a.block = b) { V with vS := v', ss := V.ss ++ [u] } ∧ Mv N G w w' ∧ (∀ b, (plus G v' b ∨ ∃ a, 0 < n ∧ A = some a ∧ a.block = b) → G b ∨ w.heap.size ≤ b) := by
  have hsz : w.heap.size ≤ w'.heap.size := Nat.le_trans hb.size hg.size
  have hk := grown_keep hb hg
  have hN := r.lo
  have hbs := hb.size
  have hG : ∀ b, V.vS.ownBlock = some b → G b := fun b e => r.inG b (.inr (.inl e))
  have hnew : ∀ b, v'.ownBlock = some b → V.vS.ownBlock = some b ∨ b = wl.heap.size := fun b e => by
    rcases hv with hv | hv
    · exact .inl (hv ▸ e)
    · rw [hv] at e
      exact .inr (Option.some.inj e).symm
  have hnotlow : ∀ b, b < w.heap.size → v'.ownBlock = some b → V.vS.ownBlock = some b := fun b hl e => by
    rcases hnew b e with e | e
    · exact e
    · omega
  have hbl : V.ss.length = sure.length := by have := r.oS.1; omega
  subst hu
  have hAl : ∀ a, 0 < n → A = some a → a.block < wl.heap.size := fun a h1 h2 => by
    obtain ⟨b, off, e, hbb, _⟩ := hr.at_ h1
    rw [h2] at e
    injection e with e
    subst e
    exact hbb
  have hsp : ∀ b, b < w.heap.size → spine h { V with vS := v', ss := V.ss ++ [.slice A n c] } b → spine h V b := by
    rintro b hl (e | e | e | e)
    · exact .inl e
    · exact .inr (.inl (hnotlow b hl e))
    · exact .inr (.inr (.inl e))
    · exact .inr (.inr (.inr e))
  have hrow : ∀ u xs, Rr w G h V u xs → Rr w' (fun b => plus G v' b ∨ ∃ a, 0 < n ∧ A = some a ∧ a.block = b) h { V with vS := v', ss := V.ss ++ [.slice A n c] } u xs := by
    rintro u xs ⟨A, n, c, h1, h2, h3⟩
    refine ⟨A, n, c, h1, ⟨h2.len, h2.cap, h2.max, h2.nil, fun hn => ?_⟩, fun a hn ha => ?_⟩
    · obtain ⟨b, off, rfl, hlb, hc⟩ := h2.at_ hn
      obtain ⟨q1, q2⟩ := h3 _ hn rfl
      exact ⟨b, off, rfl, Nat.lt_of_lt_of_le hlb hsz, fun j hj => (World.cell?_of_block (a := ⟨b, off + j, none⟩) (hk b hlb fun e => q2 (.inr (.inl e)))).trans (hc j hj)⟩
    · obtain ⟨q1, q2⟩ := h3 a hn ha
      exact ⟨.inl (.inl q1), fun e => q2 (hsp _ (r.gN _ q1).2 e)⟩
  refine ⟨⟨ho, fun i hi => ?_, own_keepH r.oW fun b e hl => hk b hl (r.dW b e).2.1, own_keepH r.oB fun b e hl => hk b hl (r.dB b e).2.1, fun i hi => hrow _ _ (r.rB i hi),
      r.rF.keep hsz fun a h1 h2 h3 => hk _ h3 fun e => (r.inF a h1 h2).2 (.inr (.inl e)), fun a h1 h2 => ⟨(r.inF a h1 h2).1.imp id fun q => .inl (.inl q), fun e => (r.inF a h1 h2).2 (hsp _ (r.fLt a h1 h2) e)⟩, ?_, ?_, ?_, ?_, ?_⟩, ⟨?_, ?_⟩, ?_⟩
  · by_cases hlt' : i < sure.length
    · have := hrow _ _ (r.rS i hlt')
      show Rr w' _ h _ (V.ss ++ [.slice A n c])[i]? ((sure ++ [xs]).getD i [])
      rw [List.getElem?_append_left (by omega), List.getD_eq_getElem?_getD, List.getElem?_append_left hlt', ← List.getD_eq_getElem?_getD]
      exact this
    · have hil : i = sure.length := by rw [List.length_append, List.length_singleton] at hi; omega
      subst hil
      show Rr w' _ h _ (V.ss ++ [.slice A n c])[sure.length]? ((sure ++ [xs]).getD sure.length [])
      rw [List.getElem?_append_right (by omega), hbl, Nat.sub_self, List.getD_eq_getElem?_getD, List.getElem?_append_right (Nat.le_refl _), Nat.sub_self]
      refine ⟨A, n, c, rfl, ⟨hr.len, hr.cap, hr.max, hr.nil, fun hn => ?_⟩, fun a h1 h2 => ⟨.inr ⟨a, h1, h2, rfl⟩, ?_⟩⟩
      · obtain ⟨b, off, e, hlb, hc⟩ := hr.at_ hn
        refine ⟨b, off, e, Nat.lt_of_lt_of_le hlb hg.size, fun j hj => (World.cell?_of_block (a := ⟨b, off + j, none⟩) (hg.block b hlb fun e' => ?_)).trans (hc j hj)⟩
        have q1 := hA _ hn e
        have q2 := (r.gN b (hG b e'.symm)).2
        have : (⟨b, off, none⟩ : Addr).block = b := rfl
        omega
      · have q1 := hA a h1 h2
        have q3 := hAl a h1 h2
        rintro (e | e | e | e)
        · have := (r.gN h (r.inG h (.inl rfl))).2; omega
        · rcases hnew _ e with e | e
          · have := (r.gN _ (hG _ e)).2; omega
          · omega
        · have := (r.gN _ (r.inG _ (.inr (.inr (.inl e))))).2; omega
        · have := (r.gN _ (r.inG _ (.inr (.inr (.inr e))))).2; omega
  · rintro b (e | e | e | e)
    · exact .inl (.inl (r.inG b (.inl e)))
    · exact .inl (.inr e)
    · exact .inl (.inl (r.inG b (.inr (.inr (.inl e)))))
    · exact .inl (.inl (r.inG b (.inr (.inr (.inr e)))))
  · rintro b ((e | e) | ⟨a, h1, h2, rfl⟩)
    · exact ⟨(r.gN b e).1, Nat.lt_of_lt_of_le (r.gN b e).2 hsz⟩
    · refine ⟨?_, hlt b e⟩
      rcases hnew b e with e | e
      · exact (r.gN b (hG b e)).1
      · omega
    · exact ⟨Nat.le_trans hN (hA a h1 h2), Nat.lt_of_lt_of_le (hAl a h1 h2) hg.size⟩
  · intro b e
    rcases hnew b e with e' | e'
    · exact r.dS b e'
    · refine ⟨fun q => ?_, fun q => ?_, fun q => ?_⟩
      · have := (r.gN h (r.inG h (.inl rfl))).2; omega
      · have := (r.gN b (r.inG b (.inr (.inr (.inl q))))).2; omega
      · have := (r.gN b (r.inG b (.inr (.inr (.inr q))))).2; omega
  · intro b e
    refine ⟨(r.dW b e).1, fun e' => (r.dW b e).2.1 (hnotlow b (r.gN b (r.inG b (.inr (.inr (.inl e))))).2 e'), (r.dW b e).2.2⟩
  · intro b e
    refine ⟨(r.dB b e).1, fun e' => (r.dB b e).2.1 (hnotlow b (r.gN b (r.inG b (.inr (.inr (.inr e))))).2 e'), (r.dB b e).2.2⟩
  · exact (hb.mono hN).grown hg (Nat.le_trans hN hb.size) fun b e => (r.gN b (hG b e)).1
  · exact fun b h1 h2 => hk b h1 fun e => h2 (hG b e)
  · rintro b ((e | e) | ⟨a, h1, h2, rfl⟩)
    · exact .inl e
    · rcases hnew b e with e | e
      · exact .inl (hG b e)
      · exact .inr (by omega)
    · exact .inr (hA a h1 h2)
/-- More blocks may be meant. -/
theorem Rest.more (r : Rest N w h sure zs rs fails G V) {G' : Nat → Prop} (hG : ∀ b, G b → G' b) (hN : ∀ b, G' b → N ≤ b ∧ b < w.heap.size) : Rest N w h sure zs rs fails G' V :=
  ⟨r.oS, fun i hi => (by obtain ⟨A, n, c, h1, h2, h3⟩ := r.rS i hi; exact ⟨A, n, c, h1, h2, fun a q1 q2 => ⟨hG _ (h3 a q1 q2).1, (h3 a q1 q2).2⟩⟩), r.oW, r.oB,
    fun i hi => (by obtain ⟨A, n, c, h1, h2, h3⟩ := r.rB i hi; exact ⟨A, n, c, h1, h2, fun a q1 q2 => ⟨hG _ (h3 a q1 q2).1, (h3 a q1 q2).2⟩⟩), r.rF,
    fun a h1 h2 => ⟨(r.inF a h1 h2).1.imp id (hG _), (r.inF a h1 h2).2⟩, fun b e => hG b (r.inG b e), hN, r.dS, r.dW, r.dB⟩
/-- A disk of no sector. -/
theorem Rest.start {w : World} {h : Nat} (hN : N ≤ h) (hl : h < w.heap.size) : Rest N w h [] [] [] [] (fun b => b = h) ⟨.slice none 0 0, [], .slice none 0 0, .slice none 0 0, [], none, 0, 0⟩ := by
  refine ⟨World.ownsRow_nil _ _ _ _, fun i hi => absurd hi (by simp), World.ownsRow_nil _ _ _ _, World.ownsRow_nil _ _ _ _, fun i hi => absurd hi (by simp), RI.nil_ _ _, fun a h1 => absurd h1 (by simp), ?_, ?_, ?_, ?_, ?_⟩
  · rintro b (e | e | e | e)
    · exact e
    · simp [Value.ownBlock] at e
    · simp [Value.ownBlock] at e
    · simp [Value.ownBlock] at e
  · rintro b rfl; exact ⟨hN, hl⟩
  · intro b e; simp [Value.ownBlock] at e
  · intro b e; simp [Value.ownBlock] at e
  · intro b e; simp [Value.ownBlock] at e
end
end Go.Proofs.YtnoflgkjdibblaaDoor.S19

/-
  The document's own disk: a new one. No statement is proved here. (Written by gendke.py.)
-/
namespace Go.Proofs.YtnoflgkjdibblaaDoor.S19
set_option linter.unusedSimpArgs false
set_option linter.unusedVariables false
set_option maxRecDepth 4096
open Go.RowKit

end Go.Proofs.YtnoflgkjdibblaaDoor.S19

/-
  The document's own disk: what is torn, byte by byte; another plan; a row that has come. No statement is proved here.
-/
namespace Go.Proofs.YtnoflgkjdibblaaDoor.S19
set_option linter.unusedSimpArgs false
set_option linter.unusedVariables false
set_option maxRecDepth 4096
open Go.RowKit

/-- Is the byte j of a torn row that which was to be written? -/
def tears (c j : Nat) : Prop := c % 4 = 1 ∨ (c % 4 = 2 ∧ j < c / 4) ∨ (c % 4 = 3 ∧ c / 4 ≤ j)
instance (c j : Nat) : Decidable (tears c j) := by unfold tears; exact inferInstance
/-- The first k bytes have been gone through. -/
def tornP (c : Nat) (old now : List UInt8) (k : Nat) : List UInt8 := (List.range 64).map fun j => if j < k ∧ tears c j then now.getD j 0 else old.getD j 0
theorem tornP_len (c : Nat) (old now : List UInt8) (k : Nat) : (tornP c old now k).length = 64 := by simp [tornP]
theorem tornP_zero (c : Nat) (old now : List UInt8) (h : old.length = 64) : tornP c old now 0 = old := by
  apply List.ext_getElem (by simp [tornP, h])
  intro i h1 h2
  simp [tornP, List.getD, h2]
theorem tornP_full (c : Nat) (old now : List UInt8) : tornP c old now 64 = Dk.torn c old now := by
  unfold tornP Dk.torn
  apply List.map_congr_left
  intro j hj
  rw [List.mem_range] at hj
  simp only [hj, true_and, tears]
theorem tornP_miss {c k : Nat} (old now : List UInt8) (h : ¬ tears c k) : tornP c old now (k + 1) = tornP c old now k := by
  unfold tornP
  apply List.map_congr_left
  intro j hj
  by_cases e : j = k
  · subst e
    rw [if_neg (fun q => h q.2), if_neg (fun q => h q.2)]
  · have : (j < k + 1) = (j < k) := propext (by omega)
    simp only [this]
theorem tornP_hit {c k : Nat} (old now : List UInt8) (hk : k < 64) (h : tears c k) : tornP c old now (k + 1) = (tornP c old now k).set k (now.getD k 0) := by
  apply List.ext_getElem (by simp [tornP])
  intro i h1 h2
  have h3 : i < 64 := by simpa [tornP] using h1
  by_cases e : k = i
  · subst e
    rw [List.getElem_set_self]
    simp [tornP, h]
  · rw [List.getElem_set_ne e]
    have : (i < k + 1) = (i < k) := propext (by omega)
    simp only [tornP, List.getElem_map, List.getElem_range, this]
theorem tear_snoc (ch : List UInt8) (q : Nat × List UInt8) : ∀ (ps : List (Nat × List UInt8)) (k : Nat) (s : List (List UInt8)), Dk.tear ch k (ps ++ [q]) s = (Dk.tear ch k ps s).set q.1 (Dk.torn (Dk.choice ch (k + ps.length)) ((Dk.tear ch k ps s).getD q.1 []) q.2)
  | [], k, s => rfl
  | p :: ps, k, s => by
    rw [List.cons_append, Dk.tear, tear_snoc ch q ps, Dk.tear, List.length_cons]
    rw [show k + 1 + ps.length = k + (ps.length + 1) by omega]
theorem tear_take (ch : List UInt8) (ps : List (Nat × List UInt8)) (s : List (List UInt8)) (k : Nat) (hk : k < ps.length) : Dk.tear ch 0 (ps.take (k + 1)) s = (Dk.tear ch 0 (ps.take k) s).set (ps.getD k (0, [])).1 (Dk.torn (Dk.choice ch k) ((Dk.tear ch 0 (ps.take k) s).getD (ps.getD k (0, [])).1 []) (ps.getD k (0, [])).2) := by
  have e : ps.take (k + 1) = ps.take k ++ [ps.getD k (0, [])] := by
    have e0 : ps.getD k (0, []) = ps[k] := by simp [List.getD, hk]
    rw [e0, List.take_add_one, List.getElem?_eq_getElem hk]
    rfl
  rw [e, tear_snoc, List.length_take, Nat.min_eq_left (Nat.le_of_lt hk), Nat.zero_add]
section
variable {N : Nat} {w w' : World} {h : Nat} {G : Nat → Prop} {V : RkV} {sure : List (List UInt8)} {zs : List Int} {rs : List (List UInt8)} {fails : List Int}
/-- Another plan. -/
theorem Rest.plan (r : Rest N w h sure zs rs fails G V) {A : Option Addr} {n c : Nat} {fs : List Int} (hf : RI w .i64 A n c fs) (hA : ∀ a, 0 < n → A = some a → (a.block < N ∨ G a.block) ∧ ¬ spine h V a.block) : Rest N w h sure zs rs fs G { V with AF := A, nF := n, cF := c } :=
  ⟨r.oS, r.rS, r.oW, r.oB, r.rB, hf, hA, r.inG, r.gN, r.dS, r.dW, r.dB⟩
theorem Rest.notSpine (r : Rest N w h sure zs rs fails G V) {b : Nat} (hb : b < N) : ¬ spine h V b := fun e => by
  have := (r.gN b (r.inG b e)).1
  omega
/-- A row in a new block may be the disk's. -/
theorem Rest.fresh (r : Rest N w h sure zs rs fails G V) (hb : Below w.heap.size w w') {A : Option Addr} {n c : Nat} {xs : List UInt8} (hr : Rd w' A n c xs) (hA : ∀ a, 0 < n → A = some a → w.heap.size ≤ a.block) :
    Rest N w' h sure zs rs fails (fun b => G b ∨ ∃ a, 0 < n ∧ A = some a ∧ a.block = b) V ∧ Rr w' (fun b => G b ∨ ∃ a, 0 < n ∧ A = some a ∧ a.block = b) h V (some (.slice A n c)) xs ∧ (∀ b, (G b ∨ ∃ a, 0 < n ∧ A = some a ∧ a.block = b) → G b ∨ w.heap.size ≤ b) := by
  have hN := r.lo
  have hlt : ∀ a, 0 < n → A = some a → a.block < w'.heap.size := fun a h1 h2 => by
    obtain ⟨b, off, e, hbb, _⟩ := hr.at_ h1
    rw [h2] at e
    injection e with e
    subst e
    exact hbb
  refine ⟨(r.keep hb.size fun b _ hl => hb.block b hl).more (fun b e => .inl e) ?_, ⟨A, n, c, rfl, hr, fun a h1 h2 => ⟨.inr ⟨a, h1, h2, rfl⟩, fun e => ?_⟩⟩, ?_⟩
  · rintro b (e | ⟨a, h1, h2, rfl⟩)
    · exact ⟨(r.gN b e).1, Nat.lt_of_lt_of_le (r.gN b e).2 hb.size⟩
    · exact ⟨Nat.le_trans hN (hA a h1 h2), hlt a h1 h2⟩
  · have q1 := (r.gN _ (r.inG _ e)).2
    have q2 := hA a h1 h2
    omega
  · rintro b (e | ⟨a, h1, h2, rfl⟩)
    · exact .inl e
    · exact .inr (hA a h1 h2)
end
end Go.Proofs.YtnoflgkjdibblaaDoor.S19

/-
  The document's own disk: the power comes again. No statement is proved here. (Written by gendkg.py.)
-/
namespace Go.Proofs.YtnoflgkjdibblaaDoor.S19
set_option linter.unusedSimpArgs false
set_option linter.unusedVariables false
set_option maxRecDepth 4096
open Go.RowKit

end Go.Proofs.YtnoflgkjdibblaaDoor.S19

/-
  How an argument that came in reads: an array of numbers.
-/
namespace Go.Proofs.YtnoflgkjdibblaaDoor
set_option linter.unusedSimpArgs false
set_option linter.unusedVariables false
open Go.ChangeShapes Go.WideShapes Go.ChangeAt Go.RowKit

theorem okWide_array {P : Program} {w : World} {r : Reach} {base : Nat} {t e : TypeId} {n : Nat} {v : Value} (ht : P.underlying t = some (.array n e)) (h : Value.okWide P w r base t v) : ∃ cs, v = .agg cs ∧ cs.size = P.cellsOf t := by
  simp only [Value.okWide, ht] at h
  obtain ⟨cs, h1, h2, _⟩ := h
  exact ⟨cs, h1, h2⟩
def numOf (v : Value) : Int := match v with
  | .int _ z => z
  | _ => 0
theorem open_array {H : Type} {enc : TypeId × Value → H} {P : Program} {W : World} {v : Value} {d : DataW H} {p : List MemPlace} {base b : Nat} {sp : Nat → Bool} {held : Bool} {t e : TypeId} {n : Nat} {k : IntKind} {r : Reach}
    (ht : P.underlying t = some (.array n e)) (he : P.underlying e = some (.int k)) (hce : P.cellsOf e = 1) (hct : P.cellsOf t = n)
    (hv : Value.okWide P W r base t v) (h : DataW.Trod enc P W b sp held t v d p) :
    ∃ zs : List Int, zs.length = n ∧ v = .agg (zs.map fun z => Value.int k z).toArray ∧ ∀ z ∈ zs, (Lit.int k z).wf = true := by
  obtain ⟨cs, rfl, hs⟩ := okWide_array ht hv
  obtain ⟨fuel, hf⟩ := h
  obtain ⟨xs, m, _, _, hl, hxl, hall⟩ := DataW.trod_array ht hf
  have hcs : ((Value.agg cs).cells).toList = cs.toList := rfl
  rw [hcs] at hl hall
  have one : ∀ i, i < n → ∃ z, cs.toList[i]? = some (.int k z) ∧ (Lit.int k z).wf = true := fun i hi => by
    have h1 := hall i hi
    rw [hce, Nat.mul_one, List.getElem?_eq_getElem (by omega)] at h1
    obtain ⟨z, hz, _, wz⟩ := DataW.trod_int he h1
    refine ⟨z, ?_, wz⟩
    have := congrArg (·[0]?) hz
    simpa [List.getElem?_take, List.getElem?_drop] using this
  have hlen : cs.toList.length = n := by rw [hl, hct]
  refine ⟨cs.toList.map numOf, by simpa using hlen, ?_, fun z hz => ?_⟩
  · congr 1
    have : cs.toList = (cs.toList.map numOf).map fun z => Value.int k z := by
      apply List.ext_getElem?
      intro i
      by_cases hi : i < n
      · obtain ⟨z, h1, _⟩ := one i hi
        simp only [List.getElem?_map, h1, Option.map_some, numOf]
      · rw [List.getElem?_eq_none (by omega), List.getElem?_eq_none (by simp only [List.length_map]; omega)]
    rw [← this]
  · obtain ⟨v, hv, rfl⟩ := List.mem_map.1 hz
    obtain ⟨i, hi, hiv⟩ := List.getElem_of_mem hv
    obtain ⟨z, h1, h2⟩ := one i (by omega)
    rw [List.getElem?_eq_getElem hi, hiv] at h1
    injection h1 with h1
    subst h1
    exact h2
theorem own_ : ownKnob Tryd.prog.godebug = none := by kernel_rfl
theorem laid_ : laidOutB Tryd.prog = true := by kernel_rfl
theorem places_lt {H : Type} {enc : TypeId × Value → H} {W : World} {t : TypeId} {v : Value} {d : DataW H} {p : List MemPlace}
    (h : DataW.Trod enc Tryd.prog W 0 (fun _ => true) true t v d p) : ∀ x ∈ p, x.block < W.heap.size := by
  obtain ⟨m, hm⟩ := h
  exact DataW.trod_lt m _ _ _ hm
end Go.Proofs.YtnoflgkjdibblaaDoor

/-
  How an argument that came in reads: a row of bytes.
-/
namespace Go.Proofs.YtnoflgkjdibblaaDoor
set_option linter.unusedSimpArgs false
set_option linter.unusedVariables false
set_option maxRecDepth 4096
open Go.ChangeShapes Go.WideShapes Go.ChangeAt Go.RowKit

theorem rd_of_cells {w : World} {x : Addr} {len cap : Nat} {zs : List Int} (hl : len ≤ cap) (hm : cap ≤ maxLen) (hz : zs.length = cap)
    (hc : ∀ i, i < zs.length → w.cell? (x.add i) = some (.int .u8 (zs.getD i 0))) (hwf : ∀ n ∈ zs, (Lit.int .u8 n).wf = true) : ∃ xs, Rd w (some x) len cap xs := by
  refine ⟨(zs.take len).map fun z => UInt8.ofNat z.toNat, by simp; omega, hl, hm, (fun h => by cases h), fun hn => ?_⟩
  obtain ⟨b, off, rfl, hcell⟩ := ints_at hc (by omega)
  refine ⟨b, off, rfl, ?_, fun j hj => ?_⟩
  · have := hcell 0 (by omega)
    exact World.block_lt_of_cell? w _ this
  · rw [hcell j (by omega)]
    have hj' : j < zs.length := by omega
    have hw := hwf zs[j] (List.getElem_mem hj')
    have hb := bounds_u8 hw
    simp only [List.getD_eq_getElem?_getD, List.getElem?_eq_getElem hj', List.getElem?_map, List.getElem?_take, if_pos hj, Option.map_some, Option.getD_some, UInt8.toNat_ofNat']
    congr 2
    omega

/-- A slice of bytes that came in: its value, and how it reads. -/
theorem open_bytes {H : Type} {enc : TypeId × Value → H} {W : World} {v : Value} {d : DataW H} {p : List MemPlace} {base : Nat}
    (hv : Value.okWide Tryd.prog W .any base 25 v) (h : DataW.Trod enc Tryd.prog W 0 (fun _ => true) true 25 v d p) :
    ∃ (A : Option Addr) (len cap : Nat) (xs : List UInt8), v = .slice A len cap ∧ Rd W A len cap xs := by
  obtain ⟨A, len, cap, rfl⟩ := okWide_slice Tryd.underlying25 hv
  obtain ⟨fuel, hf⟩ := h
  rcases open_ints Tryd.underlying25 Tryd.underlying5 (by kernel_rfl) hf with ⟨hcs, _⟩ | ⟨x, l, c, zs, hcs, _, hl, hm, hz, _, hcell, hwz⟩
  · simp [Value.cells] at hcs
    obtain ⟨rfl, rfl, rfl⟩ := hcs
    exact ⟨none, 0, 0, [], rfl, Rd.nil_ W⟩
  · simp [Value.cells] at hcs
    obtain ⟨rfl, rfl, rfl⟩ := hcs
    obtain ⟨xs, hx⟩ := rd_of_cells hl hm (by simpa using hz) hcell hwz
    exact ⟨_, _, _, xs, rfl, hx⟩
end Go.Proofs.YtnoflgkjdibblaaDoor
