/-
  A region that draws its order, gone through by hand, where a call may leave by a panic. No statement is proved here.
-/
import Derived.Test.YtkanckphkmilkaaCel
import Derived.OrdersHeld
namespace Go.Proofs.Ytkanckphkmilkaa.HR
set_option linter.unusedSimpArgs false
set_option linter.unusedVariables false
set_option maxRecDepth 1024

def nthO : List Oper → Nat → Option Oper
  | [], _ => none
  | o :: _, 0 => some o
  | _ :: l, n + 1 => nthO l n
theorem nthO_eq : ∀ (l : List Oper) (i : Nat), l.toArray[i]? = nthO l i
  | [], i => by simp [nthO]
  | o :: l, 0 => by simp [nthO]
  | o :: l, n + 1 => by
    have := nthO_eq l n
    simpa [nthO] using this
section
variable {P : Program} {md : Region.Mode} {Q : Exit → Act → World → Prop} {S : World → Prop} {l : List Oper} {fuel : Nat} {L : Array Bool} {a : Act} {w : World} {o : Oper}
theorem h_top (S : World → Prop) (n : Nat) {id : Nat} (hm : P.follows .mixedOrders = true) (hn : l.toArray.size = n) (h : wpAnyH P .any l.toArray Q S n (Array.replicate n false) a w.drew) : (Code.region id l.toArray true).wp P Q a w := by
  subst hn
  exact wp_region_any hm (wpAny_of_held _ _ _ _ h)
theorem h_take (i : Nat) (v : Value) (hi : nthO l i = some o) (hs : Region.noSelect l.toArray = true) (hf : Region.free md l.toArray L i = true) (hr : (Region.ready md l.toArray L).contains i = true)
    (hQ : ∀ c a w, Q (.panic c) (a.put o.dst v) w → Q (.panic c) a w) (hw : Region.wanted o (yielded l.toArray a.tmps) = true) (hS : S w) (hx : ∀ X, S X → (execOp a.eval o).run P X = .ok (.value v) X)
    (h : wpAnyH P md l.toArray Q S fuel (L.setIfInBounds i true) (a.put o.dst v) w) : wpAnyH P md l.toArray Q S (fuel + 1) L a w :=
  wpAnyH_take ((nthO_eq l i).trans hi) hs hf hr hQ (.inl ⟨hw, hx⟩) hS h
theorem h_any (rs : List Nat) (hr : Region.ready md l.toArray L = rs) (hne : rs ≠ []) (h : ∀ i ∈ rs, wpOp P l.toArray Q i (fun a' w' => S w' ∧ wpAnyH P md l.toArray Q S fuel (L.setIfInBounds i true) a' w') a w) : wpAnyH P md l.toArray Q S (fuel + 1) L a w :=
  wpAnyH_all hr hne h
theorem one_of {i : Nat} {p : Nat → Prop} (h : p i) : ∀ j ∈ [i], p j := by simpa using h
theorem two_of {i j : Nat} {p : Nat → Prop} (h : p i) (h' : p j) : ∀ k ∈ [i, j], p k := by simpa using ⟨h, h'⟩
/-- One of them has come up. -/
theorem h_op {i : Nat} {K : Act → World → Prop} (hi : nthO l i = some o) (h : if Region.wanted o (yielded l.toArray a.tmps) = true then o.wp P a w K Q else K (a.put o.dst undef) w) : wpOp P l.toArray Q i K a w := by
  unfold wpOp
  rw [nthO_eq, hi]
  simp only
  by_cases hw : Region.wanted o (yielded l.toArray a.tmps) = true
  · rw [if_pos hw] at h ⊢
    exact .inl h
  · rw [if_neg hw] at h ⊢
    exact h
theorem h_run {i : Nat} {K : Act → World → Prop} (v : Value) (w' : World) (hi : nthO l i = some o) (hw : Region.wanted o (yielded l.toArray a.tmps) = true) (hx : (execOp a.eval o).run P w = .ok (.value v) w') (h : K (a.put o.dst v) w') : wpOp P l.toArray Q i K a w :=
  h_op hi (by rw [if_pos hw]; unfold Oper.wp; rw [hx]; exact h)
theorem h_skip {i : Nat} {K : Act → World → Prop} (w' : World) (hi : nthO l i = some o) (hw : Region.wanted o (yielded l.toArray a.tmps) = true) (hx : (execOp a.eval o).run P w = .ok .skip w') (h : K (a.put o.dst undef) w') : wpOp P l.toArray Q i K a w :=
  h_op hi (by rw [if_pos hw]; unfold Oper.wp; rw [hx]; exact h)
theorem h_call {i : Nat} {K : Act → World → Prop} (f : FuncId) (args : Array Value) (hi : nthO l i = some o) (hw : Region.wanted o (yielded l.toArray a.tmps) = true) (hx : (execOp a.eval o).run P w = .ok (.enter f args) w) (h : Calls P f args w fun e w' => ∃ v, e = .returned v ∧ K (a.put o.dst v) w') : wpOp P l.toArray Q i K a w :=
  h_op hi (by
    rw [if_pos hw]
    unfold Oper.wp
    rw [hx]
    refine h.mono ?_
    rintro e w' ⟨v, rfl, h⟩
    exact h)
theorem h_done {n : Nat} (hr : Region.ready md l.toArray L = []) (h : Q .normal a w) : wpAnyH P md l.toArray Q S n L a w := wpAnyH_done hr h n
end
/-- A call that leaves by a panic has come up. -/
theorem h_panic {P : Program} {Q : Exit → Act → World → Prop} {l : List Oper} {a : Act} {w : World} {o : Oper} {i : Nat} {K : Act → World → Prop} (f : FuncId) (args : Array Value) (hi : nthO l i = some o) (hw : Region.wanted o (yielded l.toArray a.tmps) = true) (hx : (execOp a.eval o).run P w = .ok (.enter f args) w) (h : Calls P f args w fun e w' => ∃ c, e = .panicked c ∧ Q (.panic c) a w') : wpOp P l.toArray Q i K a w :=
  h_op hi (by
    rw [if_pos hw]
    unfold Oper.wp
    rw [hx]
    refine h.mono ?_
    rintro e w' ⟨c, rfl, h⟩
    exact h)
end Go.Proofs.Ytkanckphkmilkaa.HR
