/-
  A region that draws its order, each of whose operations gives the same value in every world that meets S, and leaves one that does: it may be gone through in the text's order, once. No statement is proved here.
-/
import Derived.Test.YtkanckphkmilkaaRows
import Derived.StillTail
import Derived.Tactics
import Derived.WalkKit
import Derived.Deep.MidRow
namespace Go.Proofs.Ytkanckphkmilkaa
set_option linter.unusedSimpArgs false
set_option linter.unusedVariables false
set_option maxRecDepth 1024

section
variable {P : Program} {ops : Array Oper} {md : Region.Mode} {S : World → Prop} {F : Act → Prop}

def gives (P : Program) (o : Oper) (a : Act) (w : World) (R : Value → World → Prop) : Prop :=
  match (execOp a.eval o).run P w with
  | .ok (.value v) w' => R v w'
  | .ok .skip w' => R undef w'
  | .ok (.enter f args) w' => Calls P f args w' fun e w'' => ∃ v, e = .returned v ∧ R v w''
  | _ => False
theorem gives_wp {o : Oper} {a : Act} {w : World} {R : Value → World → Prop} {K : Act → World → Prop} {Q : Exit → Act → World → Prop} (h : gives P o a w R) (hk : ∀ v w', R v w' → K (a.put o.dst v) w') : o.wp P a w K Q := by
  unfold gives at h
  unfold Oper.wp
  generalize (execOp a.eval o).run P w = r at *
  cases r with
  | ok n w' =>
    cases n <;> simp only [Oper.upon] at h ⊢ <;> try exact h.elim
    case value v => exact hk _ _ h
    case skip => exact hk _ _ h
    case enter f args =>
      refine h.mono ?_
      rintro e w'' ⟨v, rfl, hr⟩
      exact hk _ _ hr
  | halt x w' => exact h.elim
theorem gives_same {o : Oper} {a a' : Act} {w : World} {R : Value → World → Prop} (e : execOp a'.eval o = execOp a.eval o) (h : gives P o a w R) : gives P o a' w R := by
  unfold gives at *
  rw [e]
  exact h
def Stp (P : Program) (ops : Array Oper) (S : World → Prop) (o : Oper) (v : Value) (a : Act) : Prop :=
  (Region.wanted o (yielded ops a.tmps) = true ∧ ∀ w, S w → gives P o a w (fun u w' => u = v ∧ S w')) ∨ (Region.wanted o (yielded ops a.tmps) = false ∧ v = undef)
theorem Stp.same {o : Oper} {v : Value} {a a' : Act} (h : Stp P ops S o v a) (e : execOp a'.eval o = execOp a.eval o) (hw : Region.wanted o (yielded ops a'.tmps) = Region.wanted o (yielded ops a.tmps)) : Stp P ops S o v a' := by
  rcases h with ⟨h1, h2⟩ | ⟨h1, h2⟩
  · exact .inl ⟨by rw [hw]; exact h1, fun w hS => gives_same e (h2 w hS)⟩
  · exact .inr ⟨by rw [hw]; exact h1, h2⟩
def anyS (P : Program) (md : Region.Mode) (ops : Array Oper) (S : World → Prop) (F : Act → Prop) : Nat → Array Bool → Act → Prop
  | 0, listed, a => Region.ready md ops listed = [] ∧ F a
  | f + 1, listed, a => Region.ready md ops listed ≠ [] ∧ ∀ i ∈ Region.ready md ops listed, ∃ (oi : Oper) (v : Value), ops[i]? = some oi ∧ Stp P ops S oi v a ∧ anyS P md ops S F f (listed.setIfInBounds i true) (a.put oi.dst v)
theorem wpAny_of_anyS {Q : Exit → Act → World → Prop} (hF : ∀ a, F a → ∀ w, S w → Q .normal a w) : ∀ (f : Nat) (listed : Array Bool) (a : Act), anyS P md ops S F f listed a → ∀ w, S w → wpAny P md ops Q f listed a w
  | 0, listed, a, h, w, hS => ⟨h.1, hF a h.2 w hS⟩
  | f + 1, listed, a, h, w, hS => by
    refine ⟨fun h0 => absurd h0 h.1, fun i hi => ?_⟩
    obtain ⟨oi, v, ho, hs, hn⟩ := h.2 i hi
    unfold wpOp
    simp only [ho]
    rcases hs with ⟨hw, hg⟩ | ⟨hw, hv⟩
    · simp only [hw, if_true]
      refine .inl (gives_wp (hg w hS) ?_)
      rintro u w' ⟨rfl, hS'⟩
      exact wpAny_of_anyS hF f _ _ hn w' hS'
    · simp only [hw, Bool.false_eq_true, if_false]
      rw [← hv]
      exact wpAny_of_anyS hF f _ _ hn w hS
theorem anyS_first {i : Nat} {oi : Oper} {v : Value} (hi : ops[i]? = some oi) (hsel : ∀ (j : Nat) (o : Oper) cs b, ops[j]? = some o → o.op ≠ .select cs b) :
    ∀ (f : Nat) (listed : Array Bool) (a : Act),
      (∀ j oj, ops[j]? = some oj → j ≠ i → listed.getD j true = false → (∀ e ∈ oj.after, Region.binds md e = true → e.on ≠ i) → oi.apart ops oj = true) →
      i ∈ Region.ready md ops listed → Stp P ops S oi v a → anyS P md ops S F f (listed.setIfInBounds i true) (a.put oi.dst v) → anyS P md ops S F (f + 1) listed a := by
  intro f
  induction f with
  | zero =>
    intro listed a hap hr hs H
    refine ⟨fun h => (by rw [h] at hr; cases hr), fun j hj => ?_⟩
    by_cases hji : j = i
    · subst hji; exact ⟨oi, v, hi, hs, H⟩
    · have := ready_mono hj hji
      rw [H.1] at this
      cases this
  | succ f ih =>
    intro listed a hap hr hs H
    refine ⟨fun h => (by rw [h] at hr; cases hr), fun j hj => ?_⟩
    by_cases hji : j = i
    · subst hji; exact ⟨oi, v, hi, hs, H⟩
    · obtain ⟨oj, u, hoj, hsu, Hn⟩ := H.2 j (ready_mono hj hji)
      obtain ⟨hjun, oj', hoj', hall⟩ := mem_ready.1 hj
      have : oj' = oj := Option.some.inj (hoj'.symm.trans hoj)
      subst this
      have hiun := (mem_ready.1 hr).1
      have hwait : ∀ e ∈ oj'.after, Region.binds md e = true → e.on ≠ i := fun e he hb heq => by
        have := hall e he hb
        rw [heq, getD_both hiun] at this
        cases this
      obtain ⟨a1, a2, a3⟩ := Oper.apart_spec (hap j oj' hoj hji hjun hwait)
      refine ⟨oj', u, hoj, hsu.same (execOp_put oj' (fun cs b => hsel j oj' cs b hoj) a oi.dst v a1).symm (wanted_put oj' a oi.dst v a1).symm, ?_⟩
      refine ih _ _ (fun k ok hok hki hkun hkw => hap k ok hok hki ?_ hkw) (ready_mono hr (Ne.symm hji)) (hs.same (execOp_put oi (fun cs b => hsel i oi cs b hi) a oj'.dst u a3) (wanted_put oi a oj'.dst u a3)) ?_
      · by_cases hkj : j = k
        · subst hkj
          exact hjun
        · rwa [getD_set_ne true hkj] at hkun
      · rw [Array.setIfInBounds_comm _ _ hji, ← Act.put_comm a v u a2]
        exact Hn
def Seq (P : Program) (ops : Array Oper) (S : World → Prop) (F : Act → Prop) : List Oper → Act → Prop
  | [], a => F a
  | o :: l, a => ∃ v, Stp P ops S o v a ∧ Seq P ops S F l (a.put o.dst v)
def lexAll (md : Region.Mode) (ops : Array Oper) : Nat → Nat → Array Bool → Bool
  | 0, _, listed => (Region.ready md ops listed).isEmpty
  | f + 1, k, listed => (Region.ready md ops listed).contains k && Region.free md ops listed k && lexAll md ops f (k + 1) (listed.setIfInBounds k true)
theorem anyS_of_seq (hsel : Region.noSelect ops = true) : ∀ (l : List Oper) (k : Nat) (listed : Array Bool) (a : Act), (∀ j, j < l.length → l[j]? = ops[k + j]?) → lexAll md ops l.length k listed = true → Seq P ops S F l a → anyS P md ops S F l.length listed a
  | [], k, listed, a, _, hB, h => ⟨by simpa [lexAll] using hB, h⟩
  | o :: l, k, listed, a, hl, hB, h => by
    have h0 : ops[k]? = some o := by simpa using (hl 0 (by simp)).symm
    simp only [List.length_cons, lexAll, Bool.and_eq_true] at hB
    obtain ⟨⟨hr, hf⟩, hB'⟩ := hB
    obtain ⟨v, hs, hn⟩ := h
    exact anyS_first h0 (Region.noSelect_spec hsel) l.length listed a (Region.free_spec h0 hf) (by simpa using hr) hs
      (anyS_of_seq hsel l (k + 1) _ _ (fun j hj => by have := hl (j + 1) (by simp; omega); simpa [Nat.add_assoc, Nat.add_comm 1 j] using this) hB' hn)
def steadyB (ops : Array Oper) : Bool := Region.noSelect ops && lexAll .any ops ops.size 0 (Array.replicate ops.size false)
theorem wp_region_steady (S : World → Prop) {id : Nat} {Q : Exit → Act → World → Prop} {a : Act} {w : World} {l : List Oper} (hm : P.follows .mixedOrders = true) (hB : steadyB l.toArray = true) (hS : S w.drew)
    (h : Seq P l.toArray S (fun a' => ∀ w', S w' → Q .normal a' w') l a) : (Code.region id l.toArray true).wp P Q a w := by
  simp only [steadyB, Bool.and_eq_true] at hB
  refine wp_region_any hm ?_
  exact wpAny_of_anyS (F := fun a' => ∀ w', S w' → Q .normal a' w') (fun a hF w hS => hF w hS) l.length _ _ (anyS_of_seq hB.1 l 0 _ _ (fun j _ => by simp) (by simpa using hB.2) h) _ hS

theorem seq_nil {a : Act} (h : F a) : Seq P ops S F [] a := h
/-- An operation that leaves the world as it is. -/
theorem seq_pure {o : Oper} {l : List Oper} {a : Act} (v : Value) (hw : Region.wanted o (yielded ops a.tmps) = true) (hx : ∀ w, S w → (execOp a.eval o).run P w = .ok (.value v) w) (h : Seq P ops S F l (a.put o.dst v)) : Seq P ops S F (o :: l) a :=
  ⟨v, .inl ⟨hw, fun w hS => by unfold gives; rw [hx w hS]; exact ⟨rfl, hS⟩⟩, h⟩
theorem seq_skip {o : Oper} {l : List Oper} {a : Act} (hw : Region.wanted o (yielded ops a.tmps) = false) (h : Seq P ops S F l (a.put o.dst undef)) : Seq P ops S F (o :: l) a := ⟨undef, .inr ⟨hw, rfl⟩, h⟩
/-- A call whose answer hangs on no world. -/
theorem seq_call {o : Oper} {l : List Oper} {a : Act} {f : FuncId} {args : Array Value} (v : Value) (hw : Region.wanted o (yielded ops a.tmps) = true) (hx : ∀ w, S w → (execOp a.eval o).run P w = .ok (.enter f args) w)
    (hc : ∀ w, S w → Calls P f args w fun e w' => e = .returned v ∧ S w') (h : Seq P ops S F l (a.put o.dst v)) : Seq P ops S F (o :: l) a :=
  ⟨v, .inl ⟨hw, fun w hS => by unfold gives; rw [hx w hS]; exact (hc w hS).mono fun e w' ⟨h1, h2⟩ => ⟨v, h1, rfl, h2⟩⟩, h⟩
/-- A load of a long array. -/
theorem seq_load {o : Oper} {l : List Oper} {a : Act} (hw : Region.wanted o (yielded ops a.tmps) = true) (ty : TypeId) (x : Operand) (ho : o.op = .load ty x)
    (b off : Nat) (hx : a.eval x = .pointer (some ⟨b, off, none⟩)) (cs : List Value) (d : TypeDesc) (hc : ∀ w, S w → w.rangeAt b off cs)
    (hu : P.underlying ty = some d) (hd : d.isRow = true) (hi : (P.info? ty).map (·.size) = some cs.length)
    (h : Seq P ops S F l (a.put o.dst (.agg cs.toArray))) : Seq P ops S F (o :: l) a :=
  seq_pure _ hw (fun w hS => by
    unfold execOp
    simp only [ho, hx, Instr.loadAt, Instr.sureAddr, Sem.run_bind, Sem.run_pure, Result.andThen_ok, run_loadVar_mid w b off ty cs d (hc w hS) hu hd hi]) h
end
end Go.Proofs.Ytkanckphkmilkaa
