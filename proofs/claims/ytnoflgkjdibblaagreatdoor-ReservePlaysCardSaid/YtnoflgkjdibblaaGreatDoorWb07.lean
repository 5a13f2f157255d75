/-
  Texts put together: SteadyG, GhV, Rnd. No statement is proved here.
-/
import Derived.Test.YtnoflgkjdibblaaGreatDoorWb06
import Derived.Test.YtnoflgkjdibblaaGreatDoorWb05
import Derived.RangeFuncNested
import Derived.RangeFuncCalls
import Derived.RangeFuncLeaves
import Derived.OwnWalkIn

/-
  A region that draws its order, gone through in the text's order once, where a value may hang on what is known only while it runs (an address: the ghost g), and an operation may leave by a panic. No statement is proved here.
-/
namespace Go.Proofs.YtnoflgkjdibblaaGreatDoor.SG
set_option linter.unusedSimpArgs false
set_option linter.unusedVariables false
set_option maxRecDepth 1024

section
variable {P : Program} {ops : Array Oper} {γ : Type}

/-- The slots, once the operations that sel picks are done. -/
def accum (vs : List Value) (sel : Nat → Bool) : List Oper → Nat → Act → Act
  | [], _, a => a
  | o :: l, k, a => accum vs sel l (k + 1) (if sel k = true then a.put o.dst (vs.getD k undef) else a)
theorem accum_cons (vs : List Value) (sel : Nat → Bool) (o : Oper) (l : List Oper) (k : Nat) (a : Act) : accum vs sel (o :: l) k a = accum vs sel l (k + 1) (if sel k = true then a.put o.dst (vs.getD k undef) else a) := rfl
theorem put_size (a : Act) (d : Option Tmp) (v : Value) : (a.put d v).tmps.size = a.tmps.size := by cases d <;> simp [Act.put]
theorem accum_congr {vs vs' : List Value} {sel sel' : Nat → Bool} : ∀ (l : List Oper) (k : Nat) (a : Act), (∀ j, k ≤ j → j < k + l.length → sel j = sel' j ∧ (sel j = true → vs.getD j undef = vs'.getD j undef)) → accum vs sel l k a = accum vs' sel' l k a
  | [], _, _, _ => rfl
  | o :: l, k, a, h => by
    unfold accum
    obtain ⟨h1, h2⟩ := h k (Nat.le_refl _) (by simp)
    rw [accum_congr (vs' := vs') (sel' := sel') l (k + 1) _ (fun j hj hl => h j (by omega) (by simp only [List.length_cons]; omega)), ← h1]
    by_cases hs : sel k = true
    · rw [if_pos hs, if_pos hs, h2 hs]
    · rw [if_neg hs, if_neg hs]
theorem accum_slot {vs : List Value} {sel sel' : Nat → Bool} (t : Nat) : ∀ (l : List Oper) (k : Nat) (a a' : Act), a.tmps.size = a'.tmps.size → a.tmps[t]? = a'.tmps[t]? → (∀ (j : Nat) (o : Oper), l[j]? = some o → sel (k + j) ≠ sel' (k + j) → o.dst ≠ some t) →
    (accum vs sel l k a).tmps[t]? = (accum vs sel' l k a').tmps[t]?
  | [], _, _, _, _, h, _ => h
  | o :: l, k, a, a', hz, h, hd => by
    unfold accum
    refine accum_slot t l (k + 1) _ _ ?_ ?_ (fun j o' hj hs => hd (j + 1) o' (by simpa using hj) (by rw [show k + (j + 1) = k + 1 + j by omega]; exact hs))
    · split <;> split <;> simp [put_size, hz]
    · have h0 := hd 0 o (by simp)
      simp only [Nat.add_zero] at h0
      by_cases hs : sel k = true
      · by_cases hs' : sel' k = true
        · rw [if_pos hs, if_pos hs']
          cases hdst : o.dst with
          | none => exact h
          | some d =>
            simp only [Act.put, Array.getElem?_setIfInBounds]
            rw [h, hz]
        · rw [if_pos hs, if_neg hs']
          have hne := h0 (by rw [hs]; exact fun e => hs' e.symm)
          cases hdst : o.dst with
          | none => exact h
          | some d =>
            have : d ≠ t := fun e => hne (by rw [hdst, e])
            simp only [Act.put, Array.getElem?_setIfInBounds_ne this]
            exact h
      · by_cases hs' : sel' k = true
        · rw [if_neg hs, if_pos hs']
          have hne := h0 (by rw [hs']; exact hs)
          cases hdst : o.dst with
          | none => exact h
          | some d =>
            have : d ≠ t := fun e => hne (by rw [hdst, e])
            simp only [Act.put, Array.getElem?_setIfInBounds_ne this]
            exact h
        · rw [if_neg hs, if_neg hs']
          exact h
theorem accum_put {vs : List Value} {sel : Nat → Bool} (d : Option Tmp) (v : Value) : ∀ (l : List Oper) (k : Nat) (a : Act), (∀ (j : Nat) (o : Oper), l[j]? = some o → ∀ t, d = some t → o.dst ≠ some t) →
    (accum vs sel l k a).put d v = accum vs sel l k (a.put d v)
  | [], _, _, _ => rfl
  | o :: l, k, a, h => by
    unfold accum
    rw [accum_put d v l (k + 1) _ (fun j o' hj => h (j + 1) o' (by simpa using hj))]
    congr 1
    split
    · exact (Act.put_comm a v _ (fun t ht => h 0 o (by simp) t ht)).symm
    · rfl
theorem accum_list {vs : List Value} {sel : Nat → Bool} : ∀ (l : List Oper) (k p : Nat) (a : Act) (o : Oper), l[p]? = some o → sel (k + p) = false → (∀ (j : Nat) (o' : Oper), l[j]? = some o' → j ≠ p → ∀ t, o.dst = some t → o'.dst ≠ some t) →
    (accum vs sel l k a).put o.dst (vs.getD (k + p) undef) = accum vs (fun j => sel j || decide (j = k + p)) l k a
  | [], _, _, _, _, h, _, _ => by simp at h
  | o' :: l, k, 0, a, o, h, hs, hd => by
    obtain rfl : o' = o := by simpa using h
    simp only [Nat.add_zero] at hs
    have e1 : accum vs sel (o' :: l) k a = accum vs sel l (k + 1) a := by rw [accum_cons, hs, if_neg (by simp)]
    have e2 : accum vs (fun j => sel j || decide (j = k)) (o' :: l) k a = accum vs (fun j => sel j || decide (j = k)) l (k + 1) (a.put o'.dst (vs.getD k undef)) := by rw [accum_cons, if_pos (by simp)]
    rw [Nat.add_zero, e1, e2, accum_put o'.dst _ l (k + 1) a (fun j o2 hj t ht => hd (j + 1) o2 (by simpa using hj) (by omega) t ht)]
    exact accum_congr l (k + 1) _ (fun j hj hl => ⟨by simp; omega, fun _ => rfl⟩)
  | o' :: l, k, p + 1, a, o, h, hs, hd => by
    have h' : l[p]? = some o := by simpa using h
    have ih := accum_list (vs := vs) (sel := sel) l (k + 1) p (if sel k = true then a.put o'.dst (vs.getD k undef) else a) o h' (by rw [show k + 1 + p = k + (p + 1) by omega]; exact hs) (fun j o2 hj hne => hd (j + 1) o2 (by simpa using hj) (by omega))
    rw [show k + 1 + p = k + (p + 1) by omega] at ih
    have e1 : accum vs sel (o' :: l) k a = accum vs sel l (k + 1) (if sel k = true then a.put o'.dst (vs.getD k undef) else a) := accum_cons _ _ _ _ _ _
    have e2 : accum vs (fun j => sel j || decide (j = k + (p + 1))) (o' :: l) k a = accum vs (fun j => sel j || decide (j = k + (p + 1))) l (k + 1) (if sel k = true then a.put o'.dst (vs.getD k undef) else a) := by
      rw [accum_cons]
      have : decide (k = k + (p + 1)) = false := by simp
      rw [this, Bool.or_false]
    rw [e1, e2, ih]

/-- What an operation leads to: a value, or a panic. -/
def givesQ (P : Program) (o : Oper) (a : Act) (w : World) (R : Value → World → Prop) (X : List PanicEntry → World → Prop) : Prop :=
  match (execOp a.eval o).run P w with
  | .ok (.value v) w' => R v w'
  | .ok .skip w' => R undef w'
  | .ok (.enter f args) w' => Calls P f args w' fun e w'' => match e with
      | .returned v => R v w''
      | .panicked c => X c w''
      | .outgrown => False
  | .halt (.panic v) w' => X [{ v, recovered := false }] w'
  | _ => False
theorem givesQ_wp {o : Oper} {a a' : Act} {w : World} {R : Value → World → Prop} {X : List PanicEntry → World → Prop} {K : Act → World → Prop} {Q : Exit → Act → World → Prop} (he : execOp a'.eval o = execOp a.eval o) (h : givesQ P o a w R X) (hk : ∀ v w', R v w' → K (a'.put o.dst v) w') (hx : ∀ c w', X c w' → Q (.panic c) a' w') : o.wp P a' w K Q := by
  unfold givesQ at h
  unfold Oper.wp
  rw [he]
  generalize (execOp a.eval o).run P w = r at *
  cases r with
  | ok n w' =>
    cases n <;> simp only [Oper.upon] at h ⊢ <;> try exact h.elim
    case value v => exact hk _ _ h
    case skip => exact hk _ _ h
    case enter f args =>
      refine h.mono ?_
      intro e w'' hr
      cases e with
      | returned v => exact hk _ _ hr
      | panicked c => exact hx _ _ hr
      | outgrown => exact hr.elim
  | halt x w' =>
    cases x <;> simp only [Oper.upon] at h ⊢ <;> try exact h.elim
    case panic v => exact hx _ _ h

def Closed (ops : Array Oper) (L : Array Bool) : Prop := ∀ (j : Nat) (o : Oper), ops[j]? = some o → L.getD j false = true → ∀ e ∈ o.after, Region.binds .any e = true → L.getD e.on false = true
/-- What is owed at operation k: aK is the slots with all ahead of it done, in the text's order. -/
def Stp (P : Program) (ops : Array Oper) (Q : Exit → Act → World → Prop) (vs : γ → List Value) (I : γ → Array Bool → World → Prop) (a₀ : Act) (k : Nat) (o : Oper) (aK : γ → Act) : Prop :=
  ∀ g L w, L.size = ops.size → L.getD k true = false → (∀ e ∈ o.after, Region.binds .any e = true → L.getD e.on false = true) → Closed ops L → I g L w →
    (Region.wanted o (yielded ops (aK g).tmps) = true ∧ givesQ P o (aK g) w (fun u w' => ∃ g', u = (vs g').getD k undef ∧ (∀ j, j ≠ k → L.getD j false = true → (vs g').getD j undef = (vs g).getD j undef) ∧ I g' (L.setIfInBounds k true) w')
      (fun c w' => Q (.panic c) (accum (vs g) (fun j => L.getD j false) ops.toList 0 a₀) w')) ∨
    (Region.wanted o (yielded ops (aK g).tmps) = false ∧ (vs g).getD k undef = undef ∧ I g (L.setIfInBounds k true) w)
def Seq (P : Program) (ops : Array Oper) (Q : Exit → Act → World → Prop) (vs : γ → List Value) (I : γ → Array Bool → World → Prop) (a₀ : Act) : List Oper → Nat → (γ → Act) → Prop
  | [], _, aK => ∀ g w, I g (Array.replicate ops.size true) w → Q .normal (aK g) w
  | o :: l, k, aK => Stp P ops Q vs I a₀ k o aK ∧ Seq P ops Q vs I a₀ l (k + 1) (fun g => (aK g).put o.dst ((vs g).getD k undef))
/-- Each operation waits for earlier ones alone; what it looks at is written by those alone that it waits for; no slot is written twice. -/
def ghostB (ops : Array Oper) : Bool :=
  Region.noSelect ops && (List.range ops.size).all fun k => match ops[k]? with
    | none => true
    | some o => (o.after.all fun e => !Region.binds .any e || decide (e.on < k)) &&
      (List.range ops.size).all fun j => match ops[j]? with
        | none => true
        | some oj => j == k || (match oj.dst with
          | none => true
          | some d => ((o.after.any fun e => Region.binds .any e && e.on == j) || !(o.looksAt ops).contains d) && (o.dst != some d))
theorem ghostB_spec (h : ghostB ops = true) : (∀ (k : Nat) (o : Oper), ops[k]? = some o → (∀ e ∈ o.after, Region.binds .any e = true → e.on < k) ∧
    ∀ (j : Nat) (oj : Oper), ops[j]? = some oj → j ≠ k → ∀ d, oj.dst = some d → ((∃ e ∈ o.after, Region.binds .any e = true ∧ e.on = j) ∨ d ∉ o.looksAt ops) ∧ o.dst ≠ some d) := by
  intro k o ho
  have hk : k < ops.size := (Array.getElem?_eq_some_iff.1 ho).1
  simp only [ghostB, Bool.and_eq_true, List.all_eq_true] at h
  have h1 := h.2 k (List.mem_range.2 hk)
  rw [ho] at h1
  simp only [Bool.and_eq_true, List.all_eq_true] at h1
  obtain ⟨h2, h3⟩ := h1
  refine ⟨fun e he hb => ?_, fun j oj hj hne d hd => ?_⟩
  · have := Array.all_eq_true_iff_forall_mem.1 h2 e he
    simpa [hb] using this
  · have hjl : j < ops.size := (Array.getElem?_eq_some_iff.1 hj).1
    have h4 := h3 j (List.mem_range.2 hjl)
    rw [hj] at h4
    simp only [hd, Bool.or_eq_true, beq_iff_eq, hne, false_or, Bool.and_eq_true, bne_iff_ne, ne_eq, Bool.not_eq_true'] at h4
    refine ⟨h4.1.imp (fun hx => ?_) (fun hx hm => ?_), h4.2⟩
    · obtain ⟨e, he, hb⟩ := Array.any_eq_true'.1 hx
      simp only [Bool.and_eq_true, beq_iff_eq] at hb
      exact ⟨e, he, hb.1, hb.2⟩
    · rw [List.contains_iff_mem.2 hm] at hx
      cases hx
theorem wanted_congr {o : Oper} {a a' : Act} (h : ∀ d ∈ o.looksAt ops, a.tmps[d]? = a'.tmps[d]?) : Region.wanted o (yielded ops a.tmps) = Region.wanted o (yielded ops a'.tmps) := by
  unfold Region.wanted
  cases hg : o.guard with
  | none => rfl
  | some gw =>
    obtain ⟨g, want⟩ := gw
    have hy : yielded ops a.tmps g = yielded ops a'.tmps g := by
      unfold yielded
      cases ht : (ops[g]?).bind (·.dst) with
      | none => rfl
      | some t =>
        have := h t (by simp [Oper.looksAt, hg, ht])
        simp [this]
    simp only [hy]
theorem exec_congr {o : Oper} (hs : ∀ cs b, o.op ≠ .select cs b) {a a' : Act} (h : ∀ d ∈ o.looksAt ops, a.tmps[d]? = a'.tmps[d]?) : execOp a.eval o = execOp a'.eval o :=
  execOp_congr o hs fun x hx => by
    cases x with
    | tmp t =>
      have := h t (List.mem_append_left _ (List.mem_filterMap.2 ⟨.tmp t, by simpa using hx, rfl⟩))
      simp [Act.eval, this]
    | _ => rfl
theorem getD_false {L : Array Bool} {j : Nat} (h : j < L.size) : L.getD j true = L.getD j false := by simp [Array.getD_eq_getD_getElem?, Array.getElem?_eq_getElem h]
theorem lt_next (j k : Nat) : (decide (j < k) || decide (j = k)) = decide (j < k + 1) := by
  rw [Bool.eq_iff_iff]
  simp only [Bool.or_eq_true, decide_eq_true_eq]
  omega
theorem seq_at {Q : Exit → Act → World → Prop} {vs : γ → List Value} {I : γ → Array Bool → World → Prop} {a₀ : Act} (hD : ∀ (k : Nat) (o : Oper), ops[k]? = some o → ∀ (j : Nat) (oj : Oper), ops[j]? = some oj → j ≠ k → ∀ d, oj.dst = some d → o.dst ≠ some d) :
    ∀ (l : List Oper) (k : Nat), (∀ j, j < l.length → l[j]? = ops[k + j]?) → k + l.length = ops.size → Seq P ops Q vs I a₀ l k (fun g => accum (vs g) (fun j => decide (j < k)) ops.toList 0 a₀) →
      (∀ (i : Nat) (o : Oper), k ≤ i → ops[i]? = some o → Stp P ops Q vs I a₀ i o (fun g => accum (vs g) (fun j => decide (j < i)) ops.toList 0 a₀)) ∧
      (∀ g w, I g (Array.replicate ops.size true) w → Q .normal (accum (vs g) (fun j => decide (j < ops.size)) ops.toList 0 a₀) w)
  | [], k, _, hn, h => by
    have hk : k = ops.size := by simpa using hn
    subst hk
    exact ⟨fun i o hi ho => absurd (Array.getElem?_eq_some_iff.1 ho).1 (by omega), h⟩
  | o :: l, k, hl, hn, h => by
    obtain ⟨h1, h2⟩ := h
    have h0 : ops[k]? = some o := by simpa using (hl 0 (by simp)).symm
    have e : (fun g => (accum (vs g) (fun j => decide (j < k)) ops.toList 0 a₀).put o.dst ((vs g).getD k undef)) = fun g => accum (vs g) (fun j => decide (j < k + 1)) ops.toList 0 a₀ := by
      funext g
      have h3 := accum_list (vs := vs g) (sel := fun j => decide (j < k)) ops.toList 0 k a₀ o (by simpa using h0) (by simp) (fun j o' hj hne t ht => fun e => hD k o h0 j o' (by simpa using hj) hne t e ht)
      rw [Nat.zero_add] at h3
      rw [h3]
      exact accum_congr (sel' := fun j => decide (j < k + 1)) _ _ _ (fun j _ _ => ⟨lt_next j k, fun _ => rfl⟩)
    rw [e] at h2
    obtain ⟨r1, r2⟩ := seq_at hD l (k + 1) (fun j hj => by have := hl (j + 1) (by simp; omega); simpa [Nat.add_assoc, Nat.add_comm 1 j] using this) (by simp only [List.length_cons] at hn; omega) h2
    refine ⟨fun i oi hi hoi => ?_, r2⟩
    by_cases hik : i = k
    · subst hik
      obtain rfl : oi = o := Option.some.inj (hoi.symm.trans h0)
      exact h1
    · exact r1 i oi (by omega) hoi
def left_ (L : Array Bool) : Nat := L.toList.count false
theorem left_set {L : Array Bool} {i : Nat} (h : L.getD i true = false) : left_ (L.setIfInBounds i true) + 1 = left_ L := by
  have hi : i < L.size := by
    rcases Nat.lt_or_ge i L.size with h1 | h1
    · exact h1
    · simp [Array.getD_eq_getD_getElem?, Array.getElem?_eq_none h1] at h
  have hv : L.toList[i]'(by simpa using hi) = false := by simpa [hi] using h
  unfold left_
  rw [Array.toList_setIfInBounds, List.count_set (by simpa using hi)]
  have hpos : 0 < L.toList.count false := List.count_pos_iff.2 (hv ▸ List.getElem_mem _)
  rw [hv]
  simp only [beq_self_eq_true, if_true]
  have e : (true == false) = false := rfl
  rw [e]
  simp only [Bool.false_eq_true, if_false]
  omega
theorem left_done {L : Array Bool} (h : ∀ j, j < L.size → L.getD j true = true) : L = Array.replicate L.size true := by
  apply Array.ext
  · simp
  · intro i h1 h2
    have := h i h1
    simpa [h1] using this
theorem wpAny_seq {Q : Exit → Act → World → Prop} {vs : γ → List Value} {I : γ → Array Bool → World → Prop} {a₀ : Act} (hB : ghostB ops = true)
    (hS : ∀ (i : Nat) (o : Oper), ops[i]? = some o → Stp P ops Q vs I a₀ i o (fun g => accum (vs g) (fun j => decide (j < i)) ops.toList 0 a₀))
    (hE : ∀ g w, I g (Array.replicate ops.size true) w → Q .normal (accum (vs g) (fun j => decide (j < ops.size)) ops.toList 0 a₀) w) :
    ∀ (f : Nat) (L : Array Bool), L.size = ops.size → left_ L ≤ f → Closed ops L → ∀ g w, I g L w → wpAny P .any ops Q f L (accum (vs g) (fun j => L.getD j false) ops.toList 0 a₀) w := by
  have spec := ghostB_spec hB
  have hsel : Region.noSelect ops = true := by simp only [ghostB, Bool.and_eq_true] at hB; exact hB.1
  have done : ∀ (L : Array Bool), L.size = ops.size → Region.ready .any ops L = [] → ∀ g w, I g L w → Q .normal (accum (vs g) (fun j => L.getD j false) ops.toList 0 a₀) w := by
    intro L hL hr g w hI
    have all : ∀ j, j < L.size → L.getD j true = true := by
      intro j
      induction j using Nat.strongRecOn with
      | _ j ih =>
        intro hj
        cases hc : L.getD j true with
        | true => rfl
        | false =>
          exfalso
          have hjo : j < ops.size := by omega
          have : j ∈ Region.ready .any ops L := by
            refine mem_ready.2 ⟨hc, ops[j], by simp [hjo], fun e he hb => ?_⟩
            have h1 := (spec j ops[j] (by simp [hjo])).1 e he hb
            rw [← getD_false (by omega)]
            exact ih e.on h1 (by omega)
          rw [hr] at this
          cases this
    have e := left_done all
    rw [e, hL] at hI
    have h9 := hE g w hI
    rwa [accum_congr (sel' := fun j => L.getD j false) (vs' := vs g) ops.toList 0 a₀ (fun j _ hj => by
      have hj2 : j < L.size := by simp at hj; omega
      have := all j hj2
      rw [getD_false hj2] at this
      refine ⟨?_, fun _ => rfl⟩
      simp only [this, decide_eq_true_eq]
      omega)] at h9
  have stepOne : ∀ (f : Nat), (∀ (L : Array Bool), L.size = ops.size → left_ L ≤ f → Closed ops L → ∀ g w, I g L w → wpAny P .any ops Q f L (accum (vs g) (fun j => L.getD j false) ops.toList 0 a₀) w) →
      ∀ (L : Array Bool), L.size = ops.size → left_ L ≤ f + 1 → Closed ops L → ∀ g w, I g L w → ∀ i ∈ Region.ready .any ops L, wpOp P ops Q i (wpAny P .any ops Q f (L.setIfInBounds i true)) (accum (vs g) (fun j => L.getD j false) ops.toList 0 a₀) w := by
    intro f ih L hL hf hC g w hI i hi
    obtain ⟨h0, o, ho, hdep⟩ := mem_ready.1 hi
    have hil : i < L.size := by have := (Array.getElem?_eq_some_iff.1 ho).1; omega
    have h0' : L.getD i false = false := by rw [← getD_false hil]; exact h0
    have same : ∀ d ∈ o.looksAt ops, (accum (vs g) (fun j => L.getD j false) ops.toList 0 a₀).tmps[d]? = (accum (vs g) (fun j => decide (j < i)) ops.toList 0 a₀).tmps[d]? := by
      intro d hd
      refine accum_slot d ops.toList 0 a₀ a₀ rfl rfl (fun j oj hj hs hdst => ?_)
      have hj' : ops[j]? = some oj := by simpa using hj
      rw [Nat.zero_add] at hs
      by_cases hji : j = i
      · subst hji
        rw [h0'] at hs
        simp at hs
      · rcases ((spec i o ho).2 j oj hj' hji d hdst).1 with ⟨e, he, hb, hej⟩ | h9
        · have h1 := (spec i o ho).1 e he hb
          have h2 := hdep e he hb
          rw [hej] at h1 h2
          rw [h2] at hs
          simp [h1] at hs
        · exact h9 hd
    have hw := wanted_congr (ops := ops) (o := o) same
    have hx := exec_congr (ops := ops) (o := o) (Region.noSelect_spec hsel i o · · ho) same
    have hset : ∀ j, (L.setIfInBounds i true).getD j false = (L.getD j false || decide (j = i)) := by
      intro j
      simp only [Array.getD_eq_getD_getElem?, Array.getElem?_setIfInBounds]
      by_cases hji : i = j
      · subst hji; simp [hil]
      · simp [hji, Ne.symm hji]
    have hC' : Closed ops (L.setIfInBounds i true) := by
      intro j oj hj hl e he hb
      rw [hset] at hl ⊢
      by_cases hji : j = i
      · subst hji
        obtain rfl : oj = o := Option.some.inj (hj.symm.trans ho)
        rw [hdep e he hb]; rfl
      · simp only [hji, decide_false, Bool.or_false] at hl
        rw [hC j oj hj hl e he hb]; rfl
    have go : ∀ g' w', (∀ j, j ≠ i → L.getD j false = true → (vs g').getD j undef = (vs g).getD j undef) → I g' (L.setIfInBounds i true) w' → wpAny P .any ops Q f (L.setIfInBounds i true) ((accum (vs g) (fun j => L.getD j false) ops.toList 0 a₀).put o.dst ((vs g').getD i undef)) w' := by
      intro g' w' hag hI'
      have e1 : accum (vs g) (fun j => L.getD j false) ops.toList 0 a₀ = accum (vs g') (fun j => L.getD j false) ops.toList 0 a₀ := accum_congr _ _ _ (fun j _ _ => ⟨rfl, fun hs => by
        have hji : j ≠ i := fun e => by subst e; rw [h0'] at hs; cases hs
        exact (hag j hji hs).symm⟩)
      have e2 := accum_list (vs := vs g') (sel := fun j => L.getD j false) ops.toList 0 i a₀ o (by simpa using ho) (by rw [Nat.zero_add]; exact h0') (fun j o' hj hne t ht => fun e => ((spec i o ho).2 j o' (by simpa using hj) hne t e).2 ht)
      rw [Nat.zero_add] at e2
      have e3 : (fun j => L.getD j false || decide (j = i)) = fun j => (L.setIfInBounds i true).getD j false := funext fun j => (hset j).symm
      rw [e1, e2, e3]
      exact ih _ (by simpa using hL) (by have := left_set h0; omega) hC' g' w' hI'
    unfold wpOp
    simp only [ho]
    rcases hS i o ho g L w hL h0 hdep hC hI with ⟨hw1, hg⟩ | ⟨hw1, hv, hI'⟩
    · rw [hw, hw1, if_pos rfl]
      refine .inl (givesQ_wp hx hg ?_ (fun c w' h => h))
      rintro u w' ⟨g', rfl, hag, hI'⟩
      exact go g' w' hag hI'
    · rw [hw, hw1, if_neg (by simp), ← hv]
      exact go g w (fun _ _ _ => rfl) hI'
  intro f
  induction f with
  | zero =>
    intro L hL hf hC g w hI
    have hr : Region.ready .any ops L = [] := by
      refine List.eq_nil_iff_forall_not_mem.2 fun j hj => ?_
      have := left_set (mem_ready.1 hj).1
      omega
    exact ⟨hr, done L hL hr g w hI⟩
  | succ f ih =>
    intro L hL hf hC g w hI
    exact ⟨fun hr => done L hL hr g w hI, stepOne f ih L hL hf hC g w hI⟩
theorem wpAny_ghost (vs : γ → List Value) (I : γ → Array Bool → World → Prop) (n : Nat) {Q : Exit → Act → World → Prop} {a : Act} {w : World} {l : List Oper} (hB : ghostB l.toArray = true) (hn : l.toArray.size = n) (g : γ) (hS : I g (Array.replicate n false) w)
    (h : Seq P l.toArray Q vs I a l 0 (fun _ => a)) : wpAny P .any l.toArray Q l.toArray.size (Array.replicate l.toArray.size false) a w := by
  subst hn
  have spec := ghostB_spec hB
  have e0 : (fun _ : γ => a) = fun g => accum (vs g) (fun j => decide (j < 0)) l.toArray.toList 0 a := by
    funext g
    have : ∀ (l : List Oper) (k : Nat), accum (vs g) (fun j => decide (j < 0)) l k a = a := by
      intro l
      induction l with
      | nil => intro k; rfl
      | cons o l ih => intro k; rw [accum_cons, if_neg (by simp)]; exact ih _
    rw [this]
  rw [e0] at h
  obtain ⟨h1, h2⟩ := seq_at (fun k o ho j oj hj hne d hd => ((spec k o ho).2 j oj hj hne d hd).2) l 0 (fun j _ => by simp) (by simp) h
  have h3 := wpAny_seq (a₀ := a) hB (fun i o ho => h1 i o (Nat.zero_le _) ho) h2 l.toArray.size (Array.replicate l.toArray.size false) (by simp) (by simp [left_]) (fun j o _ hj => by
    simp only [Array.getD_eq_getD_getElem?, Array.getElem?_replicate] at hj
    split at hj <;> simp at hj) g _ hS
  have e1 : accum (vs g) (fun j => (Array.replicate l.toArray.size false).getD j false) l.toArray.toList 0 a = a := by
    rw [accum_congr (sel' := fun j => decide (j < 0)) (vs' := vs g) _ _ _ (fun j _ _ => ⟨by
      simp only [Array.getD_eq_getD_getElem?, Array.getElem?_replicate]
      split <;> simp, fun _ => rfl⟩)]
    exact (congrFun e0 g).symm
  rw [e1] at h3
  exact h3
theorem wp_region_ghost (vs : γ → List Value) (I : γ → Array Bool → World → Prop) (n : Nat) {id : Nat} {Q : Exit → Act → World → Prop} {a : Act} {w : World} {l : List Oper} (hm : P.follows .mixedOrders = true) (hB : ghostB l.toArray = true) (hn : l.toArray.size = n) (g : γ) (hS : I g (Array.replicate n false) w.drew)
    (h : Seq P l.toArray Q vs I a l 0 (fun _ => a)) : (Code.region id l.toArray true).wp P Q a w := wp_region_any hm (wpAny_ghost vs I n hB hn g hS h)
section
variable {Q : Exit → Act → World → Prop} {vs : γ → List Value} {I : γ → Array Bool → World → Prop} {a₀ : Act} {o : Oper} {l : List Oper} {k : Nat} {aK : γ → Act}
theorem seq_nil (h : ∀ g w, I g (Array.replicate ops.size true) w → Q .normal (aK g) w) : Seq P ops Q vs I a₀ [] k aK := h
theorem seq_of (v : γ → Value) (hv : ∀ g, (vs g).getD k undef = v g) (hs : Stp P ops Q vs I a₀ k o aK) (h : Seq P ops Q vs I a₀ l (k + 1) (fun g => (aK g).put o.dst (v g))) : Seq P ops Q vs I a₀ (o :: l) k aK := by
  refine ⟨hs, ?_⟩
  have e : (fun g => (aK g).put o.dst ((vs g).getD k undef)) = fun g => (aK g).put o.dst (v g) := funext fun g => by rw [hv g]
  rw [e]
  exact h
/-- An operation that leaves the world as it is. -/
theorem seq_pure (v : γ → Value) (hv : ∀ g, (vs g).getD k undef = v g) (hw : ∀ g, Region.wanted o (yielded ops (aK g).tmps) = true) (hk : ∀ g L w, L.size = ops.size → I g L w → I g (L.setIfInBounds k true) w)
    (hx : ∀ g L w, I g L w → (execOp (aK g).eval o).run P w = .ok (.value (v g)) w) (h : Seq P ops Q vs I a₀ l (k + 1) (fun g => (aK g).put o.dst (v g))) : Seq P ops Q vs I a₀ (o :: l) k aK :=
  seq_of v hv (fun g L w hL h0 hd hC hI => .inl ⟨hw g, by unfold givesQ; rw [hx g L w hI]; exact ⟨g, (hv g).symm, fun _ _ _ => rfl, hk g L w hL hI⟩⟩) h
/-- An operation that leaves the world as it is, what it waits for being listed. -/
theorem seq_load (v : γ → Value) (hv : ∀ g, (vs g).getD k undef = v g) (hw : ∀ g, Region.wanted o (yielded ops (aK g).tmps) = true) (hk : ∀ g L w, L.size = ops.size → I g L w → I g (L.setIfInBounds k true) w)
    (hx : ∀ g L w, L.getD k true = false → (∀ e ∈ o.after, Region.binds .any e = true → L.getD e.on false = true) → I g L w → (execOp (aK g).eval o).run P w = .ok (.value (v g)) w) (h : Seq P ops Q vs I a₀ l (k + 1) (fun g => (aK g).put o.dst (v g))) : Seq P ops Q vs I a₀ (o :: l) k aK :=
  seq_of v hv (fun g L w hL h0 hd hC hI => .inl ⟨hw g, by unfold givesQ; rw [hx g L w h0 hd hI]; exact ⟨g, (hv g).symm, fun _ _ _ => rfl, hk g L w hL hI⟩⟩) h
/-- An operation that is guarded, and not wanted. -/
theorem seq_skip (hv : ∀ g, (vs g).getD k undef = undef) (hw : ∀ g, Region.wanted o (yielded ops (aK g).tmps) = false) (hk : ∀ g L w, L.size = ops.size → I g L w → I g (L.setIfInBounds k true) w)
    (h : Seq P ops Q vs I a₀ l (k + 1) (fun g => (aK g).put o.dst undef)) : Seq P ops Q vs I a₀ (o :: l) k aK :=
  seq_of (fun _ => undef) hv (fun g L w hL h0 hd hC hI => .inr ⟨hw g, hv g, hk g L w hL hI⟩) h
/-- An operation, or a call, whose value is known only then. -/
theorem seq_new (v : γ → Value) (hv : ∀ g, (vs g).getD k undef = v g) (hw : ∀ g, Region.wanted o (yielded ops (aK g).tmps) = true)
    (hx : ∀ g L w, L.size = ops.size → L.getD k true = false → (∀ e ∈ o.after, Region.binds .any e = true → L.getD e.on false = true) → Closed ops L → I g L w →
      givesQ P o (aK g) w (fun u w' => ∃ g', u = v g' ∧ (∀ j, j ≠ k → L.getD j false = true → (vs g').getD j undef = (vs g).getD j undef) ∧ I g' (L.setIfInBounds k true) w') (fun c w' => Q (.panic c) (accum (vs g) (fun j => L.getD j false) ops.toList 0 a₀) w'))
    (h : Seq P ops Q vs I a₀ l (k + 1) (fun g => (aK g).put o.dst (v g))) : Seq P ops Q vs I a₀ (o :: l) k aK :=
  seq_of v hv (fun g L w hL h0 hd hC hI => .inl ⟨hw g, by
    have := hx g L w hL h0 hd hC hI
    simp only [← hv] at this
    exact this⟩) h
/-- An operation whose value is known only then. -/
theorem seq_made (v : γ → Value) (hv : ∀ g, (vs g).getD k undef = v g) (hw : ∀ g, Region.wanted o (yielded ops (aK g).tmps) = true)
    (hx : ∀ g L w, L.size = ops.size → L.getD k true = false → (∀ e ∈ o.after, Region.binds .any e = true → L.getD e.on false = true) → Closed ops L → I g L w →
      ∃ g' w', (execOp (aK g).eval o).run P w = .ok (.value (v g')) w' ∧ (∀ j, j ≠ k → L.getD j false = true → (vs g').getD j undef = (vs g).getD j undef) ∧ I g' (L.setIfInBounds k true) w')
    (h : Seq P ops Q vs I a₀ l (k + 1) (fun g => (aK g).put o.dst (v g))) : Seq P ops Q vs I a₀ (o :: l) k aK :=
  seq_new v hv hw (fun g L w hL h0 hd hC hI => by
    obtain ⟨g', w', h1, h2, h3⟩ := hx g L w hL h0 hd hC hI
    unfold givesQ
    rw [h1]
    exact ⟨g', rfl, h2, h3⟩) h
/-- A store. -/
theorem seq_store (hv : ∀ g, (vs g).getD k undef = undef) (hw : ∀ g, Region.wanted o (yielded ops (aK g).tmps) = true)
    (hx : ∀ g L w, L.size = ops.size → L.getD k true = false → (∀ e ∈ o.after, Region.binds .any e = true → L.getD e.on false = true) → I g L w → ∃ w', (execOp (aK g).eval o).run P w = .ok .skip w' ∧ I g (L.setIfInBounds k true) w')
    (h : Seq P ops Q vs I a₀ l (k + 1) (fun g => (aK g).put o.dst undef)) : Seq P ops Q vs I a₀ (o :: l) k aK :=
  seq_of (fun _ => undef) hv (fun g L w hL h0 hd hC hI => .inl ⟨hw g, by
    obtain ⟨w', h1, h2⟩ := hx g L w hL h0 hd hI
    unfold givesQ
    rw [h1]
    exact ⟨g, (hv g).symm, fun _ _ _ => rfl, h2⟩⟩) h
end
theorem getD_set (L : Array Bool) (i j : Nat) : (L.setIfInBounds i true).getD j false = if i = j ∧ j < L.size then true else L.getD j false := by
  simp only [Array.getD_eq_getD_getElem?, Array.getElem?_setIfInBounds]
  by_cases h : i = j
  · subst h
    by_cases h2 : i < L.size
    · simp [h2]
    · simp [h2]
  · simp [h]
theorem getD_ne {L : Array Bool} {i j : Nat} (h : i ≠ j) : (L.setIfInBounds i true).getD j false = L.getD j false := by
  rw [getD_set, if_neg (fun e => h e.1)]
theorem getD_new {L : Array Bool} {i : Nat} (h : i < L.size) : (L.setIfInBounds i true).getD i false = true := by
  rw [getD_set, if_pos ⟨rfl, h⟩]
theorem getD_rep (n j : Nat) : (Array.replicate n false).getD j false = false := by
  simp only [Array.getD_eq_getD_getElem?, Array.getElem?_replicate]
  split <;> rfl
theorem mid_ne (pre post : List Value) (x y : Value) (j : Nat) (h : j ≠ pre.length) : (pre ++ x :: post).getD j undef = (pre ++ y :: post).getD j undef := by
  simp only [List.getD_eq_getElem?_getD]
  congr 1
  rcases Nat.lt_or_ge j pre.length with h1 | h1
  · rw [List.getElem?_append_left h1, List.getElem?_append_left h1]
  · rw [List.getElem?_append_right h1, List.getElem?_append_right h1]
    obtain ⟨m, hm⟩ : ∃ m, j - pre.length = m + 1 := ⟨j - pre.length - 1, by omega⟩
    rw [hm, List.getElem?_cons_succ, List.getElem?_cons_succ]
end
end Go.Proofs.YtnoflgkjdibblaaGreatDoor.SG

/-
  A region that draws its order, gone through in the text's order once, where each operation's value is known by a fact alone that no new memory undoes. No statement is proved here.
-/
namespace Go.Proofs.YtnoflgkjdibblaaGreatDoor.SG
set_option linter.unusedSimpArgs false
set_option linter.unusedVariables false
set_option maxRecDepth 1024
open Go.RowKit

/-- What is known of a value, whatever new memory is made. -/
structure Fact where
  p : Value → World → Prop
  st : ∀ v X X', p v X → Below X.heap.size X X' → p v X'
/-- Nothing; just this value; a row of bytes; a new row of bytes; a block of cells; rows of bytes. -/
def Fact.any : Fact := ⟨fun _ _ => True, fun _ _ _ _ _ => trivial⟩
def Fact.eq (c : Value) : Fact := ⟨fun v _ => v = c, fun _ _ _ h _ => h⟩
def Fact.rd (n : Nat) (xs : List UInt8) : Fact := ⟨fun v X => ∃ A c, v = .slice A n c ∧ Rd X A n c xs, fun _ _ _ ⟨A, c, e, h⟩ hb => ⟨A, c, e, h.below hb⟩⟩
def Fact.new (w : World) (xs : List UInt8) : Fact := ⟨fun v X => ∃ A n c, v = .slice A n c ∧ X.ownsRow w.heap.size 5 1 (.slice A n c) n (bv xs), fun _ _ _ ⟨A, n, c, e, h⟩ hb => ⟨A, n, c, e, own_below h hb⟩⟩
def Fact.bk (n : Nat) (T : TypeId) (cs : Array Value) : Fact := ⟨fun v X => ∃ b, v = .slice (some ⟨b, 0, none⟩) n n ∧ Bk X b T cs, fun _ _ _ ⟨b, e, h⟩ hb => ⟨b, e, h.below hb h.lt⟩⟩
def Fact.rows (n : Nat) (xss : List (List UInt8)) : Fact := ⟨fun v X => ∃ A c, v = .slice A n c ∧ RdBs X A n c xss, fun _ _ _ ⟨A, c, e, h⟩ hb => ⟨A, c, e, h.below hb⟩⟩
section
variable {P : Program} {ops : Array Oper}
def upd (g : Nat → Value) (k : Nat) (v : Value) : Nat → Value := fun j => if j = k then v else g j
theorem upd_at (g : Nat → Value) (k : Nat) (v : Value) : upd g k v k = v := by simp [upd]
theorem upd_ne {g : Nat → Value} {k j : Nat} {v : Value} (h : j ≠ k) : upd g k v j = g j := by simp [upd, h]
def vals (n : Nat) (g : Nat → Value) : List Value := (List.range n).map g
theorem vals_at {n k : Nat} {g : Nat → Value} (h : k < n) : (vals n g).getD k undef = g k := by simp [vals, List.getD, h]
theorem vals_ne {n j k : Nat} {g : Nat → Value} {v : Value} (h : j ≠ k) : (vals n (upd g k v)).getD j undef = (vals n g).getD j undef := by
  rcases Nat.lt_or_ge j n with hj | hj
  · rw [vals_at hj, vals_at hj, upd_ne h]
  · simp only [List.getD_eq_getElem?_getD, vals]
    rw [List.getElem?_eq_none (by simpa using hj), List.getElem?_eq_none (by simpa using hj)]
/-- Of each operation that is listed its fact holds. -/
structure IV (F : Nat → Fact) (B : World → Prop) (g : Nat → Value) (L : Array Bool) (X : World) : Prop where
  base : B X
  fact : ∀ k, L.getD k false = true → (F k).p (g k) X
theorem IV.set {F : Nat → Fact} {B : World → Prop} {g : Nat → Value} {L : Array Bool} {X X' : World} (h : IV F B g L X) (k : Nat) (v : Value) (hb : Below X.heap.size X X') (hB : B X') (hv : (F k).p v X') : IV F B (upd g k v) (L.setIfInBounds k true) X' := by
  refine ⟨hB, fun j hj => ?_⟩
  by_cases hjk : j = k
  · subst hjk
    rw [upd_at]
    exact hv
  · rw [upd_ne hjk]
    rw [getD_ne (fun e => hjk e.symm)] at hj
    exact (F j).st _ _ _ (h.fact j hj) hb
theorem givesQ_mono {o : Oper} {a : Act} {w : World} {R R' : Value → World → Prop} {X X' : List PanicEntry → World → Prop} (h : givesQ P o a w R X) (hR : ∀ v w', R v w' → R' v w') (hX : ∀ c w', X c w' → X' c w') : givesQ P o a w R' X' := by
  unfold givesQ at *
  generalize (execOp a.eval o).run P w = r at *
  cases r with
  | ok n w' =>
    cases n <;> simp only at h ⊢ <;> try exact h.elim
    case value v => exact hR _ _ h
    case skip => exact hR _ _ h
    case enter f args =>
      refine h.mono ?_
      intro e w'' hr
      cases e with
      | returned v => exact hR _ _ hr
      | panicked c => exact hX _ _ hr
      | outgrown => exact hr.elim
  | halt x w' =>
    cases x <;> simp only at h ⊢ <;> try exact h.elim
    case panic v => exact hX _ _ h
theorem givesQ_run {o : Oper} {a : Act} {w w' : World} {u : Value} {R : Value → World → Prop} {X : List PanicEntry → World → Prop} (h : (execOp a.eval o).run P w = .ok (.value u) w') (hR : R u w') : givesQ P o a w R X := by
  unfold givesQ
  rw [h]
  exact hR
theorem givesQ_call {o : Oper} {a : Act} {w : World} {f : FuncId} {args : Array Value} {R : Value → World → Prop} {X : List PanicEntry → World → Prop} (h : (execOp a.eval o).run P w = .ok (.enter f args) w) (hR : Calls P f args w fun e w' => ∃ u, e = .returned u ∧ R u w') : givesQ P o a w R X := by
  unfold givesQ
  rw [h]
  refine hR.mono ?_
  rintro e w' ⟨u, rfl, h⟩
  exact h
variable {Q : Exit → Act → World → Prop} {F : Nat → Fact} {B : World → Prop} {a₀ : Act} {o : Oper} {l : List Oper} {k n : Nat} {aK : (Nat → Value) → Act}
/-- An operation, or a call, by what it waits for. -/
theorem seq_val (hk : k < n) (hBb : ∀ X X', B X → Below X.heap.size X X' → B X') (hw : ∀ g, Region.wanted o (yielded ops (aK g).tmps) = true)
    (hx : ∀ g X, B X → (∀ j, (o.after.any fun e => Region.binds .any e && e.on == j) = true → (F j).p (g j) X) → givesQ P o (aK g) X (fun u X' => Below X.heap.size X X' ∧ (F k).p u X') (fun _ _ => False))
    (h : Seq P ops Q (vals n) (IV F B) a₀ l (k + 1) (fun g => (aK g).put o.dst (g k))) : Seq P ops Q (vals n) (IV F B) a₀ (o :: l) k aK := by
  refine seq_new (fun g => g k) (fun g => vals_at hk) hw (fun g L w hL h0 hd hC hI => ?_) h
  refine givesQ_mono (hx g w hI.base fun j hj => ?_) ?_ (fun _ _ h => h.elim)
  · obtain ⟨e, he, hb⟩ := Array.any_eq_true'.1 hj
    simp only [Bool.and_eq_true, beq_iff_eq] at hb
    have := hd e he hb.1
    rw [hb.2] at this
    exact hI.fact j this
  · rintro u w' ⟨hb, hu⟩
    exact ⟨upd g k u, (upd_at g k u).symm, fun j hj _ => vals_ne hj, hI.set k u hb (hBb _ _ hI.base hb) hu⟩
theorem seq_end (h : ∀ g w, B w → (∀ j, j < ops.size → (F j).p (g j) w) → Q .normal (aK g) w) : Seq P ops Q (vals n) (IV F B) a₀ [] k aK :=
  seq_nil fun g w hI => h g w hI.base fun j hj => hI.fact j (by simp [Array.getD_eq_getD_getElem?, hj])
theorem wp_region_vals (F : Nat → Fact) (B : World → Prop) (n : Nat) {id : Nat} {Q : Exit → Act → World → Prop} {a : Act} {w : World} {l : List Oper} (hm : P.follows .mixedOrders = true) (hB : ghostB l.toArray = true) (hn : l.toArray.size = n) (hS : B w.drew)
    (h : Seq P l.toArray Q (vals n) (IV F B) a l 0 (fun _ => a)) : (Code.region id l.toArray true).wp P Q a w :=
  wp_region_ghost (vals n) (IV F B) n hm hB hn (fun _ => undef) ⟨hS, fun k hk => by rw [getD_rep] at hk; cases hk⟩ h
end
end Go.Proofs.YtnoflgkjdibblaaGreatDoor.SG

/-
  A loop over a function value that hands over rows: what the function value tells of what it hands over may hang on the world. A region that draws its order within a round. No statement is proved here.
-/
namespace Go.Proofs.YtnoflgkjdibblaaGreatDoor.RD
set_option linter.unusedSimpArgs false
set_option linter.unusedVariables false
set_option maxRecDepth 1024
open Go.RowKit

section
variable {P : Program} {ops : Array Oper} {md : Region.Mode} {Q : Exit → Act → World → Prop} {l m : Nat}
end

/-! A region gone through by hand: what yields in each world that meets S is taken first; then whichever may come up. -/
def nthO : List Oper → Nat → Option Oper
  | [], _ => none
  | o :: _, 0 => some o
  | _ :: l, n + 1 => nthO l n
theorem nthO_eq : ∀ (l : List Oper) (i : Nat), l.toArray[i]? = nthO l i
  | [], i => by simp [nthO]
  | o :: l, 0 => by simp [nthO]
  | o :: l, n + 1 => by
    have := nthO_eq l n
    simpa [nthO] using this
section
variable {P : Program} {md : Region.Mode} {Q : Exit → Act → World → Prop} {S : World → Prop} {l : List Oper} {fuel : Nat} {L : Array Bool} {a : Act} {w : World} {o : Oper}
theorem h_take (i : Nat) (v : Value) (hi : nthO l i = some o) (hs : Region.noSelect l.toArray = true) (hf : Region.free md l.toArray L i = true) (hr : (Region.ready md l.toArray L).contains i = true)
    (hQ : ∀ c a w, Q (.panic c) (a.put o.dst v) w → Q (.panic c) a w) (hw : Region.wanted o (yielded l.toArray a.tmps) = true) (hS : S w) (hx : ∀ X, S X → (execOp a.eval o).run P X = .ok (.value v) X)
    (h : wpAnyH P md l.toArray Q S fuel (L.setIfInBounds i true) (a.put o.dst v) w) : wpAnyH P md l.toArray Q S (fuel + 1) L a w :=
  wpAnyH_take ((nthO_eq l i).trans hi) hs hf hr hQ (.inl ⟨hw, hx⟩) hS h
theorem h_any (rs : List Nat) (hr : Region.ready md l.toArray L = rs) (hne : rs ≠ []) (h : ∀ i ∈ rs, wpOp P l.toArray Q i (fun a' w' => S w' ∧ wpAnyH P md l.toArray Q S fuel (L.setIfInBounds i true) a' w') a w) : wpAnyH P md l.toArray Q S (fuel + 1) L a w :=
  wpAnyH_all hr hne h
theorem one_of {i : Nat} {p : Nat → Prop} (h : p i) : ∀ j ∈ [i], p j := by simpa using h
theorem two_of {i j : Nat} {p : Nat → Prop} (h : p i) (h' : p j) : ∀ k ∈ [i, j], p k := by simpa using ⟨h, h'⟩
/-- One of them has come up. -/
theorem h_op {i : Nat} {K : Act → World → Prop} (hi : nthO l i = some o) (h : if Region.wanted o (yielded l.toArray a.tmps) = true then o.wp P a w K Q else K (a.put o.dst undef) w) : wpOp P l.toArray Q i K a w := by
  unfold wpOp
  rw [nthO_eq, hi]
  simp only
  by_cases hw : Region.wanted o (yielded l.toArray a.tmps) = true
  · rw [if_pos hw] at h ⊢
    exact .inl h
  · rw [if_neg hw] at h ⊢
    exact h
theorem h_run {i : Nat} {K : Act → World → Prop} (v : Value) (w' : World) (hi : nthO l i = some o) (hw : Region.wanted o (yielded l.toArray a.tmps) = true) (hx : (execOp a.eval o).run P w = .ok (.value v) w') (h : K (a.put o.dst v) w') : wpOp P l.toArray Q i K a w :=
  h_op hi (by rw [if_pos hw]; unfold Oper.wp; rw [hx]; exact h)
theorem h_skip {i : Nat} {K : Act → World → Prop} (w' : World) (hi : nthO l i = some o) (hw : Region.wanted o (yielded l.toArray a.tmps) = true) (hx : (execOp a.eval o).run P w = .ok .skip w') (h : K (a.put o.dst undef) w') : wpOp P l.toArray Q i K a w :=
  h_op hi (by rw [if_pos hw]; unfold Oper.wp; rw [hx]; exact h)
theorem h_call {i : Nat} {K : Act → World → Prop} (f : FuncId) (args : Array Value) (hi : nthO l i = some o) (hw : Region.wanted o (yielded l.toArray a.tmps) = true) (hx : (execOp a.eval o).run P w = .ok (.enter f args) w) (h : Calls P f args w fun e w' => ∃ v, e = .returned v ∧ K (a.put o.dst v) w') : wpOp P l.toArray Q i K a w :=
  h_op hi (by
    rw [if_pos hw]
    unfold Oper.wp
    rw [hx]
    refine h.mono ?_
    rintro e w' ⟨v, rfl, h⟩
    exact h)
theorem h_done {n : Nat} (hr : Region.ready md l.toArray L = []) (h : Q .normal a w) : wpAnyH P md l.toArray Q S n L a w := wpAnyH_done hr h n
end
/-- What is known of cells alone abides where what is no cells turns. -/
structure CK (X Y : World) : Prop where
  size : X.heap.size ≤ Y.heap.size
  same : ∀ (k : Nat) (o : Obj), X.heap[k]? = some o → o.isCells = true → Y.heap[k]? = some o
theorem CK.of {X Y : World} {row : Option Nat} (hg : X.grownBy Y row) (hr : ∀ r, row = some r → ∃ o : Obj, X.heap[r]? = some o ∧ o.isCells = false) : CK X Y :=
  ⟨hg.size, fun k o hk ho => (hg.block k (Array.getElem?_eq_some_iff.1 hk).1 fun e => by
    obtain ⟨o', h1, h2⟩ := hr k e.symm
    rw [hk] at h1
    cases h1
    rw [ho] at h2
    cases h2).trans hk⟩
theorem cells_of {X : World} {p : Addr} {v : Value} (h : X.cell? p = some v) : ∃ o, X.heap[p.block]? = some o ∧ o.isCells = true := by
  unfold World.cell? at h
  cases ho : X.heap[p.block]? with
  | none => rw [ho] at h; cases h
  | some o =>
    rw [ho] at h
    cases o <;> first | exact ⟨_, rfl, rfl⟩ | cases h
theorem CK.cell {X Y : World} (h : CK X Y) {p : Addr} {v : Value} (hp : X.cell? p = some v) : Y.cell? p = some v := by
  obtain ⟨o, h1, h2⟩ := cells_of hp
  exact (World.cell?_of_block ((h.same _ o h1 h2).trans h1.symm)).trans hp
theorem CK.rd {X Y : World} (h : CK X Y) {A : Option Addr} {n c : Nat} {xs : List UInt8} (hr : Rd X A n c xs) : Rd Y A n c xs := by
  refine ⟨hr.len, hr.cap, hr.max, hr.nil, fun hn => ?_⟩
  obtain ⟨b, off, rfl, hb, hc⟩ := hr.at_ hn
  refine ⟨b, off, rfl, Nat.lt_of_lt_of_le hb h.size, fun j hj => ?_⟩
  exact h.cell (hc j hj)
theorem CK.bk {X Y : World} (h : CK X Y) {g : Nat} {t : TypeId} {cs : Array Value} (hb : Bk X g t cs) : Bk Y g t cs := h.same _ _ hb rfl
theorem CK.own {X Y : World} (h : CK X Y) {B e size n : Nat} {v : Value} {xs : List Value} (ho : X.ownsRow B e size v n xs) : Y.ownsRow B e size v n xs := by
  refine ⟨ho.1, ?_⟩
  rcases ho.2 with h1 | ⟨b, cap, cur, h1, h2, h3, h4⟩
  · exact .inl h1
  · exact .inr ⟨b, cap, cur, h1, h2, h.same _ _ h3 rfl, h4⟩
end Go.Proofs.YtnoflgkjdibblaaGreatDoor.RD
