/-
  A region that draws its order, with stores of its own: each operation gives the same value in every world that meets S at what is listed so far, and leaves one that meets S with itself listed: it may be gone through in the text's order, once; each operation knows besides that what it waits for is listed, and itself not. No statement is proved here.
-/
import Derived.Test.YtccnbepccajdoaaDoorSteady
namespace Go.Proofs.YtccnbepccajdoaaDoor.SM
set_option linter.unusedSimpArgs false
set_option linter.unusedVariables false

section
variable {P : Program} {ops : Array Oper} {S : Array Bool → World → Prop} {F : Act → Prop}

def Stp (P : Program) (ops : Array Oper) (S : Array Bool → World → Prop) (i : Nat) (o : Oper) (v : Value) (a : Act) : Prop :=
  Region.wanted o (yielded ops a.tmps) = true ∧ ∀ L w, L.size = ops.size → L.getD i true = false → (∀ e ∈ o.after, Region.binds .any e = true → L.getD e.on false = true) → S L w → gives P o a w (fun u w' => u = v ∧ S (L.setIfInBounds i true) w')
theorem Stp.same {i : Nat} {o : Oper} {v : Value} {a a' : Act} (h : Stp P ops S i o v a) (e : execOp a'.eval o = execOp a.eval o) (hw : Region.wanted o (yielded ops a'.tmps) = Region.wanted o (yielded ops a.tmps)) : Stp P ops S i o v a' :=
  ⟨by rw [hw]; exact h.1, fun L w hL h0 h1 hS => gives_same e (h.2 L w hL h0 h1 hS)⟩
def anyS (P : Program) (ops : Array Oper) (S : Array Bool → World → Prop) (F : Act → Prop) : Nat → Array Bool → Act → Prop
  | 0, listed, a => Region.ready .any ops listed = [] ∧ listed = Array.replicate ops.size true ∧ F a
  | f + 1, listed, a => Region.ready .any ops listed ≠ [] ∧ ∀ i ∈ Region.ready .any ops listed, ∃ (oi : Oper) (v : Value), ops[i]? = some oi ∧ Stp P ops S i oi v a ∧ anyS P ops S F f (listed.setIfInBounds i true) (a.put oi.dst v)
theorem wpAny_of_anyS {Q : Exit → Act → World → Prop} (hF : ∀ a, F a → ∀ w, S (Array.replicate ops.size true) w → Q .normal a w) : ∀ (f : Nat) (listed : Array Bool) (a : Act), anyS P ops S F f listed a → listed.size = ops.size → ∀ w, S listed w → wpAny P .any ops Q f listed a w
  | 0, listed, a, h, hL, w, hS => ⟨h.1, hF a h.2.2 w (by rw [← h.2.1]; exact hS)⟩
  | f + 1, listed, a, h, hL, w, hS => by
    refine ⟨fun h0 => absurd h0 h.1, fun i hi => ?_⟩
    obtain ⟨oi, v, ho, ⟨hw, hg⟩, hn⟩ := h.2 i hi
    unfold wpOp
    simp only [ho]
    simp only [hw, if_true]
    obtain ⟨g0, o', ho', g1⟩ := mem_ready.1 hi
    obtain rfl : o' = oi := Option.some.inj (ho'.symm.trans ho)
    refine .inl (gives_wp (hg listed w hL g0 g1 hS) ?_)
    rintro u w' ⟨rfl, hS'⟩
    exact wpAny_of_anyS hF f _ _ hn (by simpa using hL) w' hS'
theorem anyS_first {i : Nat} {oi : Oper} {v : Value} (hi : ops[i]? = some oi) (hsel : ∀ (j : Nat) (o : Oper) cs b, ops[j]? = some o → o.op ≠ .select cs b) :
    ∀ (f : Nat) (listed : Array Bool) (a : Act),
      (∀ j oj, ops[j]? = some oj → j ≠ i → listed.getD j true = false → (∀ e ∈ oj.after, Region.binds .any e = true → e.on ≠ i) → oi.apart ops oj = true) →
      i ∈ Region.ready .any ops listed → Stp P ops S i oi v a → anyS P ops S F f (listed.setIfInBounds i true) (a.put oi.dst v) → anyS P ops S F (f + 1) listed a := by
  intro f
  induction f with
  | zero =>
    intro listed a hap hr hs H
    refine ⟨fun h => (by rw [h] at hr; cases hr), fun j hj => ?_⟩
    by_cases hji : j = i
    · subst hji; exact ⟨oi, v, hi, hs, H⟩
    · have := ready_mono hj hji
      rw [H.1] at this
      cases this
  | succ f ih =>
    intro listed a hap hr hs H
    refine ⟨fun h => (by rw [h] at hr; cases hr), fun j hj => ?_⟩
    by_cases hji : j = i
    · subst hji; exact ⟨oi, v, hi, hs, H⟩
    · obtain ⟨oj, u, hoj, hsu, Hn⟩ := H.2 j (ready_mono hj hji)
      obtain ⟨hjun, oj', hoj', hall⟩ := mem_ready.1 hj
      have : oj' = oj := Option.some.inj (hoj'.symm.trans hoj)
      subst this
      have hiun := (mem_ready.1 hr).1
      have hwait : ∀ e ∈ oj'.after, Region.binds .any e = true → e.on ≠ i := fun e he hb heq => by
        have := hall e he hb
        rw [heq, getD_both hiun] at this
        cases this
      obtain ⟨a1, a2, a3⟩ := Oper.apart_spec (hap j oj' hoj hji hjun hwait)
      refine ⟨oj', u, hoj, hsu.same (execOp_put oj' (fun cs b => hsel j oj' cs b hoj) a oi.dst v a1).symm (wanted_put oj' a oi.dst v a1).symm, ?_⟩
      refine ih _ _ (fun k ok hok hki hkun hkw => hap k ok hok hki ?_ hkw) (ready_mono hr (Ne.symm hji)) (hs.same (execOp_put oi (fun cs b => hsel i oi cs b hi) a oj'.dst u a3) (wanted_put oi a oj'.dst u a3)) ?_
      · by_cases hkj : j = k
        · subst hkj
          exact hjun
        · rwa [getD_set_ne true hkj] at hkun
      · rw [Array.setIfInBounds_comm _ _ hji, ← Act.put_comm a v u a2]
        exact Hn
def Seq (P : Program) (ops : Array Oper) (S : Array Bool → World → Prop) (F : Act → Prop) : List Oper → Nat → Act → Prop
  | [], _, a => F a
  | o :: l, k, a => ∃ v, Stp P ops S k o v a ∧ Seq P ops S F l (k + 1) (a.put o.dst v)
/-- In the text's order each operation's turn comes, and what comes later is apart from it or waits for it. -/
def lexQ (ops : Array Oper) : List Oper → Nat → Bool
  | [], _ => true
  | o :: l, k => (o.after.all fun e => !Region.binds .any e || decide (e.on < k)) && (l.all fun oj => (oj.after.any fun e => Region.binds .any e && e.on == k) || o.apart ops oj) && lexQ ops l (k + 1)
theorem getD_of {L : Array Bool} {j : Nat} {b d : Bool} (h : L[j]? = some b) : L.getD j d = b := by
  simp [h]
theorem anyS_of_seq (hsel : Region.noSelect ops = true) : ∀ (l : List Oper) (k : Nat) (listed : Array Bool) (a : Act), (∀ j, j < l.length → l[j]? = ops[k + j]?) → k + l.length = ops.size → listed.size = ops.size → (∀ j, j < ops.size → listed[j]? = some (decide (j < k))) → lexQ ops l k = true → Seq P ops S F l k a → anyS P ops S F l.length listed a
  | [], k, listed, a, _, hn, hz, hL, _, h => by
    have hk : k = ops.size := by simpa using hn
    refine ⟨List.eq_nil_iff_forall_not_mem.2 fun j hj => ?_, ?_, h⟩
    · obtain ⟨h0, o, ho, _⟩ := mem_ready.1 hj
      have hlt : j < ops.size := (Array.getElem?_eq_some_iff.1 ho).1
      rw [getD_of (hL j hlt)] at h0
      simp [hk, hlt] at h0
    · apply Array.ext_getElem?
      intro j
      by_cases hj : j < ops.size
      · rw [hL j hj]
        simp [Array.getElem?_replicate, hj, hk]
      · rw [Array.getElem?_eq_none (by omega), Array.getElem?_eq_none (by simp; omega)]
  | o :: l, k, listed, a, hl, hn, hz, hL, hB, h => by
    have h0 : ops[k]? = some o := by simpa using (hl 0 (by simp)).symm
    have hk : k < ops.size := by simp only [List.length_cons] at hn; omega
    simp only [lexQ, Bool.and_eq_true] at hB
    obtain ⟨⟨hr, hf⟩, hB'⟩ := hB
    obtain ⟨v, hs, hm⟩ := h
    refine anyS_first h0 (Region.noSelect_spec hsel) l.length listed a ?_ ?_ hs ?_
    · intro j oj hoj hne hun hno
      have hj : j < ops.size := (Array.getElem?_eq_some_iff.1 hoj).1
      rw [getD_of (hL j hj)] at hun
      have hjk : k < j := by
        have : ¬ j < k := by simpa using hun
        omega
      have hg : l[j - k - 1]? = some oj := by
        have := hl (j - k) (by simp only [List.length_cons] at hn ⊢; omega)
        rw [show k + (j - k) = j by omega, hoj, show j - k = (j - k - 1) + 1 by omega, List.getElem?_cons_succ] at this
        exact this
      have h1 := List.all_eq_true.1 hf oj (List.mem_of_getElem? hg)
      rw [Bool.or_eq_true] at h1
      rcases h1 with h1 | h1
      · obtain ⟨e, he, hb⟩ := Array.any_eq_true'.1 h1
        simp only [Bool.and_eq_true, beq_iff_eq] at hb
        exact absurd hb.2 (hno e he hb.1)
      · exact h1
    · refine mem_ready.2 ⟨by rw [getD_of (hL k hk)]; simp, o, h0, fun e he hb => ?_⟩
      have h1 := Array.all_eq_true_iff_forall_mem.1 hr e he
      simp only [hb, Bool.not_true, Bool.false_or, decide_eq_true_eq] at h1
      rw [getD_of (hL e.on (by omega))]
      simp [h1]
    · refine anyS_of_seq hsel l (k + 1) _ _ (fun j hj => by have := hl (j + 1) (by simp; omega); simpa [Nat.add_assoc, Nat.add_comm 1 j] using this) (by simp only [List.length_cons] at hn; omega) (by simpa using hz) (fun j hj => ?_) hB' hm
      by_cases e : k = j
      · subst e
        simp [Array.getElem?_setIfInBounds_self_of_lt, hz, hk]
      · rw [Array.getElem?_setIfInBounds_ne e, hL j hj]
        congr 1
        exact decide_eq_decide.2 (by omega)
def steadyB (ops : Array Oper) : Bool := Region.noSelect ops && lexQ ops ops.toList 0
theorem wp_region_steady (S : Array Bool → World → Prop) {id : Nat} {Q : Exit → Act → World → Prop} {a : Act} {w : World} {l : List Oper} (hm : P.follows .mixedOrders = true) (hB : steadyB l.toArray = true) (hS : S (Array.replicate l.toArray.size false) w.drew)
    (h : Seq P l.toArray S (fun a' => ∀ w', S (Array.replicate l.toArray.size true) w' → Q .normal a' w') l 0 a) : (Code.region id l.toArray true).wp P Q a w := by
  simp only [steadyB, Bool.and_eq_true] at hB
  refine wp_region_any hm ?_
  exact wpAny_of_anyS (F := fun a' => ∀ w', S (Array.replicate l.toArray.size true) w' → Q .normal a' w') (fun a hF w hS => hF w hS) l.length _ _ (anyS_of_seq hB.1 l 0 _ _ (fun j _ => by simp) (by simp) (by simp) (fun j hj => by simp [Array.getElem?_replicate] at hj ⊢; exact hj) (by simpa using hB.2) h) (by simp) _ hS

theorem wp_region_steadyN (S : Array Bool → World → Prop) (n : Nat) {id : Nat} {Q : Exit → Act → World → Prop} {a : Act} {w : World} {l : List Oper} (hm : P.follows .mixedOrders = true) (hB : steadyB l.toArray = true) (hn : l.toArray.size = n) (hS : S (Array.replicate n false) w.drew)
    (h : Seq P l.toArray S (fun a' => ∀ w', S (Array.replicate n true) w' → Q .normal a' w') l 0 a) : (Code.region id l.toArray true).wp P Q a w := by
  subst hn
  exact wp_region_steady S hm hB hS h
theorem seq_nil {k : Nat} {a : Act} (h : F a) : Seq P ops S F [] k a := h
/-- An operation that leaves the world as it is. -/
theorem seq_pure {o : Oper} {l : List Oper} {k : Nat} {a : Act} (v : Value) (hw : Region.wanted o (yielded ops a.tmps) = true) (hk : ∀ L w, S L w → S (L.setIfInBounds k true) w) (hx : ∀ L w, S L w → (execOp a.eval o).run P w = .ok (.value v) w) (h : Seq P ops S F l (k + 1) (a.put o.dst v)) : Seq P ops S F (o :: l) k a :=
  ⟨v, ⟨hw, fun L w _ _ _ hS => by unfold gives; rw [hx L w hS]; exact ⟨rfl, hk L w hS⟩⟩, h⟩
/-- A call that leaves the world as it is, and whose answer hangs on none. -/
theorem seq_call {o : Oper} {l : List Oper} {k : Nat} {a : Act} {f : FuncId} {args : Array Value} (v : Value) (hw : Region.wanted o (yielded ops a.tmps) = true) (hx : ∀ L w, S L w → (execOp a.eval o).run P w = .ok (.enter f args) w)
    (hc : ∀ L w, S L w → Calls P f args w fun e w' => e = .returned v ∧ S (L.setIfInBounds k true) w') (h : Seq P ops S F l (k + 1) (a.put o.dst v)) : Seq P ops S F (o :: l) k a :=
  ⟨v, ⟨hw, fun L w _ _ _ hS => by unfold gives; rw [hx L w hS]; exact (hc L w hS).mono fun e w' ⟨h1, h2⟩ => ⟨v, h1, rfl, h2⟩⟩, h⟩
/-- A store. -/
theorem seq_store {o : Oper} {l : List Oper} {k : Nat} {a : Act} (hw : Region.wanted o (yielded ops a.tmps) = true) (hx : ∀ L w, L.size = ops.size → L.getD k true = false → (∀ e ∈ o.after, Region.binds .any e = true → L.getD e.on false = true) → S L w → ∃ w', (execOp a.eval o).run P w = .ok .skip w' ∧ S (L.setIfInBounds k true) w') (h : Seq P ops S F l (k + 1) (a.put o.dst undef)) : Seq P ops S F (o :: l) k a :=
  ⟨undef, ⟨hw, fun L w hL g0 g1 hS => by
    obtain ⟨w', h1, h2⟩ := hx L w hL g0 g1 hS
    unfold gives; rw [h1]; exact ⟨rfl, h2⟩⟩, h⟩
end
end Go.Proofs.YtccnbepccajdoaaDoor.SM
