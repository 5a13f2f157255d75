/-
  A region that draws its order, gone through in the text's order once, where each operation's value is known by a fact alone that no new memory undoes. No statement is proved here.
-/
import Derived.Test.YtammgingmkdfhaaSteadyG
import Derived.Test.YtammgingmkdfhaaTool
namespace Go.Proofs.Ytammgingmkdfhaa.SG
set_option linter.unusedSimpArgs false
set_option linter.unusedVariables false
set_option maxRecDepth 1024
open Go.RowKit

/-- What is known of a value, whatever new memory is made. -/
structure Fact where
  p : Value → World → Prop
  st : ∀ v X X', p v X → Below X.heap.size X X' → p v X'
/-- Nothing; just this value; a row of bytes; a new row of bytes; a block of cells; rows of bytes. -/
def Fact.any : Fact := ⟨fun _ _ => True, fun _ _ _ _ _ => trivial⟩
def Fact.eq (c : Value) : Fact := ⟨fun v _ => v = c, fun _ _ _ h _ => h⟩
def Fact.rd (n : Nat) (xs : List UInt8) : Fact := ⟨fun v X => ∃ A c, v = .slice A n c ∧ Rd X A n c xs, fun _ _ _ ⟨A, c, e, h⟩ hb => ⟨A, c, e, h.below hb⟩⟩
def Fact.new (w : World) (xs : List UInt8) : Fact := ⟨fun v X => ∃ A n c, v = .slice A n c ∧ X.ownsRow w.heap.size 5 1 (.slice A n c) n (bv xs), fun _ _ _ ⟨A, n, c, e, h⟩ hb => ⟨A, n, c, e, own_below h hb⟩⟩
def Fact.bk (n : Nat) (T : TypeId) (cs : Array Value) : Fact := ⟨fun v X => ∃ b, v = .slice (some ⟨b, 0, none⟩) n n ∧ Bk X b T cs, fun _ _ _ ⟨b, e, h⟩ hb => ⟨b, e, h.below hb h.lt⟩⟩
def Fact.rows (n : Nat) (xss : List (List UInt8)) : Fact := ⟨fun v X => ∃ A c, v = .slice A n c ∧ RdBs X A n c xss, fun _ _ _ ⟨A, c, e, h⟩ hb => ⟨A, c, e, h.below hb⟩⟩
section
variable {P : Program} {ops : Array Oper}
def upd (g : Nat → Value) (k : Nat) (v : Value) : Nat → Value := fun j => if j = k then v else g j
theorem upd_at (g : Nat → Value) (k : Nat) (v : Value) : upd g k v k = v := by simp [upd]
theorem upd_ne {g : Nat → Value} {k j : Nat} {v : Value} (h : j ≠ k) : upd g k v j = g j := by simp [upd, h]
def vals (n : Nat) (g : Nat → Value) : List Value := (List.range n).map g
theorem vals_at {n k : Nat} {g : Nat → Value} (h : k < n) : (vals n g).getD k undef = g k := by simp [vals, List.getD, h]
theorem vals_ne {n j k : Nat} {g : Nat → Value} {v : Value} (h : j ≠ k) : (vals n (upd g k v)).getD j undef = (vals n g).getD j undef := by
  rcases Nat.lt_or_ge j n with hj | hj
  · rw [vals_at hj, vals_at hj, upd_ne h]
  · simp only [List.getD_eq_getElem?_getD, vals]
    rw [List.getElem?_eq_none (by simpa using hj), List.getElem?_eq_none (by simpa using hj)]
/-- Of each operation that is listed its fact holds. -/
structure IV (F : Nat → Fact) (B : World → Prop) (g : Nat → Value) (L : Array Bool) (X : World) : Prop where
  base : B X
  fact : ∀ k, L.getD k false = true → (F k).p (g k) X
theorem IV.set {F : Nat → Fact} {B : World → Prop} {g : Nat → Value} {L : Array Bool} {X X' : World} (h : IV F B g L X) (k : Nat) (v : Value) (hb : Below X.heap.size X X') (hB : B X') (hv : (F k).p v X') : IV F B (upd g k v) (L.setIfInBounds k true) X' := by
  refine ⟨hB, fun j hj => ?_⟩
  by_cases hjk : j = k
  · subst hjk
    rw [upd_at]
    exact hv
  · rw [upd_ne hjk]
    rw [getD_ne (fun e => hjk e.symm)] at hj
    exact (F j).st _ _ _ (h.fact j hj) hb
theorem givesQ_mono {o : Oper} {a : Act} {w : World} {R R' : Value → World → Prop} {X X' : List PanicEntry → World → Prop} (h : givesQ P o a w R X) (hR : ∀ v w', R v w' → R' v w') (hX : ∀ c w', X c w' → X' c w') : givesQ P o a w R' X' := by
  unfold givesQ at *
  generalize (execOp a.eval o).run P w = r at *
  cases r with
  | ok n w' =>
    cases n <;> simp only at h ⊢ <;> try exact h.elim
    case value v => exact hR _ _ h
    case skip => exact hR _ _ h
    case enter f args =>
      refine h.mono ?_
      intro e w'' hr
      cases e with
      | returned v => exact hR _ _ hr
      | panicked c => exact hX _ _ hr
      | outgrown => exact hr.elim
  | halt x w' =>
    cases x <;> simp only at h ⊢ <;> try exact h.elim
    case panic v => exact hX _ _ h
theorem givesQ_run {o : Oper} {a : Act} {w w' : World} {u : Value} {R : Value → World → Prop} {X : List PanicEntry → World → Prop} (h : (execOp a.eval o).run P w = .ok (.value u) w') (hR : R u w') : givesQ P o a w R X := by
  unfold givesQ
  rw [h]
  exact hR
theorem givesQ_call {o : Oper} {a : Act} {w : World} {f : FuncId} {args : Array Value} {R : Value → World → Prop} {X : List PanicEntry → World → Prop} (h : (execOp a.eval o).run P w = .ok (.enter f args) w) (hR : Calls P f args w fun e w' => ∃ u, e = .returned u ∧ R u w') : givesQ P o a w R X := by
  unfold givesQ
  rw [h]
  refine hR.mono ?_
  rintro e w' ⟨u, rfl, h⟩
  exact h
variable {Q : Exit → Act → World → Prop} {F : Nat → Fact} {B : World → Prop} {a₀ : Act} {o : Oper} {l : List Oper} {k n : Nat} {aK : (Nat → Value) → Act}
/-- An operation, or a call, by what it waits for. -/
theorem seq_val (hk : k < n) (hBb : ∀ X X', B X → Below X.heap.size X X' → B X') (hw : ∀ g, Region.wanted o (yielded ops (aK g).tmps) = true)
    (hx : ∀ g X, B X → (∀ j, (o.after.any fun e => Region.binds .any e && e.on == j) = true → (F j).p (g j) X) → givesQ P o (aK g) X (fun u X' => Below X.heap.size X X' ∧ (F k).p u X') (fun _ _ => False))
    (h : Seq P ops Q (vals n) (IV F B) a₀ l (k + 1) (fun g => (aK g).put o.dst (g k))) : Seq P ops Q (vals n) (IV F B) a₀ (o :: l) k aK := by
  refine seq_new (fun g => g k) (fun g => vals_at hk) hw (fun g L w hL h0 hd hC hI => ?_) h
  refine givesQ_mono (hx g w hI.base fun j hj => ?_) ?_ (fun _ _ h => h.elim)
  · obtain ⟨e, he, hb⟩ := Array.any_eq_true'.1 hj
    simp only [Bool.and_eq_true, beq_iff_eq] at hb
    have := hd e he hb.1
    rw [hb.2] at this
    exact hI.fact j this
  · rintro u w' ⟨hb, hu⟩
    exact ⟨upd g k u, (upd_at g k u).symm, fun j hj _ => vals_ne hj, hI.set k u hb (hBb _ _ hI.base hb) hu⟩
theorem seq_end (h : ∀ g w, B w → (∀ j, j < ops.size → (F j).p (g j) w) → Q .normal (aK g) w) : Seq P ops Q (vals n) (IV F B) a₀ [] k aK :=
  seq_nil fun g w hI => h g w hI.base fun j hj => hI.fact j (by simp [Array.getD_eq_getD_getElem?, hj])
theorem wp_region_vals (F : Nat → Fact) (B : World → Prop) (n : Nat) {id : Nat} {Q : Exit → Act → World → Prop} {a : Act} {w : World} {l : List Oper} (hm : P.follows .mixedOrders = true) (hB : ghostB l.toArray = true) (hn : l.toArray.size = n) (hS : B w.drew)
    (h : Seq P l.toArray Q (vals n) (IV F B) a l 0 (fun _ => a)) : (Code.region id l.toArray true).wp P Q a w :=
  wp_region_ghost (vals n) (IV F B) n hm hB hn (fun _ => undef) ⟨hS, fun k hk => by rw [getD_rep] at hk; cases hk⟩ h
end
end Go.Proofs.Ytammgingmkdfhaa.SG
