/-
  The document's own disk: what is flushed. No statement is proved here.
-/
import Derived.Test.YtammgingmkdfhaaDkA
namespace Go.Proofs.Ytammgingmkdfhaa.S19
set_option linter.unusedSimpArgs false
set_option linter.unusedVariables false
set_option maxRecDepth 4096
open Go.RowKit

section
variable {N : Nat} {w : World} {h bS n cS : Nat} {G : Nat → Prop} {V : RkV} {sure : List (List UInt8)} {zs : List Int} {rs : List (List UInt8)} {fails : List Int}
/-- One sure row is another one. -/
theorem Rest.setS (r : Rest N w h sure zs rs fails G V) (hS : V.vS = .slice (some ⟨bS, 0, none⟩) sure.length cS) {i : Nat} (hi : i < sure.length) {u : Value} {xs : List UInt8} (hu : Rr w G h V (some u) xs) :
    Rest N (w.setCell ⟨bS, i, none⟩ u) h (sure.set i xs) zs rs fails G { V with ss := V.ss.set i u } ∧ Mv N G w (w.setCell ⟨bS, i, none⟩ u) := by
  have hob : V.vS.ownBlock = some bS := by rw [hS]; rfl
  have hk : ∀ b, b ≠ bS → (w.setCell ⟨bS, i, none⟩ u).heap[b]? = w.heap[b]? := fun b hb => Below.heap_setCell w ⟨bS, i, none⟩ u b hb
  have hs : w.heap.size ≤ (w.setCell ⟨bS, i, none⟩ u).heap.size := by simp
  have hG : G bS := r.inG bS (.inr (.inl hob))
  have hrow : ∀ u' xs', Rr w G h V u' xs' → Rr (w.setCell ⟨bS, i, none⟩ u) G h { V with ss := V.ss.set i u } u' xs' := fun u' xs' hr => by
    have := hr.keep (w' := w.setCell ⟨bS, i, none⟩ u) hs fun b _ h2 _ => hk b fun e => h2 (.inr (.inl (by rw [e]; exact hob)))
    exact this
  have oS := r.oS
  have hsl : V.ss.length = sure.length := by have := oS.1; omega
  refine ⟨⟨?_, fun j hj => ?_, own_keepH r.oW fun b e _ => hk b fun e' => (r.dW b e).2.1 (by rw [e']; exact hob), own_keepH r.oB fun b e _ => hk b fun e' => (r.dB b e).2.1 (by rw [e']; exact hob), fun j hj => hrow _ _ (r.rB j hj),
    r.rF.keep hs fun a h1 h2 _ => hk _ fun e => (r.inF a h1 h2).2 (.inr (.inl (by rw [e]; exact hob))), r.inF, r.inG, fun b hb => ⟨(r.gN b hb).1, Nat.lt_of_lt_of_le (r.gN b hb).2 hs⟩, r.dS, r.dW, r.dB⟩,
    ⟨(Below.refl _ _).setCell (p := ⟨bS, i, none⟩) (r.gN bS hG).1 u, fun b _ hb => hk b (by rintro rfl; exact hb hG)⟩⟩
  · rw [List.length_set]
    rw [hS] at oS ⊢
    exact (oS.stored i u).1
  · rw [List.length_set] at hj
    show Rr _ G h _ (V.ss.set i u)[j]? ((sure.set i xs).getD j [])
    by_cases e : i = j
    · subst e
      rw [List.getElem?_set_self (by omega), List.getD_eq_getElem?_getD, List.getElem?_set_self hi]
      exact hrow _ _ hu
    · rw [List.getElem?_set_ne e, List.getD_eq_getElem?_getD, List.getElem?_set_ne e, ← List.getD_eq_getElem?_getD]
      exact hrow _ _ (r.rS j hj)
/-- Nothing is pending. -/
theorem Rest.nil (r : Rest N w h sure zs rs fails G V) : Rest N w h sure [] [] fails G { V with vW := .slice none 0 0, vB := .slice none 0 0, bs := [] } := by
  have hsp : ∀ b, spine h { V with vW := .slice none 0 0, vB := .slice none 0 0, bs := [] } b → spine h V b := by
    rintro b (e | e | e | e)
    · exact .inl e
    · exact .inr (.inl e)
    · simp [Value.ownBlock] at e
    · simp [Value.ownBlock] at e
  refine ⟨r.oS, fun i hi => ?_, World.ownsRow_nil _ _ _ _, World.ownsRow_nil _ _ _ _, fun i hi => absurd hi (by simp), r.rF, fun a h1 h2 => ⟨(r.inF a h1 h2).1, fun e => (r.inF a h1 h2).2 (hsp _ e)⟩, fun b e => r.inG b (hsp b e), r.gN, ?_, ?_, ?_⟩
  · obtain ⟨A, n, c, h1, h2, h3⟩ := r.rS i hi
    exact ⟨A, n, c, h1, h2, fun a q1 q2 => ⟨(h3 a q1 q2).1, fun e => (h3 a q1 q2).2 (hsp _ e)⟩⟩
  · intro b e
    exact ⟨(r.dS b e).1, by simp [Value.ownBlock], by simp [Value.ownBlock]⟩
  · intro b e
    simp [Value.ownBlock] at e
  · intro b e
    simp [Value.ownBlock] at e
end
theorem laid_snoc (i : Nat) (b : List UInt8) : ∀ (ps : List (Nat × List UInt8)) (s : List (List UInt8)), Dk.laid (ps ++ [(i, b)]) s = (Dk.laid ps s).set i b
  | [], s => rfl
  | p :: ps, s => by rw [List.cons_append, Dk.laid, laid_snoc i b ps, Dk.laid]
theorem laid_take (ps : List (Nat × List UInt8)) (s : List (List UInt8)) (k : Nat) (hk : k < ps.length) : Dk.laid (ps.take (k + 1)) s = (Dk.laid (ps.take k) s).set (ps.getD k (0, [])).1 (ps.getD k (0, [])).2 := by
  have e : ps.take (k + 1) = ps.take k ++ [((ps.getD k (0, [])).1, (ps.getD k (0, [])).2)] := by
    have e0 : ((ps.getD k (0, [])).1, (ps.getD k (0, [])).2) = ps[k] := by simp [List.getD, hk]
    rw [e0, List.take_add_one, List.getElem?_eq_getElem hk]
    rfl
  rw [e, laid_snoc]
end Go.Proofs.Ytammgingmkdfhaa.S19
