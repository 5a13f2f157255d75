/-
  The document's own disk: one sure row more; rows that have come. No statement is proved here.
-/
import Derived.Test.YtammgingmkdfhaaDkC
namespace Go.Proofs.Ytammgingmkdfhaa.S19
set_option linter.unusedSimpArgs false
set_option linter.unusedVariables false
set_option maxRecDepth 4096
open Go.RowKit

section
variable {N : Nat} {w wl w' : World} {h : Nat} {G : Nat → Prop} {V : RkV} {sure : List (List UInt8)} {zs : List Int} {rs : List (List UInt8)} {fails : List Int}
theorem Rest.lo (r : Rest N w h sure zs rs fails G V) : N ≤ w.heap.size := by have := r.gN h (r.inG h (.inl rfl)); omega
theorem Rest.fLt (r : Rest N w h sure zs rs fails G V) : ∀ a, 0 < V.nF → V.AF = some a → a.block < w.heap.size := fun a h1 h2 => by
  obtain ⟨b, off, e, hbb, _⟩ := r.rF.at_ h1
  rw [h2] at e
  injection e with e
  subst e
  exact hbb
/-- One sure row more. -/
theorem Rest.pushS (r : Rest N w h sure zs rs fails G V) (hb : Below w.heap.size w wl) {v' u : Value} {xs : List UInt8} {A : Option Addr} {n c : Nat} (ho : w'.ownsRow N 30 1 v' (sure ++ [xs]).length (V.ss ++ [u])) (hg : wl.grownBy w' V.vS.ownBlock) (hv : v'.ownBlock = V.vS.ownBlock ∨ v'.ownBlock = some wl.heap.size) (hlt : ∀ b, v'.ownBlock = some b → b < w'.heap.size)
    (hu : u = .slice A n c) (hr : Rd wl A n c xs) (hA : ∀ a, 0 < n → A = some a → w.heap.size ≤ a.block) :
    Rest N w' h (sure ++ [xs]) zs rs fails (fun b => plus G v' b ∨ ∃ a, 0 < n ∧ A = some a ∧ a.block = b) { V with vS := v', ss := V.ss ++ [u] } ∧ Mv N G w w' ∧ (∀ b, (plus G v' b ∨ ∃ a, 0 < n ∧ A = some a ∧ a.block = b) → G b ∨ w.heap.size ≤ b) := by
  have hsz : w.heap.size ≤ w'.heap.size := Nat.le_trans hb.size hg.size
  have hk := grown_keep hb hg
  have hN := r.lo
  have hbs := hb.size
  have hG : ∀ b, V.vS.ownBlock = some b → G b := fun b e => r.inG b (.inr (.inl e))
  have hnew : ∀ b, v'.ownBlock = some b → V.vS.ownBlock = some b ∨ b = wl.heap.size := fun b e => by
    rcases hv with hv | hv
    · exact .inl (hv ▸ e)
    · rw [hv] at e
      exact .inr (Option.some.inj e).symm
  have hnotlow : ∀ b, b < w.heap.size → v'.ownBlock = some b → V.vS.ownBlock = some b := fun b hl e => by
    rcases hnew b e with e | e
    · exact e
    · omega
  have hbl : V.ss.length = sure.length := by have := r.oS.1; omega
  subst hu
  have hAl : ∀ a, 0 < n → A = some a → a.block < wl.heap.size := fun a h1 h2 => by
    obtain ⟨b, off, e, hbb, _⟩ := hr.at_ h1
    rw [h2] at e
    injection e with e
    subst e
    exact hbb
  have hsp : ∀ b, b < w.heap.size → spine h { V with vS := v', ss := V.ss ++ [.slice A n c] } b → spine h V b := by
    rintro b hl (e | e | e | e)
    · exact .inl e
    · exact .inr (.inl (hnotlow b hl e))
    · exact .inr (.inr (.inl e))
    · exact .inr (.inr (.inr e))
  have hrow : ∀ u xs, Rr w G h V u xs → Rr w' (fun b => plus G v' b ∨ ∃ a, 0 < n ∧ A = some a ∧ a.block = b) h { V with vS := v', ss := V.ss ++ [.slice A n c] } u xs := by
    rintro u xs ⟨A, n, c, h1, h2, h3⟩
    refine ⟨A, n, c, h1, ⟨h2.len, h2.cap, h2.max, h2.nil, fun hn => ?_⟩, fun a hn ha => ?_⟩
    · obtain ⟨b, off, rfl, hlb, hc⟩ := h2.at_ hn
      obtain ⟨q1, q2⟩ := h3 _ hn rfl
      exact ⟨b, off, rfl, Nat.lt_of_lt_of_le hlb hsz, fun j hj => (World.cell?_of_block (a := ⟨b, off + j, none⟩) (hk b hlb fun e => q2 (.inr (.inl e)))).trans (hc j hj)⟩
    · obtain ⟨q1, q2⟩ := h3 a hn ha
      exact ⟨.inl (.inl q1), fun e => q2 (hsp _ (r.gN _ q1).2 e)⟩
  refine ⟨⟨ho, fun i hi => ?_, own_keepH r.oW fun b e hl => hk b hl (r.dW b e).2.1, own_keepH r.oB fun b e hl => hk b hl (r.dB b e).2.1, fun i hi => hrow _ _ (r.rB i hi),
      r.rF.keep hsz fun a h1 h2 h3 => hk _ h3 fun e => (r.inF a h1 h2).2 (.inr (.inl e)), fun a h1 h2 => ⟨(r.inF a h1 h2).1.imp id fun q => .inl (.inl q), fun e => (r.inF a h1 h2).2 (hsp _ (r.fLt a h1 h2) e)⟩, ?_, ?_, ?_, ?_, ?_⟩, ⟨?_, ?_⟩, ?_⟩
  · by_cases hlt' : i < sure.length
    · have := hrow _ _ (r.rS i hlt')
      show Rr w' _ h _ (V.ss ++ [.slice A n c])[i]? ((sure ++ [xs]).getD i [])
      rw [List.getElem?_append_left (by omega), List.getD_eq_getElem?_getD, List.getElem?_append_left hlt', ← List.getD_eq_getElem?_getD]
      exact this
    · have hil : i = sure.length := by rw [List.length_append, List.length_singleton] at hi; omega
      subst hil
      show Rr w' _ h _ (V.ss ++ [.slice A n c])[sure.length]? ((sure ++ [xs]).getD sure.length [])
      rw [List.getElem?_append_right (by omega), hbl, Nat.sub_self, List.getD_eq_getElem?_getD, List.getElem?_append_right (Nat.le_refl _), Nat.sub_self]
      refine ⟨A, n, c, rfl, ⟨hr.len, hr.cap, hr.max, hr.nil, fun hn => ?_⟩, fun a h1 h2 => ⟨.inr ⟨a, h1, h2, rfl⟩, ?_⟩⟩
      · obtain ⟨b, off, e, hlb, hc⟩ := hr.at_ hn
        refine ⟨b, off, e, Nat.lt_of_lt_of_le hlb hg.size, fun j hj => (World.cell?_of_block (a := ⟨b, off + j, none⟩) (hg.block b hlb fun e' => ?_)).trans (hc j hj)⟩
        have q1 := hA _ hn e
        have q2 := (r.gN b (hG b e'.symm)).2
        have : (⟨b, off, none⟩ : Addr).block = b := rfl
        omega
      · have q1 := hA a h1 h2
        have q3 := hAl a h1 h2
        rintro (e | e | e | e)
        · have := (r.gN h (r.inG h (.inl rfl))).2; omega
        · rcases hnew _ e with e | e
          · have := (r.gN _ (hG _ e)).2; omega
          · omega
        · have := (r.gN _ (r.inG _ (.inr (.inr (.inl e))))).2; omega
        · have := (r.gN _ (r.inG _ (.inr (.inr (.inr e))))).2; omega
  · rintro b (e | e | e | e)
    · exact .inl (.inl (r.inG b (.inl e)))
    · exact .inl (.inr e)
    · exact .inl (.inl (r.inG b (.inr (.inr (.inl e)))))
    · exact .inl (.inl (r.inG b (.inr (.inr (.inr e)))))
  · rintro b ((e | e) | ⟨a, h1, h2, rfl⟩)
    · exact ⟨(r.gN b e).1, Nat.lt_of_lt_of_le (r.gN b e).2 hsz⟩
    · refine ⟨?_, hlt b e⟩
      rcases hnew b e with e | e
      · exact (r.gN b (hG b e)).1
      · omega
    · exact ⟨Nat.le_trans hN (hA a h1 h2), Nat.lt_of_lt_of_le (hAl a h1 h2) hg.size⟩
  · intro b e
    rcases hnew b e with e' | e'
    · exact r.dS b e'
    · refine ⟨fun q => ?_, fun q => ?_, fun q => ?_⟩
      · have := (r.gN h (r.inG h (.inl rfl))).2; omega
      · have := (r.gN b (r.inG b (.inr (.inr (.inl q))))).2; omega
      · have := (r.gN b (r.inG b (.inr (.inr (.inr q))))).2; omega
  · intro b e
    refine ⟨(r.dW b e).1, fun e' => (r.dW b e).2.1 (hnotlow b (r.gN b (r.inG b (.inr (.inr (.inl e))))).2 e'), (r.dW b e).2.2⟩
  · intro b e
    refine ⟨(r.dB b e).1, fun e' => (r.dB b e).2.1 (hnotlow b (r.gN b (r.inG b (.inr (.inr (.inr e))))).2 e'), (r.dB b e).2.2⟩
  · exact (hb.mono hN).grown hg (Nat.le_trans hN hb.size) fun b e => (r.gN b (hG b e)).1
  · exact fun b h1 h2 => hk b h1 fun e => h2 (hG b e)
  · rintro b ((e | e) | ⟨a, h1, h2, rfl⟩)
    · exact .inl e
    · rcases hnew b e with e | e
      · exact .inl (hG b e)
      · exact .inr (by omega)
    · exact .inr (hA a h1 h2)
/-- More blocks may be meant. -/
theorem Rest.more (r : Rest N w h sure zs rs fails G V) {G' : Nat → Prop} (hG : ∀ b, G b → G' b) (hN : ∀ b, G' b → N ≤ b ∧ b < w.heap.size) : Rest N w h sure zs rs fails G' V :=
  ⟨r.oS, fun i hi => (by obtain ⟨A, n, c, h1, h2, h3⟩ := r.rS i hi; exact ⟨A, n, c, h1, h2, fun a q1 q2 => ⟨hG _ (h3 a q1 q2).1, (h3 a q1 q2).2⟩⟩), r.oW, r.oB,
    fun i hi => (by obtain ⟨A, n, c, h1, h2, h3⟩ := r.rB i hi; exact ⟨A, n, c, h1, h2, fun a q1 q2 => ⟨hG _ (h3 a q1 q2).1, (h3 a q1 q2).2⟩⟩), r.rF,
    fun a h1 h2 => ⟨(r.inF a h1 h2).1.imp id (hG _), (r.inF a h1 h2).2⟩, fun b e => hG b (r.inG b e), hN, r.dS, r.dW, r.dB⟩
/-- A disk of no sector. -/
theorem Rest.start {w : World} {h : Nat} (hN : N ≤ h) (hl : h < w.heap.size) : Rest N w h [] [] [] [] (fun b => b = h) ⟨.slice none 0 0, [], .slice none 0 0, .slice none 0 0, [], none, 0, 0⟩ := by
  refine ⟨World.ownsRow_nil _ _ _ _, fun i hi => absurd hi (by simp), World.ownsRow_nil _ _ _ _, World.ownsRow_nil _ _ _ _, fun i hi => absurd hi (by simp), RI.nil_ _ _, fun a h1 => absurd h1 (by simp), ?_, ?_, ?_, ?_, ?_⟩
  · rintro b (e | e | e | e)
    · exact e
    · simp [Value.ownBlock] at e
    · simp [Value.ownBlock] at e
    · simp [Value.ownBlock] at e
  · rintro b rfl; exact ⟨hN, hl⟩
  · intro b e; simp [Value.ownBlock] at e
  · intro b e; simp [Value.ownBlock] at e
  · intro b e; simp [Value.ownBlock] at e
end
end Go.Proofs.Ytammgingmkdfhaa.S19
