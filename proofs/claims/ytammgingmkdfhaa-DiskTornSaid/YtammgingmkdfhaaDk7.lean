/-
  The document's own disk in memory: where it lies, and what abides where its block is written. No statement is proved here.
-/
import Derived.Test.YtammgingmkdfhaaDk6
namespace Go.Proofs.Ytammgingmkdfhaa.S19
set_option linter.unusedSimpArgs false
set_option linter.unusedVariables false
set_option maxRecDepth 4096
open Go.RowKit

/-- The values that lie in the document's own disk. -/
structure RkV where
  vS : Value
  ss : List Value
  vW : Value
  vB : Value
  bs : List Value
  AF : Option Addr
  nF : Nat
  cF : Nat
def spine (h : Nat) (V : RkV) (b : Nat) : Prop := b = h ∨ V.vS.ownBlock = some b ∨ V.vW.ownBlock = some b ∨ V.vB.ownBlock = some b
def pendZ (p : List (Nat × List UInt8)) : List Int := p.map fun x => (x.1 : Int)
def pendR (p : List (Nat × List UInt8)) : List (List UInt8) := p.map fun x => x.2
theorem pendZ_len (p : List (Nat × List UInt8)) : (pendZ p).length = p.length := by simp [pendZ]
theorem pendR_len (p : List (Nat × List UInt8)) : (pendR p).length = p.length := by simp [pendR]
theorem pendR_at (p : List (Nat × List UInt8)) (i : Nat) : (pendR p).getD i [] = (p.getD i (0, [])).2 := by
  simp only [pendR, List.getD_eq_getElem?_getD, List.getElem?_map]
  cases p[i]? <;> rfl
/-- A row that reads so, in the blocks of G, but not where the disk itself is written. -/
def Rr (w : World) (G : Nat → Prop) (h : Nat) (V : RkV) (u : Option Value) (xs : List UInt8) : Prop := ∃ A n c, u = some (.slice A n c) ∧ Rd w A n c xs ∧ ∀ a, 0 < n → A = some a → G a.block ∧ ¬ spine h V a.block
/-- All but the block of the disk itself. -/
structure Rest (N : Nat) (w : World) (h : Nat) (sure : List (List UInt8)) (zs : List Int) (rs : List (List UInt8)) (fails : List Int) (G : Nat → Prop) (V : RkV) : Prop where
  oS : w.ownsRow N 30 1 V.vS sure.length V.ss
  rS : ∀ i, i < sure.length → Rr w G h V V.ss[i]? (sure.getD i [])
  oW : w.ownsRow N 3 1 V.vW zs.length (zv zs)
  oB : w.ownsRow N 30 1 V.vB rs.length V.bs
  rB : ∀ i, i < rs.length → Rr w G h V V.bs[i]? (rs.getD i [])
  rF : RI w .i64 V.AF V.nF V.cF fails
  inF : ∀ a, 0 < V.nF → V.AF = some a → (a.block < N ∨ G a.block) ∧ ¬ spine h V a.block
  inG : ∀ b, spine h V b → G b
  gN : ∀ b, G b → N ≤ b ∧ b < w.heap.size
  dS : ∀ b, V.vS.ownBlock = some b → b ≠ h ∧ V.vW.ownBlock ≠ some b ∧ V.vB.ownBlock ≠ some b
  dW : ∀ b, V.vW.ownBlock = some b → b ≠ h ∧ V.vS.ownBlock ≠ some b ∧ V.vB.ownBlock ≠ some b
  dB : ∀ b, V.vB.ownBlock = some b → b ≠ h ∧ V.vS.ownBlock ≠ some b ∧ V.vW.ownBlock ≠ some b
abbrev rkA (L : Value) (V : RkV) (stop cnt : Int) (off : Bool) : Array Value := #[L, V.vS, V.vW, V.vB, .slice V.AF V.nF V.cF, .int .i64 stop, .int .i64 cnt, .bool off]
/-- The document's own disk. -/
structure Rk (N : Nat) (w : World) (h : Nat) (L : Value) (D : Dk) (G : Nat → Prop) : Prop where
  ok : D.Ok
  ex : ∃ V, Bk w h 42 #[L, V.vS, V.vW, V.vB, .slice V.AF V.nF V.cF, .int .i64 D.stop, .int .i64 (D.cnt : Int), .bool D.off] ∧ Rest N w h D.sure (pendZ D.pend) (pendR D.pend) D.fails G V
section
variable {N : Nat} {w w' : World} {h : Nat} {G G' : Nat → Prop} {V : RkV} {sure : List (List UInt8)} {zs : List Int} {rs : List (List UInt8)} {fails : List Int}
theorem Rr.keep {u : Option Value} {xs : List UInt8} (r : Rr w G h V u xs) (hs : w.heap.size ≤ w'.heap.size) (hk : ∀ b, G b → ¬ spine h V b → b < w.heap.size → w'.heap[b]? = w.heap[b]?) : Rr w' G h V u xs := by
  obtain ⟨A, n, c, h1, h2, h3⟩ := r
  refine ⟨A, n, c, h1, ⟨h2.len, h2.cap, h2.max, h2.nil, fun hn => ?_⟩, h3⟩
  obtain ⟨b, off, rfl, hb, hc⟩ := h2.at_ hn
  obtain ⟨q1, q2⟩ := h3 _ hn rfl
  exact ⟨b, off, rfl, Nat.lt_of_lt_of_le hb hs, fun j hj => (World.cell?_of_block (a := ⟨b, off + j, none⟩) (hk b q1 q2 hb)).trans (hc j hj)⟩
theorem own_keepH {B e size n : Nat} {v : Value} {xs : List Value} (ho : w.ownsRow B e size v n xs) (hk : ∀ b, v.ownBlock = some b → b < w.heap.size → w'.heap[b]? = w.heap[b]?) : w'.ownsRow B e size v n xs := by
  refine ⟨ho.1, ?_⟩
  rcases ho.2 with h1 | ⟨g, cap, cur, h1, h2, h3, h4⟩
  · exact .inl h1
  · exact .inr ⟨g, cap, cur, h1, h2, (hk g (by rw [h1]; rfl) (Array.getElem?_eq_some_iff.1 h3).1).trans h3, h4⟩
/-- What abides where the disk's blocks, and those below N, are as they were. -/
theorem Rest.keep (r : Rest N w h sure zs rs fails G V) (hs : w.heap.size ≤ w'.heap.size) (hk : ∀ b, (b < N ∨ G b) → b < w.heap.size → w'.heap[b]? = w.heap[b]?) : Rest N w' h sure zs rs fails G V :=
  ⟨own_keepH r.oS fun b hb hlt => hk b (.inr (r.inG b (.inr (.inl hb)))) hlt,
    fun i hi => (r.rS i hi).keep hs fun b hb _ hlt => hk b (.inr hb) hlt,
    own_keepH r.oW fun b hb hlt => hk b (.inr (r.inG b (.inr (.inr (.inl hb))))) hlt,
    own_keepH r.oB fun b hb hlt => hk b (.inr (r.inG b (.inr (.inr (.inr hb))))) hlt,
    fun i hi => (r.rB i hi).keep hs fun b hb _ hlt => hk b (.inr hb) hlt,
    r.rF.keep hs fun a h1 h2 h3 => hk _ (r.inF a h1 h2).1 h3, r.inF, r.inG, fun b hb => ⟨(r.gN b hb).1, Nat.lt_of_lt_of_le (r.gN b hb).2 hs⟩, r.dS, r.dW, r.dB⟩
/-- The disk's own block is written. -/
theorem Rest.poke (r : Rest N w h sure zs rs fails G V) (i : Nat) (u : Value) : Rest N (w.setCell ⟨h, i, none⟩ u) h sure zs rs fails G V := by
  have hs : w.heap.size ≤ (w.setCell ⟨h, i, none⟩ u).heap.size := by simp
  have hk : ∀ b, b ≠ h → (w.setCell ⟨h, i, none⟩ u).heap[b]? = w.heap[b]? := fun b hb => Below.heap_setCell w ⟨h, i, none⟩ u b hb
  refine ⟨own_keepH r.oS fun b hb _ => hk b (r.dS b hb).1, fun j hj => (r.rS j hj).keep hs fun b _ hb _ => hk b fun e => hb (.inl e),
    own_keepH r.oW fun b hb _ => hk b (r.dW b hb).1, own_keepH r.oB fun b hb _ => hk b (r.dB b hb).1, fun j hj => (r.rB j hj).keep hs fun b _ hb _ => hk b fun e => hb (.inl e),
    r.rF.keep hs fun a h1 h2 _ => hk _ fun e => (r.inF a h1 h2).2 (.inl e), r.inF, r.inG, fun b hb => ⟨(r.gN b hb).1, Nat.lt_of_lt_of_le (r.gN b hb).2 hs⟩, r.dS, r.dW, r.dB⟩
theorem Rk.keep {L : Value} {D : Dk} (r : Rk N w h L D G) (hs : w.heap.size ≤ w'.heap.size) (hk : ∀ b, (b < N ∨ G b) → b < w.heap.size → w'.heap[b]? = w.heap[b]?) : Rk N w' h L D G := by
  obtain ⟨V, h1, h2⟩ := r.ex
  exact ⟨r.ok, V, (hk h (.inr (h2.inG h (.inl rfl))) h1.lt).trans h1, h2.keep hs hk⟩
theorem Rk.grow {L : Value} {D : Dk} (r : Rk N w h L D G) (hb : Below w.heap.size w w') : Rk N w' h L D G := r.keep hb.size fun b _ hlt => hb.block b hlt
theorem Rk.lt {L : Value} {D : Dk} (r : Rk N w h L D G) : ∀ b, G b → N ≤ b ∧ b < w.heap.size := by
  obtain ⟨V, h1, h2⟩ := r.ex
  exact h2.gN
theorem Mv.poke (hN : N ≤ h) (hG : G h) (w : World) (i : Nat) (u : Value) : Mv N G w (w.setCell ⟨h, i, none⟩ u) :=
  ⟨(Below.refl _ _).setCell (p := ⟨h, i, none⟩) hN u, fun b _ hb => Below.heap_setCell w ⟨h, i, none⟩ u b (by rintro rfl; exact hb hG)⟩
end
section
variable {N : Nat} {w wl w' : World} {h : Nat} {G : Nat → Prop} {V : RkV} {sure : List (List UInt8)} {zs : List Int} {rs : List (List UInt8)} {fails : List Int}
/-- A block that has come, or stayed. -/
abbrev plus (G : Nat → Prop) (v : Value) : Nat → Prop := fun b => G b ∨ v.ownBlock = some b
/-- What lies elsewhere abides where a row grows. -/
theorem grown_keep (hb : Below w.heap.size w wl) {row : Option Nat} (hg : wl.grownBy w' row) : ∀ b, b < w.heap.size → row ≠ some b → w'.heap[b]? = w.heap[b]? :=
  fun b h1 h2 => (hg.block b (Nat.lt_of_lt_of_le h1 hb.size) (Ne.symm h2)).trans (hb.block b h1)
/-- One number more. -/
theorem Rest.pushW (r : Rest N w h sure zs rs fails G V) (hb : Below w.heap.size w wl) {v' : Value} {z : Int} (ho : w'.ownsRow N 3 1 v' (zs ++ [z]).length (zv (zs ++ [z]))) (hg : wl.grownBy w' V.vW.ownBlock) (hv : v'.ownBlock = V.vW.ownBlock ∨ v'.ownBlock = some wl.heap.size) (hlt : ∀ b, v'.ownBlock = some b → b < w'.heap.size) :
    Rest N w' h sure (zs ++ [z]) rs fails (plus G v') { V with vW := v' } ∧ Mv N G w w' ∧ (∀ b, plus G v' b → G b ∨ w.heap.size ≤ b) := by
  have hsz : w.heap.size ≤ w'.heap.size := Nat.le_trans hb.size hg.size
  have hk := grown_keep hb hg
  have hG : ∀ b, V.vW.ownBlock = some b → G b := fun b e => r.inG b (.inr (.inr (.inl e)))
  have hnew : ∀ b, v'.ownBlock = some b → V.vW.ownBlock = some b ∨ w.heap.size ≤ b := fun b e => by
    rcases hv with hv | hv
    · exact .inl (hv ▸ e)
    · rw [hv] at e
      have := Option.some.inj e
      have := hb.size
      exact .inr (by omega)
  have hrow : ∀ u xs, Rr w G h V u xs → Rr w' (plus G v') h { V with vW := v' } u xs := by
    rintro u xs ⟨A, n, c, h1, h2, h3⟩
    refine ⟨A, n, c, h1, ⟨h2.len, h2.cap, h2.max, h2.nil, fun hn => ?_⟩, fun a hn ha => ?_⟩
    · obtain ⟨b, off, rfl, hlb, hc⟩ := h2.at_ hn
      obtain ⟨q1, q2⟩ := h3 _ hn rfl
      exact ⟨b, off, rfl, Nat.lt_of_lt_of_le hlb hsz, fun j hj => (World.cell?_of_block (a := ⟨b, off + j, none⟩) (hk b hlb fun e => q2 (.inr (.inr (.inl e))))).trans (hc j hj)⟩
    · obtain ⟨q1, q2⟩ := h3 a hn ha
      refine ⟨.inl q1, ?_⟩
      rintro (e | e | e | e)
      · exact q2 (.inl e)
      · exact q2 (.inr (.inl e))
      · rcases hnew _ e with e | e
        · exact q2 (.inr (.inr (.inl e)))
        · have := (r.gN _ q1).2; omega
      · exact q2 (.inr (.inr (.inr e)))
  refine ⟨⟨own_keepH r.oS fun b e hl => hk b hl (r.dS b e).2.1, fun i hi => hrow _ _ (r.rS i hi), ho, own_keepH r.oB fun b e hl => hk b hl (r.dB b e).2.2, fun i hi => hrow _ _ (r.rB i hi),
      r.rF.keep hsz fun a h1 h2 h3 => hk _ h3 fun e => (r.inF a h1 h2).2 (.inr (.inr (.inl e))), fun a h1 h2 => ⟨(r.inF a h1 h2).1.imp id .inl, ?_⟩, ?_, ?_, ?_, ?_, ?_⟩, ⟨?_, ?_⟩, ?_⟩
  · have hlA : a.block < w.heap.size := by
      obtain ⟨b, off, e, hbb, _⟩ := r.rF.at_ h1
      rw [h2] at e
      injection e with e
      subst e
      exact hbb
    rintro (e | e | e | e)
    · exact (r.inF a h1 h2).2 (.inl e)
    · exact (r.inF a h1 h2).2 (.inr (.inl e))
    · rcases hnew _ e with e | e
      · exact (r.inF a h1 h2).2 (.inr (.inr (.inl e)))
      · omega
    · exact (r.inF a h1 h2).2 (.inr (.inr (.inr e)))
  · rintro b (e | e | e | e)
    · exact .inl (r.inG b (.inl e))
    · exact .inl (r.inG b (.inr (.inl e)))
    · exact .inr e
    · exact .inl (r.inG b (.inr (.inr (.inr e))))
  · rintro b (e | e)
    · exact ⟨(r.gN b e).1, Nat.lt_of_lt_of_le (r.gN b e).2 hsz⟩
    · refine ⟨?_, hlt b e⟩
      rcases hnew b e with e | e
      · exact (r.gN b (hG b e)).1
      · have := (r.gN h (r.inG h (.inl rfl))); omega
  · intro b e
    refine ⟨(r.dS b e).1, fun e' => ?_, (r.dS b e).2.2⟩
    rcases hnew b e' with e' | e'
    · exact (r.dS b e).2.1 e'
    · have := (r.gN b (r.inG b (.inr (.inl e)))).2; omega
  · intro b e
    rcases hnew b e with e' | e'
    · exact r.dW b e'
    · refine ⟨fun q => ?_, fun q => ?_, fun q => ?_⟩
      · have := (r.gN h (r.inG h (.inl rfl))).2; omega
      · have := (r.gN b (r.inG b (.inr (.inl q)))).2; omega
      · have := (r.gN b (r.inG b (.inr (.inr (.inr q))))).2; omega
  · intro b e
    refine ⟨(r.dB b e).1, (r.dB b e).2.1, fun e' => ?_⟩
    rcases hnew b e' with e' | e'
    · exact (r.dB b e).2.2 e'
    · have := (r.gN b (r.inG b (.inr (.inr (.inr e))))).2; omega
  · have hN : N ≤ w.heap.size := by have := r.gN h (r.inG h (.inl rfl)); omega
    exact (hb.mono hN).grown hg (Nat.le_trans hN hb.size) fun b e => (r.gN b (hG b e)).1
  · exact fun b h1 h2 => hk b h1 fun e => h2 (hG b e)
  · rintro b (e | e)
    · exact .inl e
    · rcases hnew b e with e | e
      · exact .inl (hG b e)
      · exact .inr e
/-- One row more. -/
theorem Rest.pushB (r : Rest N w h sure zs rs fails G V) (hb : Below w.heap.size w wl) {v' u : Value} {xs : List UInt8} {A : Option Addr} {n c : Nat} (ho : w'.ownsRow N 30 1 v' (rs ++ [xs]).length (V.bs ++ [u])) (hg : wl.grownBy w' V.vB.ownBlock) (hv : v'.ownBlock = V.vB.ownBlock ∨ v'.ownBlock = some wl.heap.size) (hlt : ∀ b, v'.ownBlock = some b → b < w'.heap.size)
    (hu : u = .slice A n c) (hr : Rd wl A n c xs) (hA : ∀ a, 0 < n → A = some a → w.heap.size ≤ a.block) :
    Rest N w' h sure zs (rs ++ [xs]) fails (fun b => plus G v' b ∨ ∃ a, 0 < n ∧ A = some a ∧ a.block = b) { V with vB := v', bs := V.bs ++ [u] } ∧ Mv N G w w' ∧ (∀ b, (plus G v' b ∨ ∃ a, 0 < n ∧ A = some a ∧ a.block = b) → G b ∨ w.heap.size ≤ b) := by
  have hsz : w.heap.size ≤ w'.heap.size := Nat.le_trans hb.size hg.size
  have hk := grown_keep hb hg
  have hN : N ≤ w.heap.size := by have := r.gN h (r.inG h (.inl rfl)); omega
  have hG : ∀ b, V.vB.ownBlock = some b → G b := fun b e => r.inG b (.inr (.inr (.inr e)))
  have hnew : ∀ b, v'.ownBlock = some b → V.vB.ownBlock = some b ∨ b = wl.heap.size := fun b e => by
    rcases hv with hv | hv
    · exact .inl (hv ▸ e)
    · rw [hv] at e
      exact .inr (Option.some.inj e).symm
  have hbl : V.bs.length = rs.length := by have := r.oB.1; omega
  have hrow : ∀ u xs, Rr w G h V u xs → Rr w' (fun b => plus G v' b ∨ ∃ a, 0 < n ∧ A = some a ∧ a.block = b) h { V with vB := v', bs := V.bs ++ [.slice A n c] } u xs := by
    rintro u xs ⟨A, n, c, h1, h2, h3⟩
    refine ⟨A, n, c, h1, ⟨h2.len, h2.cap, h2.max, h2.nil, fun hn => ?_⟩, fun a hn ha => ?_⟩
    · obtain ⟨b, off, rfl, hlb, hc⟩ := h2.at_ hn
      obtain ⟨q1, q2⟩ := h3 _ hn rfl
      exact ⟨b, off, rfl, Nat.lt_of_lt_of_le hlb hsz, fun j hj => (World.cell?_of_block (a := ⟨b, off + j, none⟩) (hk b hlb fun e => q2 (.inr (.inr (.inr e))))).trans (hc j hj)⟩
    · obtain ⟨q1, q2⟩ := h3 a hn ha
      refine ⟨.inl (.inl q1), ?_⟩
      rintro (e | e | e | e)
      · exact q2 (.inl e)
      · exact q2 (.inr (.inl e))
      · exact q2 (.inr (.inr (.inl e)))
      · rcases hnew _ e with e | e
        · exact q2 (.inr (.inr (.inr e)))
        · have := (r.gN _ q1).2; have := hb.size; omega
  subst hu
  have hAl : ∀ a, 0 < n → A = some a → a.block < wl.heap.size := fun a h1 h2 => by
    obtain ⟨b, off, e, hbb, _⟩ := hr.at_ h1
    rw [h2] at e
    injection e with e
    subst e
    exact hbb
  have hAv : ∀ a, 0 < n → A = some a → v'.ownBlock ≠ some a.block := fun a h1 h2 e => by
    have q1 := hAl a h1 h2
    have q2 := hA a h1 h2
    rcases hnew _ e with e | e
    · have := (r.gN _ (hG _ e)).2; omega
    · omega
  refine ⟨⟨own_keepH r.oS fun b e hl => hk b hl (r.dS b e).2.2, fun i hi => hrow _ _ (r.rS i hi), own_keepH r.oW fun b e hl => hk b hl (r.dW b e).2.2, ho, fun i hi => ?_,
      r.rF.keep hsz fun a h1 h2 h3 => hk _ h3 fun e => (r.inF a h1 h2).2 (.inr (.inr (.inr e))), fun a h1 h2 => ⟨(r.inF a h1 h2).1.imp id fun q => .inl (.inl q), ?_⟩, ?_, ?_, ?_, ?_, ?_⟩, ⟨?_, ?_⟩, ?_⟩
  · by_cases hlt' : i < rs.length
    · have := hrow _ _ (r.rB i hlt')
      show Rr w' _ h _ (V.bs ++ [.slice A n c])[i]? ((rs ++ [xs]).getD i [])
      rw [List.getElem?_append_left (by omega), List.getD_eq_getElem?_getD, List.getElem?_append_left hlt', ← List.getD_eq_getElem?_getD]
      exact this
    · have hil : i = rs.length := by rw [List.length_append, List.length_singleton] at hi; omega
      subst hil
      show Rr w' _ h _ (V.bs ++ [.slice A n c])[rs.length]? ((rs ++ [xs]).getD rs.length [])
      rw [List.getElem?_append_right (by omega), hbl, Nat.sub_self, List.getD_eq_getElem?_getD, List.getElem?_append_right (Nat.le_refl _), Nat.sub_self]
      refine ⟨A, n, c, rfl, ⟨hr.len, hr.cap, hr.max, hr.nil, fun hn => ?_⟩, fun a h1 h2 => ⟨.inr ⟨a, h1, h2, rfl⟩, ?_⟩⟩
      · obtain ⟨b, off, e, hlb, hc⟩ := hr.at_ hn
        refine ⟨b, off, e, Nat.lt_of_lt_of_le hlb hg.size, fun j hj => (World.cell?_of_block (a := ⟨b, off + j, none⟩) (hg.block b hlb fun e' => ?_)).trans (hc j hj)⟩
        have q1 := hA _ hn e
        have q2 := (r.gN b (hG b e'.symm)).2
        have : (⟨b, off, none⟩ : Addr).block = b := rfl
        omega
      · have q1 := hA a h1 h2
        rintro (e | e | e | e)
        · have := (r.gN h (r.inG h (.inl rfl))).2; omega
        · have := (r.gN _ (r.inG _ (.inr (.inl e)))).2; omega
        · have := (r.gN _ (r.inG _ (.inr (.inr (.inl e))))).2; omega
        · exact hAv a h1 h2 e
  · have hlA : a.block < w.heap.size := by
      obtain ⟨b, off, e, hbb, _⟩ := r.rF.at_ h1
      rw [h2] at e
      injection e with e
      subst e
      exact hbb
    rintro (e | e | e | e)
    · exact (r.inF a h1 h2).2 (.inl e)
    · exact (r.inF a h1 h2).2 (.inr (.inl e))
    · exact (r.inF a h1 h2).2 (.inr (.inr (.inl e)))
    · rcases hnew _ e with e | e
      · exact (r.inF a h1 h2).2 (.inr (.inr (.inr e)))
      · have := hb.size; omega
  · rintro b (e | e | e | e)
    · exact .inl (.inl (r.inG b (.inl e)))
    · exact .inl (.inl (r.inG b (.inr (.inl e))))
    · exact .inl (.inl (r.inG b (.inr (.inr (.inl e)))))
    · exact .inl (.inr e)
  · rintro b ((e | e) | ⟨a, h1, h2, rfl⟩)
    · exact ⟨(r.gN b e).1, Nat.lt_of_lt_of_le (r.gN b e).2 hsz⟩
    · refine ⟨?_, hlt b e⟩
      rcases hnew b e with e | e
      · exact (r.gN b (hG b e)).1
      · have := hb.size; omega
    · exact ⟨Nat.le_trans hN (hA a h1 h2), Nat.lt_of_lt_of_le (hAl a h1 h2) hg.size⟩
  · intro b e
    refine ⟨(r.dS b e).1, (r.dS b e).2.1, fun e' => ?_⟩
    rcases hnew b e' with e' | e'
    · exact (r.dS b e).2.2 e'
    · have := (r.gN b (r.inG b (.inr (.inl e)))).2; have := hb.size; omega
  · intro b e
    refine ⟨(r.dW b e).1, (r.dW b e).2.1, fun e' => ?_⟩
    rcases hnew b e' with e' | e'
    · exact (r.dW b e).2.2 e'
    · have := (r.gN b (r.inG b (.inr (.inr (.inl e))))).2; have := hb.size; omega
  · intro b e
    rcases hnew b e with e' | e'
    · exact r.dB b e'
    · have := hb.size
      refine ⟨fun q => ?_, fun q => ?_, fun q => ?_⟩
      · have := (r.gN h (r.inG h (.inl rfl))).2; omega
      · have := (r.gN b (r.inG b (.inr (.inl q)))).2; omega
      · have := (r.gN b (r.inG b (.inr (.inr (.inl q))))).2; omega
  · exact (hb.mono hN).grown hg (Nat.le_trans hN hb.size) fun b e => (r.gN b (hG b e)).1
  · exact fun b h1 h2 => hk b h1 fun e => h2 (hG b e)
  · rintro b ((e | e) | ⟨a, h1, h2, rfl⟩)
    · exact .inl e
    · rcases hnew b e with e | e
      · exact .inl (hG b e)
      · have := hb.size; exact .inr (by omega)
    · exact .inr (hA a h1 h2)
end
/-- What a call on the document's own disk comes to. -/
def PostR (N : Nat) (G : Nat → Prop) (h : Nat) (L : Value) (w : World) (D' : Dk) (v : Value) (e : Ending) (w' : World) : Prop :=
  e = .returned v ∧ ∃ G', Rk N w' h L D' G' ∧ (∀ b, G' b → G b ∨ w.heap.size ≤ b) ∧ Mv N G w w'
end Go.Proofs.Ytammgingmkdfhaa.S19
