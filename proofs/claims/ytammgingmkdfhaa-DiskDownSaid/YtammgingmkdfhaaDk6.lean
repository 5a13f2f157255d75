/-
  What a statement holds of a disk: what is calm, and what was written last. No statement is proved here.
-/
import Derived.Test.YtammgingmkdfhaaDk5
namespace Go.Proofs.Ytammgingmkdfhaa.S19
set_option linter.unusedSimpArgs false
set_option linter.unusedVariables false
set_option maxRecDepth 4096
open Go.RowKit

/-- A row of rows that a statement holds; it lies apart from F. -/
structure Ws (w : World) (N : Nat) (F : Nat → Prop) (b k : Nat) (f : Nat → List UInt8) : Prop where
  lo : N ≤ b
  own : ¬ F b
  ex : ∃ vs : Array Value, Bk w b 30 vs ∧ vs.size = k ∧ ∀ j, j < k → ∃ A n c, vs[j]? = some (.slice A n c) ∧ Rd w A n c (f j) ∧ ∀ a, 0 < n → A = some a → ¬ F a.block
/-- A row of bytes does not lie where slices lie. -/
theorem rd_ne {w : World} {A : Option Addr} {n c b : Nat} {xs : List UInt8} {T : TypeId} {vs : Array Value} (h : Rd w A n c xs) (hb : Bk w b T vs) (hv : ∀ (j : Nat) v, vs[j]? = some v → ∃ A n c, v = .slice A n c) : ∀ a, 0 < n → A = some a → a.block ≠ b := by
  rintro a hn rfl rfl
  obtain ⟨b', off, e, _, hc⟩ := h.at_ hn
  injection e with e
  subst e
  have h0 := hc 0 hn
  rw [hb.cell] at h0
  obtain ⟨A, n, c, e⟩ := hv _ _ h0
  cases e
theorem rd_farB {w : World} {A : Option Addr} {n c b : Nat} {xs : List UInt8} (h : Rd w A n c xs) (hb : ∀ a, 0 < n → A = some a → a.block ≠ b) (i : Nat) (u : Value) : Rd (w.setCell ⟨b, i, none⟩ u) A n c xs := by
  refine ⟨h.len, h.cap, h.max, h.nil, fun hn => ?_⟩
  obtain ⟨b', off, rfl, hl, hc⟩ := h.at_ hn
  exact ⟨b', off, rfl, by simpa using hl, fun j hj => (World.cell?_of_block (a := ⟨b', off + j, none⟩) (Below.heap_setCell w ⟨b, i, none⟩ u b' (hb _ hn rfl))).trans (hc j hj)⟩
section
variable {w w' : World} {N : Nat} {F F' : Nat → Prop} {b b' k k' : Nat} {f f' : Nat → List UInt8}
theorem Ws.slices (h : Ws w N F b k f) : ∃ vs : Array Value, Bk w b 30 vs ∧ vs.size = k ∧ ∀ (j : Nat) v, vs[j]? = some v → ∃ A n c, v = .slice A n c := by
  obtain ⟨vs, h1, h2, h3⟩ := h.ex
  refine ⟨vs, h1, h2, fun j v hv => ?_⟩
  have hj : j < k := by rw [← h2]; exact (Array.getElem?_eq_some_iff.1 hv).1
  obtain ⟨A, n, c, h4, _⟩ := h3 j hj
  rw [hv] at h4
  exact ⟨A, n, c, Option.some.inj h4⟩
theorem Ws.lt (h : Ws w N F b k f) : b < w.heap.size := by
  obtain ⟨vs, h1, _⟩ := h.ex
  exact h1.lt
theorem Ws.at_ (h : Ws w N F b k f) {j : Nat} (hj : j < k) : ∃ A n c, w.cell? ⟨b, j, none⟩ = some (.slice A n c) ∧ Rd w A n c (f j) ∧ ∀ a, 0 < n → A = some a → ¬ F a.block := by
  obtain ⟨vs, h1, _, h3⟩ := h.ex
  obtain ⟨A, n, c, h4, h5, h6⟩ := h3 j hj
  exact ⟨A, n, c, (h1.cell j).trans h4, h5, h6⟩
theorem Ws.frozen (h : Ws w N F b k f) (j : Nat) : w.frozen? ⟨b, j, none⟩ = false := by
  obtain ⟨vs, h1, _⟩ := h.ex
  exact h1.frozen j
theorem Ws.mv (h : Ws w N F b k f) (m : Mv N F w w') (hF : ∀ x, F' x → F x ∨ w.heap.size ≤ x) : Ws w' N F' b k f := by
  obtain ⟨vs, h1, h2, h3⟩ := h.ex
  refine ⟨h.lo, fun e => ?_, vs, m.bk h1 h.own, h2, fun j hj => ?_⟩
  · rcases hF _ e with e | e
    · exact h.own e
    · have := h1.lt; omega
  · obtain ⟨A, n, c, h4, h5, h6⟩ := h3 j hj
    refine ⟨A, n, c, h4, m.rd h5 h6, fun a hn ha e => ?_⟩
    rcases hF _ e with e | e
    · exact h6 a hn ha e
    · obtain ⟨b', off, e', hb', _⟩ := h5.at_ hn
      rw [ha] at e'
      injection e' with e'
      subst e'
      simp at e
      omega
theorem Ws.grow (h : Ws w N F b k f) (hb : Below w.heap.size w w') (hF : ∀ x, F x → x < w.heap.size) : Ws w' N F b k f := by
  obtain ⟨vs, h1, h2, h3⟩ := h.ex
  refine ⟨h.lo, h.own, vs, h1.below hb h1.lt, h2, fun j hj => ?_⟩
  obtain ⟨A, n, c, h4, h5, h6⟩ := h3 j hj
  exact ⟨A, n, c, h4, h5.below hb, h6⟩
theorem Ws.ext (h : Ws w N F b k f) (hf : ∀ j, j < k → f' j = f j) : Ws w N F b k f' := by
  obtain ⟨vs, h1, h2, h3⟩ := h.ex
  refine ⟨h.lo, h.own, vs, h1, h2, fun j hj => ?_⟩
  obtain ⟨A, n, c, h4, h5, h6⟩ := h3 j hj
  exact ⟨A, n, c, h4, by rw [hf j hj]; exact h5, h6⟩
def upd (f : Nat → List UInt8) (i : Nat) (xs : List UInt8) : Nat → List UInt8 := fun j => if j = i then xs else f j
theorem Ws.set (h : Ws w N F b k f) {i : Nat} (hi : i < k) {A : Option Addr} {n c : Nat} {xs : List UInt8} (hr : Rd w A n c xs) (hF : ∀ a, 0 < n → A = some a → ¬ F a.block) : Ws (w.setCell ⟨b, i, none⟩ (.slice A n c)) N F b k (upd f i xs) := by
  obtain ⟨vs, h1, h2, h7⟩ := h.slices
  obtain ⟨vs', h1', _, h3⟩ := h.ex
  have e : vs' = vs := by
    have := h1'.symm.trans h1
    injection this with this
    injection this
  subst e
  refine ⟨h.lo, h.own, _, h1.put i _, by simpa using h2, fun j hj => ?_⟩
  by_cases hji : j = i
  · subst hji
    refine ⟨A, n, c, by simp [h2, hj], ?_, hF⟩
    simp only [upd, if_pos]
    exact rd_farB hr (rd_ne hr h1 h7) _ _
  · obtain ⟨A', n', c', h4, h5, h6⟩ := h3 j hj
    refine ⟨A', n', c', by rw [Array.getElem?_setIfInBounds_ne (Ne.symm hji)]; exact h4, ?_, h6⟩
    simp only [upd, if_neg hji]
    exact rd_farB h5 (rd_ne h5 h1 h7) _ _
theorem Ws.other (h : Ws w N F b k f) (h' : Ws w N F b' k' f') (hne : b ≠ b') (i : Nat) (u : Value) : Ws (w.setCell ⟨b', i, none⟩ u) N F b k f := by
  obtain ⟨vs', h1', _, h7⟩ := h'.slices
  obtain ⟨vs, h1, h2, h3⟩ := h.ex
  refine ⟨h.lo, h.own, vs, h1.far (by exact hne) u, h2, fun j hj => ?_⟩
  obtain ⟨A, n, c, h4, h5, h6⟩ := h3 j hj
  exact ⟨A, n, c, h4, rd_farB h5 (rd_ne h5 h1' h7) _ _, h6⟩
theorem Ws.new {B : Nat} (ho : w.ownsRow B 30 1 (.slice (some ⟨b, 0, none⟩) k k) k (List.replicate k (.slice none 0 0))) (lo : N ≤ b) (own : ¬ F b) : Ws w N F b k (fun _ => []) := by
  rcases ho.2 with ⟨h1, _⟩ | ⟨g, cap, cur, h1, _, hh, hnc, hcm, hs, ht⟩
  · cases h1
  · injection h1 with h1 h2 h3
    injection h1 with h1
    injection h1 with h1
    subst h1 h3
    rw [Nat.mul_one] at hs ht
    rw [List.take_of_length_le (by rw [Array.length_toList, hs]; exact Nat.le_refl _)] at ht
    refine ⟨lo, own, cur, hh, hs, fun j hj => ⟨none, 0, 0, ?_, Rd.nil_ _, fun a hn => by omega⟩⟩
    have : cur.toList[j]? = some (.slice none 0 0) := by rw [ht]; simp [hj]
    simpa using this
end
theorem DC.keepSet (M : DC) {w : World} {N g b : Nat} {D : Dk} {F : Nat → Prop} (h : M.Is N w g D F) (hb : N ≤ b) (hF : ¬ F b) (i : Nat) (u : Value) : M.Is N (w.setCell ⟨b, i, none⟩ u) g D F :=
  M.keep h (by simp) fun x hx _ => Below.heap_setCell w ⟨b, i, none⟩ u x (by
    rintro rfl
    rcases hx with hx | hx
    · exact absurd hb (Nat.not_le.2 hx)
    · exact hF hx)

/-- What a statement knows of a disk. -/
structure Sd (k : Nat) (D : Dk) (cf lf : Nat → List UInt8) : Prop where
  ok : D.Ok
  len : D.sure.length = k
  last : ∀ j, j < k → lf j = D.atS j
  calm : ∀ j, j < k → cf j = [] ∨ (cf j = D.sure.getD j [] ∧ ∀ p ∈ D.pend, p.1 ≠ j)
theorem Sd.start {k : Nat} (h1 : 1 ≤ k) (h2 : k ≤ 256) : Sd k (Dk.new k) (fun _ => List.replicate 64 0) (fun _ => List.replicate 64 0) := by
  refine ⟨Dk.new_ok h1 h2, by simp [Dk.new], fun j hj => ?_, fun j hj => .inr ⟨?_, fun p hp => by simp [Dk.new] at hp⟩⟩
  · simp [Dk.atS, Dk.new, Dk.lastOf, List.getD, hj]
  · simp [Dk.new, List.getD, hj]
section
variable {k : Nat} {D : Dk} {cf lf : Nat → List UInt8}
theorem Sd.step (h : Sd k D cf lf) : Sd k D.step cf lf := by
  refine ⟨Dk.step_ok h.ok, by rw [Dk.step_sure]; exact h.len, fun j hj => ?_, fun j hj => ?_⟩
  · rw [h.last j hj, Dk.atS, Dk.atS, Dk.step_sure, Dk.step_pend]
  · rw [Dk.step_sure, Dk.step_pend]; exact h.calm j hj
theorem Sd.halt (h : Sd k D cf lf) : Sd k D.halt cf lf := ⟨Dk.halt_ok h.ok, h.len, h.last, h.calm⟩
theorem Sd.plan (h : Sd k D cf lf) (fs : List Int) (st : Int) : Sd k (D.plan fs st) cf lf := ⟨Dk.plan_ok h.ok _ _, h.len, h.last, h.calm⟩
theorem Sd.write0 (h : Sd k D cf lf) {i : Int} {b : List UInt8} (hc : D.writeC i b = 0) : ∃ n : Nat, i = n ∧ n < k ∧ b.length = 64 ∧ Sd k (D.write i b) (upd cf n []) (upd lf n b) := by
  have ho : D.off = false := by
    cases e : D.off
    · rfl
    · rw [Dk.writeC, if_pos e] at hc; cases hc
  have hh : D.has i ∧ b.length = 64 := by
    by_cases e : D.has i ∧ b.length = 64
    · exact e
    · rw [Dk.writeC, ho, if_neg (by simp), if_neg e] at hc; cases hc
  have hs : D.stepC = 0 := by rwa [Dk.writeC, ho, if_neg (by simp), if_pos hh] at hc
  have hw : D.write i b = { D.step with pend := D.pend ++ [(i.toNat, b)] } := by
    rw [Dk.write, ho, if_neg (by simp), if_pos hh, if_pos hs]
  have hr : 0 ≤ i ∧ i < (k : Int) := by have := hh.1; unfold Dk.has at this; rw [h.len] at this; exact this
  refine ⟨i.toNat, by omega, by omega, hh.2, ?_⟩
  refine ⟨Dk.write_ok h.ok i b, by rw [hw]; show D.step.sure.length = k; rw [Dk.step_sure]; exact h.len, fun j hj => ?_, fun j hj => ?_⟩
  · rw [hw]
    show upd lf i.toNat b j = Dk.lastOf j (D.pend ++ [(i.toNat, b)]) (D.step.sure.getD j [])
    rw [Dk.lastOf_append, Dk.step_sure, upd]
    by_cases e : j = i.toNat
    · rw [if_pos e, if_pos e.symm]
    · rw [if_neg e, if_neg (Ne.symm e), h.last j hj]; rfl
  · rw [hw]
    show upd cf i.toNat [] j = [] ∨ (upd cf i.toNat [] j = D.step.sure.getD j [] ∧ ∀ p ∈ D.pend ++ [(i.toNat, b)], p.1 ≠ j)
    rw [Dk.step_sure, upd]
    by_cases e : j = i.toNat
    · rw [if_pos e]; exact .inl rfl
    · rw [if_neg e]
      rcases h.calm j hj with h1 | ⟨h1, h2⟩
      · exact .inl h1
      · refine .inr ⟨h1, fun p hp => ?_⟩
        rw [List.mem_append, List.mem_singleton] at hp
        rcases hp with hp | rfl
        · exact h2 p hp
        · exact Ne.symm e
theorem Sd.writeN (h : Sd k D cf lf) {i : Int} {b : List UInt8} (hc : D.writeC i b ≠ 0) : Sd k (D.write i b) cf lf := by
  unfold Dk.write
  by_cases ho : D.off = true
  · rw [if_pos ho]; exact h
  · rw [if_neg ho]
    by_cases hh : D.has i ∧ b.length = 64
    · rw [if_pos hh]
      rw [Dk.writeC, if_neg ho, if_pos hh] at hc
      rw [if_neg hc]
      exact h.step
    · rw [if_neg hh]; exact h
theorem Sd.flush0 (h : Sd k D cf lf) (hc : D.stepC = 0) : Sd k D.flush lf lf := by
  have ho : ¬ D.off = true := by
    intro e
    rw [Dk.stepC, if_pos e] at hc; cases hc
  have hf : D.flush = { D.step with sure := Dk.laid D.pend D.sure, pend := [] } := by rw [Dk.flush, if_neg ho, if_pos hc]
  have hl : ∀ j, j < k → lf j = (Dk.laid D.pend D.sure).getD j [] := fun j hj => by
    rw [Dk.laid_at _ _ (by rw [h.len]; exact hj)]; exact h.last j hj
  refine ⟨Dk.flush_ok h.ok, by rw [hf]; show (Dk.laid _ _).length = k; rw [Dk.laid_len]; exact h.len, fun j hj => ?_, fun j hj => .inr ⟨?_, fun p hp => ?_⟩⟩
  · rw [hf]; exact hl j hj
  · rw [hf]; exact hl j hj
  · rw [hf] at hp; cases hp
theorem Sd.flushN (h : Sd k D cf lf) (hc : D.stepC ≠ 0) : Sd k D.flush cf lf := by
  unfold Dk.flush
  by_cases ho : D.off = true
  · rw [if_pos ho]; exact h
  · rw [if_neg ho, if_neg hc]; exact h.step
theorem Sd.up (h : Sd k D cf lf) (ch : List UInt8) (fs : List Int) (st : Int) : Sd k (D.up ch fs st) (fun j => (D.up ch fs st).sure.getD j []) (fun j => (D.up ch fs st).sure.getD j []) ∧ (D.up ch fs st).sure.length = k ∧ ∀ j, j < k → cf j = [] ∨ (D.up ch fs st).sure.getD j [] = cf j := by
  have hl : (D.up ch fs st).sure.length = k := by show (Dk.tear _ _ _ _).length = k; rw [Dk.tear_len]; exact h.len
  refine ⟨⟨Dk.up_ok h.ok _ _ _, hl, fun j hj => rfl, fun j hj => .inr ⟨rfl, fun p hp => by cases hp⟩⟩, hl, fun j hj => ?_⟩
  rcases h.calm j hj with h1 | ⟨h1, h2⟩
  · exact .inl h1
  · refine .inr ?_
    rw [h1]
    exact Dk.tear_at ch _ _ _ h2
theorem Sd.read (h : Sd k D cf lf) {j : Nat} (hj : j < k) : D.readC j = (if D.off = true then 6 else 0) ∧ (D.off = false → D.readB j = lf j) := by
  have hh : D.has j := by unfold Dk.has; rw [h.len]; omega
  have h1 : D.readC j = (if D.off = true then 6 else 0) := by
    unfold Dk.readC
    by_cases ho : D.off = true
    · rw [if_pos ho, if_pos ho]
    · rw [if_neg ho, if_neg ho, if_pos hh]
  refine ⟨h1, fun ho => ?_⟩
  simp [Dk.readB, h1, ho, h.last j hj]
theorem Sd.rows (h : Sd k D cf lf) {j : Nat} (hj : j < k) : (lf j).length = 64 ∧ (D.sure.getD j []).length = 64 :=
  ⟨by rw [h.last j hj]; exact Dk.atS_len h.ok (by rw [h.len]; exact hj), h.ok.rows _ (by rw [List.getD_eq_getElem?_getD, List.getElem?_eq_getElem (by rw [h.len]; exact hj)]; simp)⟩
end
end Go.Proofs.Ytammgingmkdfhaa.S19
