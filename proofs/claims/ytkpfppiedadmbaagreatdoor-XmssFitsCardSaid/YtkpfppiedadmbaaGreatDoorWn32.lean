/-
  Texts put together: WpKC. No statement is proved here.
-/
import Derived.Test.YtkpfppiedadmbaaGreatDoorWn31

/-
  The landed wplus.Sign: what holds where a leaf and the digits of a sum are laid, and while the signature grows. No statement is proved here.
-/
namespace Go.Proofs.YtkpfppiedadmbaaGreatDoor.S15
set_option linter.unusedSimpArgs false
set_option linter.unusedVariables false
set_option maxRecDepth 1024
open Go.RowKit Go.Shelf RD

theorem below_cells {B : Nat} {W : World} (g : Nat) (hg : B ≤ g) : ∀ (vs : List Value) (o : Nat) (X : World), Below B W X → Below B W (X.setCells g o vs)
  | [], _, _, h => h
  | v :: vs, o, X, h => below_cells g hg vs (o + 1) _ (h.setCell hg v)
theorem far_cells {g' : Nat} {t : TypeId} {cs : Array Value} (g : Nat) (hg : g' ≠ g) : ∀ (vs : List Value) (o : Nat) (X : World), Bk X g' t cs → Bk (X.setCells g o vs) g' t cs
  | [], _, _, h => h
  | v :: vs, o, X, h => far_cells g hg vs (o + 1) _ (h.far hg v)
theorem bk_cells {X : World} {g : Nat} {t : TypeId} {cs cs' : Array Value} (h : Bk X g t cs) (hl : cs.size = cs'.size) : Bk (X.setCells g 0 cs'.toList) g t cs' := by
  have := Bk.puts (g := g) (t := t) cs'.toList [] cs.toList [] X (by simpa using h) (by simpa using hl)
  simpa using this
theorem run_store_row {P : Program} {op : Oper} {ev : Operand → Value} {w : World} (ty : TypeId) (x y : Operand) (ho : op.op = .store ty x y) (g : Nat) (t : TypeId) (old cells : Array Value) (hx : ev x = .pointer (some ⟨g, 0, none⟩)) (hy : ev y = .agg cells)
    (hb : Bk w g t old) (hl : old.size = cells.size) (hi : (P.info? ty).map (·.size) = some cells.size) (h1 : cells.all (·.oneCell') = true) : (execOp ev op).run P w = .ok .skip (w.setCells g 0 cells.toList) := by
  unfold execOp
  simp only [ho, hx, hy, Instr.storeAt, Instr.sureAddr, Sem.run_bind, Sem.run_pure, Result.andThen_ok, run_storeVar_mid w g 0 ty cells (hb.there 0 _ (by omega)) hi h1]
/-- A block that holds no numbers is set. -/
theorem ri_far {X : World} {A : Option Addr} {n c g : Nat} {xs : List Nat} {T : TypeId} {cs : Array Value} (h : Ri X A n c xs) (hG : Bk X g T cs) (hv : ∀ (i : Nat) (v : Value), cs[i]? = some v → ∀ x : Int, v ≠ .int .i64 x) (hn : 0 < n) : ∀ b off, A = some ⟨b, off, none⟩ → b ≠ g := by
  rintro b off rfl rfl
  obtain ⟨b', off', e, hb, hc⟩ := h.at_ hn
  injection e with e
  injection e with e1 e2
  subst e1 e2
  have h0 := hc 0 hn
  rw [hG.cell] at h0
  exact hv _ _ h0 _ rfl
theorem ri_cells {X : World} {A : Option Addr} {n c g : Nat} {xs : List Nat} {T : TypeId} {cs : Array Value} (h : Ri X A n c xs) (hG : Bk X g T cs) (hv : ∀ (i : Nat) (v : Value), cs[i]? = some v → ∀ x : Int, v ≠ .int .i64 x) (o : Nat) (vs : List Value) : Ri (X.setCells g o vs) A n c xs := by
  refine ⟨h.len, h.cap, h.max, h.nil, fun hn => ?_⟩
  obtain ⟨b, off, rfl, hb, hc⟩ := h.at_ hn
  have hne := ri_far h hG hv hn b off rfl
  have hbl : ∀ (vs : List Value) (o : Nat) (Y : World), (Y.setCells g o vs).heap[b]? = Y.heap[b]? ∧ (Y.setCells g o vs).heap.size = Y.heap.size := by
    intro vs
    induction vs with
    | nil => intro o Y; exact ⟨rfl, rfl⟩
    | cons v vs ih =>
      intro o Y
      obtain ⟨h1, h2⟩ := ih (o + 1) (Y.setCell ⟨g, o, none⟩ v)
      exact ⟨h1.trans (Below.heap_setCell Y ⟨g, o, none⟩ v b hne), h2.trans (by simp)⟩
  obtain ⟨h1, h2⟩ := hbl vs o X
  refine ⟨b, off, rfl, by rw [h2]; exact hb, fun j hj => ?_⟩
  exact (World.cell?_of_block (a := ⟨b, off + j, none⟩) h1).trans (hc j hj)
theorem ri_below {X Y : World} {A : Option Addr} {n c : Nat} {xs : List Nat} (h : Ri X A n c xs) (hb : Below X.heap.size X Y) : Ri Y A n c xs := h.keep hb.size fun p hp => hb.cell hp
/-- The zero of a leaf. -/
abbrev zLf : Array Value := #[.slice none 0 0, .int .u32 0, .int .u64 0, .int .u32 0]
/-- What holds where a leaf and the digits are laid, in whatever order. -/
structure R3 (w : World) (gm : Nat) (mk lf : Array Value) (ds : List Nat) (g : Value × Nat × Nat) (L : Array Bool) (X : World) : Prop where
  bel : Below w.heap.size w X
  bx : Bk X gm 26 mk
  sz : L.size = 12
  a7 : L.getD 7 false = true → ∃ A c, g.1 = .slice A 67 c ∧ Ri X A 67 c ds
  a8 : L.getD 8 false = true → gm < g.2.1 ∧ w.heap.size ≤ g.2.1 ∧ Bk X g.2.1 85 (if L.getD 10 false = true then lf else zLf)
  a9 : L.getD 9 false = true → gm < g.2.2 ∧ w.heap.size ≤ g.2.2 ∧ Bk X g.2.2 86 #[if L.getD 11 false = true then g.1 else .slice none 0 0]
  ne : L.getD 8 false = true → L.getD 9 false = true → g.2.1 ≠ g.2.2
  c10 : L.getD 10 false = true → L.getD 8 false = true
  c11 : L.getD 11 false = true → L.getD 9 false = true ∧ L.getD 7 false = true
section
variable {w X : World} {gm : Nat} {mk lf : Array Value} {ds : List Nat} {g : Value × Nat × Nat} {L : Array Bool}
theorem R3.pass (h : R3 w gm mk lf ds g L X) (k : Nat) (hk : k < 7) : R3 w gm mk lf ds g (L.setIfInBounds k true) X := by
  have e : ∀ j, 7 ≤ j → (L.setIfInBounds k true).getD j false = L.getD j false := fun j hj => SG.getD_ne (by omega)
  refine ⟨h.bel, h.bx, by simpa using h.sz, ?_, ?_, ?_, ?_, ?_, ?_⟩
  · rw [e 7 (by omega)]; exact h.a7
  · rw [e 8 (by omega), e 10 (by omega)]; exact h.a8
  · rw [e 9 (by omega), e 11 (by omega)]; exact h.a9
  · rw [e 8 (by omega), e 9 (by omega)]; exact h.ne
  · rw [e 10 (by omega), e 8 (by omega)]; exact h.c10
  · rw [e 11 (by omega), e 9 (by omega), e 7 (by omega)]; exact h.c11
theorem getD_t {L : Array Bool} {k : Nat} (hk : k < L.size) (h : L.getD k true = false) : L.getD k false = false := by rw [← SG.getD_false hk]; exact h
theorem R3.set7 (h : R3 w gm mk lf ds g L X) (h0 : L.getD 7 true = false) {Y : World} {A : Option Addr} {c : Nat} (hb : Below X.heap.size X Y) (hr : Ri Y A 67 c ds) : R3 w gm mk lf ds (.slice A 67 c, g.2) (L.setIfInBounds 7 true) Y := by
  have h7 := getD_t (by rw [h.sz]; omega) h0
  have h11 : L.getD 11 false = false := by
    cases h1 : L.getD 11 false with
    | false => rfl
    | true => have := (h.c11 h1).2; rw [h7] at this; cases this
  have e : ∀ j, j ≠ 7 → (L.setIfInBounds 7 true).getD j false = L.getD j false := fun j hj => SG.getD_ne (by omega)
  refine ⟨h.bel.trans (hb.mono h.bel.size), h.bx.below hb h.bx.lt, by simpa using h.sz, fun _ => ⟨A, c, rfl, hr⟩, ?_, ?_, ?_, ?_, ?_⟩
  · rw [e 8 (by omega), e 10 (by omega)]
    intro h8
    obtain ⟨h1, h2, h3⟩ := h.a8 h8
    exact ⟨h1, h2, h3.below hb h3.lt⟩
  · rw [e 9 (by omega), e 11 (by omega), h11]
    intro h9
    obtain ⟨h1, h2, h3⟩ := h.a9 h9
    rw [h11] at h3
    exact ⟨h1, h2, h3.below hb h3.lt⟩
  · rw [e 8 (by omega), e 9 (by omega)]; exact h.ne
  · rw [e 10 (by omega), e 8 (by omega)]; exact h.c10
  · rw [e 11 (by omega), h11]; intro h; cases h
theorem R3.set8 (h : R3 w gm mk lf ds g L X) (h0 : L.getD 8 true = false) : R3 w gm mk lf ds (g.1, X.heap.size, g.2.2) (L.setIfInBounds 8 true) (X.alloc (.cells zLf 85)) := by
  have h8 := getD_t (by rw [h.sz]; omega) h0
  have h10 : L.getD 10 false = false := by
    cases h1 : L.getD 10 false with
    | false => rfl
    | true => have := h.c10 h1; rw [h8] at this; cases this
  have e : ∀ j, j ≠ 8 → (L.setIfInBounds 8 true).getD j false = L.getD j false := fun j hj => SG.getD_ne (by omega)
  have hb : Below X.heap.size X (X.alloc (.cells zLf 85)) := (Below.refl _ _).alloc (Nat.le_refl _) _
  refine ⟨h.bel.trans (hb.mono h.bel.size), h.bx.alloc _, by simpa using h.sz, ?_, ?_, ?_, ?_, ?_, ?_⟩
  · rw [e 7 (by omega)]
    intro h7
    obtain ⟨A, c, h1, h2⟩ := h.a7 h7
    exact ⟨A, c, h1, ri_below h2 hb⟩
  · rw [e 10 (by omega), h10]
    exact fun _ => ⟨h.bx.lt, h.bel.size, Bk.new _ _ _⟩
  · rw [e 9 (by omega), e 11 (by omega)]
    intro h9
    obtain ⟨h1, h2, h3⟩ := h.a9 h9
    exact ⟨h1, h2, h3.alloc _⟩
  · rw [e 9 (by omega)]
    intro _ h9
    have := (h.a9 h9).2.2.lt
    show X.heap.size ≠ g.2.2
    omega
  · rw [e 10 (by omega), h10]; intro h; cases h
  · rw [e 11 (by omega), e 9 (by omega), e 7 (by omega)]; exact h.c11
theorem R3.set9 (h : R3 w gm mk lf ds g L X) (h0 : L.getD 9 true = false) : R3 w gm mk lf ds (g.1, g.2.1, X.heap.size) (L.setIfInBounds 9 true) (X.alloc (.cells #[.slice none 0 0] 86)) := by
  have h9 := getD_t (by rw [h.sz]; omega) h0
  have h11 : L.getD 11 false = false := by
    cases h1 : L.getD 11 false with
    | false => rfl
    | true => have := (h.c11 h1).1; rw [h9] at this; cases this
  have e : ∀ j, j ≠ 9 → (L.setIfInBounds 9 true).getD j false = L.getD j false := fun j hj => SG.getD_ne (by omega)
  have hb : Below X.heap.size X (X.alloc (.cells #[.slice none 0 0] 86)) := (Below.refl _ _).alloc (Nat.le_refl _) _
  refine ⟨h.bel.trans (hb.mono h.bel.size), h.bx.alloc _, by simpa using h.sz, ?_, ?_, ?_, ?_, ?_, ?_⟩
  · rw [e 7 (by omega)]
    intro h7
    obtain ⟨A, c, h1, h2⟩ := h.a7 h7
    exact ⟨A, c, h1, ri_below h2 hb⟩
  · rw [e 8 (by omega), e 10 (by omega)]
    intro h8
    obtain ⟨h1, h2, h3⟩ := h.a8 h8
    exact ⟨h1, h2, h3.alloc _⟩
  · rw [e 11 (by omega), h11]
    exact fun _ => ⟨h.bx.lt, h.bel.size, Bk.new _ _ _⟩
  · rw [e 8 (by omega)]
    intro h8 _
    have := (h.a8 h8).2.2.lt
    show g.2.1 ≠ X.heap.size
    omega
  · rw [e 10 (by omega), e 8 (by omega)]; exact h.c10
  · rw [e 11 (by omega), h11]; intro h; cases h
theorem zLf_no : ∀ (i : Nat) (v : Value), zLf[i]? = some v → ∀ x : Int, v ≠ .int .i64 x := by
  intro i v hv x
  match i, hv with
  | 0, hv => cases hv; simp
  | 1, hv => cases hv; simp
  | 2, hv => cases hv; simp
  | 3, hv => cases hv; simp
  | n + 4, hv => simp at hv
theorem one_no {A : Option Addr} {n c : Nat} : ∀ (i : Nat) (v : Value), (#[Value.slice A n c] : Array Value)[i]? = some v → ∀ x : Int, v ≠ .int .i64 x := by
  intro i v hv x
  match i, hv with
  | 0, hv => cases hv; simp
  | n + 1, hv => simp at hv
theorem R3.set10 (h : R3 w gm mk lf ds g L X) (h0 : L.getD 10 true = false) (h8 : L.getD 8 false = true) (hl : lf.size = 4) : R3 w gm mk lf ds g (L.setIfInBounds 10 true) (X.setCells g.2.1 0 lf.toList) := by
  have h10 := getD_t (by rw [h.sz]; omega) h0
  have e : ∀ j, j ≠ 10 → (L.setIfInBounds 10 true).getD j false = L.getD j false := fun j hj => SG.getD_ne (by omega)
  obtain ⟨d1, d2, d3⟩ := h.a8 h8
  rw [h10] at d3
  simp only [Bool.false_eq_true, if_false] at d3
  refine ⟨below_cells _ d2 _ _ _ h.bel, far_cells _ (by omega) _ _ _ h.bx, by simpa using h.sz, ?_, ?_, ?_, ?_, ?_, ?_⟩
  · rw [e 7 (by omega)]
    intro h7
    obtain ⟨A, c, h1, h2⟩ := h.a7 h7
    exact ⟨A, c, h1, ri_cells h2 d3 zLf_no _ _⟩
  · rw [e 8 (by omega), SG.getD_new (by rw [h.sz]; omega)]
    intro _
    exact ⟨d1, d2, bk_cells d3 (by rw [hl]; rfl)⟩
  · rw [e 9 (by omega), e 11 (by omega)]
    intro h9
    obtain ⟨h1, h2, h3⟩ := h.a9 h9
    exact ⟨h1, h2, far_cells _ (fun e => h.ne h8 h9 e.symm) _ _ _ h3⟩
  · rw [e 8 (by omega), e 9 (by omega)]; exact h.ne
  · rw [e 8 (by omega)]; exact fun _ => h8
  · rw [e 11 (by omega), e 9 (by omega), e 7 (by omega)]; exact h.c11
theorem R3.set11 (h : R3 w gm mk lf ds g L X) (h0 : L.getD 11 true = false) (h9 : L.getD 9 false = true) (h7 : L.getD 7 false = true) : R3 w gm mk lf ds g (L.setIfInBounds 11 true) (X.setCell ⟨g.2.2, 0, none⟩ g.1) := by
  have h11 := getD_t (by rw [h.sz]; omega) h0
  have e : ∀ j, j ≠ 11 → (L.setIfInBounds 11 true).getD j false = L.getD j false := fun j hj => SG.getD_ne (by omega)
  obtain ⟨d1, d2, d3⟩ := h.a9 h9
  rw [h11] at d3
  simp only [Bool.false_eq_true, if_false] at d3
  refine ⟨h.bel.setCell d2 _, h.bx.far (by show gm ≠ g.2.2; omega) _, by simpa using h.sz, ?_, ?_, ?_, ?_, ?_, ?_⟩
  · rw [e 7 (by omega)]
    intro h7
    obtain ⟨A, c, h1, h2⟩ := h.a7 h7
    exact ⟨A, c, h1, ri_cells h2 d3 one_no 0 [g.1]⟩
  · rw [e 8 (by omega), e 10 (by omega)]
    intro h8
    obtain ⟨h1, h2, h3⟩ := h.a8 h8
    exact ⟨h1, h2, h3.far (by show g.2.1 ≠ g.2.2; exact h.ne h8 h9) _⟩
  · rw [SG.getD_new (by rw [h.sz]; omega)]
    intro _
    have := d3.put 0 g.1
    exact ⟨d1, d2, by simpa using this⟩
  · rw [e 8 (by omega), e 9 (by omega)]; exact h.ne
  · rw [e 10 (by omega), e 8 (by omega)]; exact h.c10
  · rw [e 9 (by omega), e 7 (by omega)]; exact fun _ => ⟨h9, h7⟩
theorem R3.start (h : Below w.heap.size w X) (hb : Bk X gm 26 mk) : R3 w gm mk lf ds g (Array.replicate 12 false) X := by
  refine ⟨h, hb, by simp, ?_, ?_, ?_, ?_, ?_, ?_⟩ <;> (rw [SG.getD_rep]; intro h; cases h)
end
end Go.Proofs.YtkpfppiedadmbaaGreatDoor.S15
