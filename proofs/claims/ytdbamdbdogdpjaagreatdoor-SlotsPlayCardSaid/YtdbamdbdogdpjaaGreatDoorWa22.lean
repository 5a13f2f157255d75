/-
  Texts put together: Sl8, Sl9, SlA, SlL1. No statement is proved here.
-/
import Derived.Test.YtdbamdbdogdpjaaGreatDoorWa19
import Derived.Test.YtdbamdbdogdpjaaGreatDoorWa02
import Derived.Test.YtdbamdbdogdpjaaGreatDoorWa06
import Derived.RegionTactic
import Derived.ChangeAlike

/-
  What the calls of package slots are to do, as one structure; what holds of slots behind a call. No statement is proved here.
-/
namespace Go.Proofs.YtdbamdbdogdpjaaGreatDoor.S20
set_option linter.unusedSimpArgs false
set_option linter.unusedVariables false
set_option maxRecDepth 4096
open Go.RowKit S19

theorem look_ok (Z : Sl) (D : Dk) {i : Nat} (hi : i ≤ 1) {z : Int × Nat × List UInt8} (h : (z.1 = -1 ∨ z.1 = 0 ∨ z.1 = 1) ∧ z.2.1 < 18446744073709551616) : ((Z.look D i z).1 = -1 ∨ (Z.look D i z).1 = 0 ∨ (Z.look D i z).1 = 1) ∧ (Z.look D i z).2.1 < 18446744073709551616 := by
  unfold Sl.look
  split
  · exact ⟨at_of hi, whole_lt _ _⟩
  · exact h
theorem seen_ok (Z : Sl) (D : Dk) : ((Z.seen D).1 = -1 ∨ (Z.seen D).1 = 0 ∨ (Z.seen D).1 = 1) ∧ (Z.seen D).2.1 < 18446744073709551616 :=
  look_ok Z D (Nat.le_refl _) (look_ok Z D (Nat.zero_le _) ⟨.inl rfl, by show 0 < _; omega⟩)
theorem load_ok {Z : Sl} {D : Dk} (h : Z.Ok D) : (Z.load D).Ok D := by
  unfold Sl.load
  split
  · exact h
  · exact ⟨h.one, h.most, h.fits, (seen_ok Z D).1, (seen_ok Z D).2⟩
theorem load_n (Z : Sl) (D : Dk) : (Z.load D).n = Z.n ∧ (Z.load D).first = Z.first := by unfold Sl.load; split <;> exact ⟨rfl, rfl⟩
theorem writes_len (at_ : Nat) (xs : List UInt8) : ∀ (k j : Nat) (D : Dk), (Sl.writes at_ xs k j D).2.sure.length = D.sure.length
  | 0, j, D => rfl
  | k + 1, j, D => by
    unfold Sl.writes
    have hw : (D.write ((at_ + j : Nat) : Int) (Sl.row xs j)).sure.length = D.sure.length := by
      unfold Dk.write
      split
      · rfl
      · split
        · split
          · show D.step.sure.length = _
            rw [Dk.step_sure]
          · rw [Dk.step_sure]
        · rfl
    split
    · rw [writes_len at_ xs k, hw]
    · exact hw
theorem saveD_len (Z : Sl) (D : Dk) (b : List UInt8) : (Z.saveD D b).sure.length = D.sure.length := by
  unfold Sl.saveD
  split
  · rfl
  · split
    · have h := writes_len (Z.first + Z.goes * Z.n) (recB Z.next b Z.n) Z.n 0 D
      have e : ∀ E : Dk, E.flush.sure.length = E.sure.length := fun E => by
        unfold Dk.flush
        split
        · rfl
        · split
          · exact Dk.laid_len _ _
          · rw [Dk.step_sure]
      rw [e]
      exact h
    · exact writes_len _ _ _ _ _
theorem save_ok {Z : Sl} {D : Dk} (h : Z.Ok D) (b : List UInt8) : (Z.save D b).Ok (Z.saveD D b) := by
  have hl := saveD_len Z D b
  unfold Sl.save
  split
  · refine ⟨h.one, h.most, by rw [hl]; exact h.fits, ?_, Nat.mod_lt _ (by omega)⟩
    show (Z.goes : Int) = -1 ∨ _
    unfold Sl.goes
    split <;> simp
  · exact ⟨h.one, h.most, by rw [hl]; exact h.fits, h.at_, h.num⟩
theorem save_n (Z : Sl) (D : Dk) (b : List UInt8) : (Z.save D b).n = Z.n ∧ (Z.save D b).first = Z.first := by unfold Sl.save; split <;> exact ⟨rfl, rfl⟩
theorem new_ok {D : Dk} {first n : Nat} (h : may D.sure.length first n = true) : (Sl.new first n).Ok D := by
  have h' := of_decide_eq_true h
  exact ⟨by show 1 ≤ n; omega, by show n ≤ 8; omega, by show first + 2 * n ≤ _; omega, .inl rfl, by show 0 < _; omega⟩
abbrev Or2 (F S : Nat → Prop) : Nat → Prop := fun b => F b ∨ S b
/-- The calls of package slots, over a disk. -/
structure SlC (M : DC) where
  ok : World → Prop
  bel : ∀ {w w' : World}, ok w → Below w.heap.size w w' → ok w'
  okM : ∀ {w : World}, ok w → M.ok w
  Is : Nat → World → Nat → Nat → Sl → (Nat → Prop) → Prop
  lt : ∀ {N : Nat} {w : World} {s g : Nat} {Z : Sl} {S : Nat → Prop}, Is N w s g Z S → ∀ b, S b → N ≤ b ∧ b < w.heap.size
  keep : ∀ {N : Nat} {w w' : World} {s g : Nat} {Z : Sl} {S : Nat → Prop}, Is N w s g Z S → w.heap.size ≤ w'.heap.size → (∀ b, (b < N ∨ S b) → b < w.heap.size → w'.heap[b]? = w.heap[b]?) → Is N w' s g Z S
  room : ∀ (w : World) (n : Int), -9223372036854775808 ≤ n → n < 9223372036854775808 → ok w → Calls Tryz.prog 25 #[.int .i64 n] w fun e w' => e = .returned (.int .i64 (room n : Int)) ∧ Below w.heap.size w w'
  new : ∀ (N : Nat) (w : World) (g : Nat) (D : Dk) (F : Nat → Prop) (first n : Nat), ok w → M.Is N w g D F → may D.sure.length first n = true → Calls Tryz.prog 7 #[.pointer (some ⟨g, 0, none⟩), .int .i64 (first : Int), .int .i64 (n : Int)] w fun e w' =>
    ∃ s S F', e = .returned (.tuple #[.pointer (some ⟨s, 0, none⟩), .int .i64 0]) ∧ Is N w' s g (Sl.new first n) S ∧ M.Is N w' g D F' ∧ (∀ b, S b → w.heap.size ≤ b) ∧ (∀ b, F' b → F b ∨ w.heap.size ≤ b) ∧ (∀ b, F' b → ¬ S b) ∧ Mv N F w w'
  newNot : ∀ (N : Nat) (w : World) (g : Nat) (D : Dk) (F : Nat → Prop) (first n : Int), -9223372036854775808 ≤ first → first < 9223372036854775808 → -9223372036854775808 ≤ n → n < 9223372036854775808 → ok w → M.Is N w g D F → may D.sure.length first n = false → Calls Tryz.prog 7 #[.pointer (some ⟨g, 0, none⟩), .int .i64 first, .int .i64 n] w fun e w' =>
    e = .returned (.tuple #[.pointer none, .int .i64 1]) ∧ ∃ F', M.Is N w' g D F' ∧ (∀ b, F' b → F b ∨ w.heap.size ≤ b) ∧ Mv N F w w'
  now : ∀ (N : Nat) (w : World) (s g : Nat) (Z : Sl) (S : Nat → Prop), ok w → Is N w s g Z S → Calls Tryz.prog 22 #[.pointer (some ⟨s, 0, none⟩)] w fun e w' =>
    ∃ A c, e = .returned (.tuple #[.slice A Z.b.length c, .int .u64 (Z.num : Int)]) ∧ Rd w' A Z.b.length c Z.b ∧ (∀ a, 0 < Z.b.length → A = some a → w.heap.size ≤ a.block) ∧ Is N w' s g Z S ∧ Mv N S w w'
  load : ∀ (N : Nat) (w : World) (s g : Nat) (D : Dk) (Z : Sl) (F S : Nat → Prop), ok w → M.Is N w g D F → Is N w s g Z S → (∀ b, F b → ¬ S b) → Z.Ok D → Calls Tryz.prog 12 #[.pointer (some ⟨s, 0, none⟩)] w fun e w' =>
    ∃ A c F' S', e = .returned (.tuple #[.slice A (Z.loadB D).length c, .int .u64 (Z.loadN D : Int), .int .i64 (Z.loadC D : Int)]) ∧ Rd w' A (Z.loadB D).length c (Z.loadB D) ∧ (∀ a, 0 < (Z.loadB D).length → A = some a → w.heap.size ≤ a.block ∧ ¬ Or2 F' S' a.block) ∧ M.Is N w' g D F' ∧ Is N w' s g (Z.load D) S' ∧ (∀ b, Or2 F' S' b → Or2 F S b ∨ w.heap.size ≤ b) ∧ (∀ b, F' b → ¬ S' b) ∧ Mv N (Or2 F S) w w'
  save : ∀ (N : Nat) (w : World) (s g : Nat) (D : Dk) (Z : Sl) (F S : Nat → Prop) (A : Option Addr) (n c : Nat) (b : List UInt8), ok w → M.Is N w g D F → Is N w s g Z S → (∀ b, F b → ¬ S b) → Z.Ok D → Rd w A n c b → (∀ a, 0 < n → A = some a → ¬ Or2 F S a.block) → D.cnt < 1099511627000 → Calls Tryz.prog 10 #[.pointer (some ⟨s, 0, none⟩), .slice A n c] w fun e w' =>
    e = .returned (.int .i64 (Z.saveC D b : Int)) ∧ ∃ F' S', M.Is N w' g (Z.saveD D b) F' ∧ Is N w' s g (Z.save D b) S' ∧ (∀ b, Or2 F' S' b → Or2 F S b ∨ w.heap.size ≤ b) ∧ (∀ b, F' b → ¬ S' b) ∧ Mv N (Or2 F S) w w'
end Go.Proofs.YtdbamdbdogdpjaaGreatDoor.S20

/-
  What is saved on a disk with which nothing fails, in plain words. No statement is proved here.
-/
namespace Go.Proofs.YtdbamdbdogdpjaaGreatDoor.S20
set_option linter.unusedSimpArgs false
set_option linter.unusedVariables false
open S19

/-- A disk that is up, and with which nothing fails. -/
structure Calm (D : Dk) : Prop where
  off : D.off = false
  stop : D.stop = 0
  fails : D.fails = []
theorem Calm.new (k : Nat) : Calm (Dk.new k) := ⟨rfl, rfl, rfl⟩
theorem Calm.code {D : Dk} (h : Calm D) : D.stepC = 0 := by
  unfold Dk.stepC
  rw [if_neg (by rw [h.off]; simp), if_neg (by rw [h.stop]; omega), if_neg (by rw [h.fails]; simp)]
theorem Calm.step {D : Dk} (h : Calm D) : D.step = { D with cnt := D.cnt + 1 } := by
  unfold Dk.step
  rw [if_neg (by rw [h.stop]; omega)]
theorem Calm.more {D : Dk} (h : Calm D) (s : List (List UInt8)) (p : List (Nat × List UInt8)) (c : Nat) : Calm { D with sure := s, pend := p, cnt := c } := ⟨h.off, h.stop, h.fails⟩
theorem Calm.write {D : Dk} (h : Calm D) {i : Nat} {b : List UInt8} (hi : i < D.sure.length) (hb : b.length = 64) : D.writeC (i : Int) b = 0 ∧ D.write (i : Int) b = { D with cnt := D.cnt + 1, pend := D.pend ++ [(i, b)] } := by
  have hh : D.has (i : Int) ∧ b.length = 64 := ⟨by unfold Dk.has; omega, hb⟩
  have ho : ¬ D.off = true := by rw [h.off]; simp
  constructor
  · rw [Dk.writeC, if_neg ho, if_pos hh, h.code]
  · rw [Dk.write, if_neg ho, if_pos hh, if_pos h.code, h.step]
    rfl
/-- The rows from the j-th on, k of them, where they go. -/
def rowsP (at_ : Nat) (xs : List UInt8) : Nat → Nat → List (Nat × List UInt8)
  | _, 0 => []
  | j, k + 1 => (at_ + j, Sl.row xs j) :: rowsP at_ xs (j + 1) k
theorem row_len {xs : List UInt8} {j : Nat} (h : 64 * (j + 1) ≤ xs.length) : (Sl.row xs j).length = 64 := by simp [Sl.row]; omega
theorem writes_calm (at_ : Nat) (xs : List UInt8) : ∀ (k j : Nat) (D : Dk), Calm D → at_ + j + k ≤ D.sure.length → 64 * (j + k) ≤ xs.length → Sl.writes at_ xs k j D = (0, { D with cnt := D.cnt + k, pend := D.pend ++ rowsP at_ xs j k })
  | 0, j, D, h, _, _ => by simp [Sl.writes, rowsP]
  | k + 1, j, D, h, h1, h2 => by
    obtain ⟨e1, e2⟩ := h.write (i := at_ + j) (b := Sl.row xs j) (by omega) (row_len (by omega))
    rw [Sl.writes, if_pos e1, e2, writes_calm at_ xs k (j + 1) _ (h.more _ _ _) (by show at_ + (j + 1) + k ≤ D.sure.length; omega) (by omega)]
    simp [rowsP, Nat.add_comm 1, Nat.add_assoc]
theorem laid_rowsP (at_ : Nat) (xs : List UInt8) (i : Nat) : ∀ (k j : Nat) (s : List (List UInt8)), at_ + j + k ≤ s.length → (Dk.laid (rowsP at_ xs j k) s).getD i [] = if at_ + j ≤ i ∧ i < at_ + j + k then Sl.row xs (i - at_) else s.getD i []
  | 0, j, s, _ => by rw [if_neg (by omega)]; rfl
  | k + 1, j, s, h => by
    rw [rowsP, Dk.laid, laid_rowsP at_ xs i k (j + 1) _ (by rw [List.length_set]; omega)]
    by_cases h1 : at_ + (j + 1) ≤ i ∧ i < at_ + (j + 1) + k
    · rw [if_pos h1, if_pos (by omega)]
    · rw [if_neg h1]
      by_cases h2 : i = at_ + j
      · subst h2
        rw [if_pos (by omega), List.getD_eq_getElem?_getD, List.getElem?_set_self (by omega)]
        show Sl.row xs j = _
        congr 1
        omega
      · rw [if_neg (by omega), List.getD_eq_getElem?_getD, List.getElem?_set_ne (by omega), ← List.getD_eq_getElem?_getD]
theorem areaK_rows {D : Dk} {at_ : Nat} {xs : List UInt8} : ∀ k, (∀ i, i < k → D.atS (at_ + i) = Sl.row xs i) → Sl.areaK D at_ k = xs.take (64 * k)
  | 0, _ => by simp [Sl.areaK]
  | k + 1, h => by
    rw [Sl.areaK, areaK_rows k (fun i hi => h i (by omega)), h k (by omega), Sl.row, show 64 * (k + 1) = 64 * k + 64 by omega, List.take_add]
theorem areaK_same {D D' : Dk} {at_ : Nat} : ∀ k, (∀ i, i < k → D.atS (at_ + i) = D'.atS (at_ + i)) → Sl.areaK D at_ k = Sl.areaK D' at_ k
  | 0, _ => rfl
  | k + 1, h => by rw [Sl.areaK, Sl.areaK, areaK_same k (fun i hi => h i (by omega)), h k (by omega)]
/-- Saved where nothing is pending, and nothing fails. -/
theorem save_calm {Z : Sl} {D : Dk} {b : List UInt8} (hD : Calm D) (hp : D.pend = []) (hZ : Z.Ok D) (hb : b.length ≤ room Z.n) :
    Z.saveC D b = 0 ∧ Z.save D b = { Z with at_ := (Z.goes : Int), num := Z.next, b := b } ∧ Calm (Z.saveD D b) ∧ (Z.saveD D b).pend = [] ∧ (Z.saveD D b).cnt = D.cnt + Z.n + 1 ∧ Z.area (Z.saveD D b) Z.goes = recB Z.next b Z.n ∧ Z.area (Z.saveD D b) (1 - Z.goes) = Z.area D (1 - Z.goes) := by
  have hr := room_nat hZ.one hZ.most
  have h1 := hZ.one
  have hl : (recB Z.next b Z.n).length = 64 * Z.n := recB_len _ _ _ (by omega)
  have hg : Z.goes = 0 ∨ Z.goes = 1 := by unfold Sl.goes; split <;> simp
  have hfit : Z.first + Z.goes * Z.n + Z.n ≤ D.sure.length := by
    have := hZ.fits
    rcases hg with e | e <;> rw [e] <;> omega
  obtain ⟨xs, hxs⟩ : ∃ xs, xs = recB Z.next b Z.n := ⟨_, rfl⟩
  rw [← hxs] at hl ⊢
  have hw : Z.written D b = (0, { D with cnt := D.cnt + Z.n, pend := rowsP (Z.first + Z.goes * Z.n) xs 0 Z.n }) := by
    rw [Sl.written, ← hxs, writes_calm _ _ _ _ _ hD (by omega) (by omega), hp, List.nil_append]
  have hc2 : Calm { D with cnt := D.cnt + Z.n, pend := rowsP (Z.first + Z.goes * Z.n) xs 0 Z.n } := ⟨hD.off, hD.stop, hD.fails⟩
  have hC : Z.saveC D b = 0 := by rw [Sl.saveC, if_neg (by omega), hw, if_pos rfl]; exact hc2.code
  have hSD : Z.saveD D b = { D with cnt := D.cnt + Z.n + 1, sure := Dk.laid (rowsP (Z.first + Z.goes * Z.n) xs 0 Z.n) D.sure, pend := [] } := by
    rw [Sl.saveD, if_neg (by omega), hw, if_pos rfl]
    show Dk.flush _ = _
    rw [Dk.flush, if_neg (by show ¬ D.off = true; rw [hD.off]; simp), if_pos hc2.code, hc2.step]
  have hat : ∀ i, (Z.saveD D b).atS i = if Z.first + Z.goes * Z.n ≤ i ∧ i < Z.first + Z.goes * Z.n + Z.n then Sl.row xs (i - (Z.first + Z.goes * Z.n)) else D.sure.getD i [] := fun i => by
    rw [hSD]
    show (Dk.laid _ D.sure).getD i [] = _
    rw [laid_rowsP _ _ _ _ _ _ (by omega)]
    rfl
  refine ⟨hC, by rw [Sl.save, if_pos hC], by rw [hSD]; exact ⟨hD.off, hD.stop, hD.fails⟩, by rw [hSD], by rw [hSD], ?_, ?_⟩
  · rw [Sl.area, areaK_rows (xs := xs) Z.n (fun i hi => by rw [hat, if_pos (by omega)]; congr 1; omega), ← hl, List.take_of_length_le (Nat.le_refl _)]
  · rw [Sl.area, Sl.area]
    refine areaK_same Z.n fun i hi => ?_
    rw [hat, if_neg (by rcases hg with e | e <;> rw [e] <;> omega), Dk.atS, hp]
    rfl
/-- What is loaded of two areas that are known. -/
theorem seen_of {Z : Sl} {D : Dk} {a0 a1 : Nat × List UInt8} (h0 : whole (Z.area D 0) Z.n = a0) (h1 : whole (Z.area D 1) Z.n = a1) : Z.seen D = if a0.1 < a1.1 then (1, a1) else if 0 < a0.1 then (0, a0) else (-1, 0, []) := by
  have e0 : Z.look D 0 (-1, 0, []) = if 0 < a0.1 then ((0 : Int), a0) else (-1, 0, []) := by
    rw [Sl.look, h0]; rfl
  rw [Sl.seen, e0, Sl.look, h1]
  by_cases q : 0 < a0.1
  · rw [if_pos q]
    by_cases q2 : a0.1 < a1.1
    · rw [if_pos q2, if_pos q2]; rfl
    · rw [if_neg q2, if_neg q2]
  · rw [if_neg q]
    by_cases q2 : a0.1 < a1.1
    · rw [if_pos q2, if_pos (by show 0 < a1.1; omega)]; rfl
    · rw [if_neg q2, if_neg (by show ¬ 0 < a1.1; omega)]
theorem getL_zero : ∀ n, getL (List.replicate n 0) = 0
  | 0 => rfl
  | n + 1 => by rw [List.replicate_succ, getL_cons, getL_zero n]; simp
theorem whole_zero (m n : Nat) : whole (List.replicate m 0) n = (0, []) := by
  unfold whole
  refine if_neg fun h => h.1 ?_
  unfold numOf
  rw [List.take_replicate, getL_zero]
theorem area_zero {D : Dk} {at_ : Nat} : ∀ k, (∀ i, i < k → D.atS (at_ + i) = List.replicate 64 0) → Sl.areaK D at_ k = List.replicate (64 * k) 0
  | 0, _ => rfl
  | k + 1, h => by
    rw [Sl.areaK, area_zero k (fun i hi => h i (by omega)), h k (by omega), List.replicate_append_replicate]
    congr 1
theorem atS_new {k i : Nat} (h : i < k) : (Dk.new k).atS i = List.replicate 64 0 := by
  simp [Dk.atS, Dk.new, Dk.lastOf, List.getD, h]
theorem area_new {k : Nat} {Z : Sl} (h : Z.first + 2 * Z.n ≤ k) {i : Nat} (hi : i ≤ 1) : Z.area (Dk.new k) i = List.replicate (64 * Z.n) 0 := by
  refine area_zero Z.n fun j hj => atS_new ?_
  have h0 : i = 0 ∨ i = 1 := by omega
  rcases h0 with rfl | rfl <;> omega
/-- Nothing was saved on a new disk. -/
theorem load_new {k : Nat} {Z : Sl} (h : Z.first + 2 * Z.n ≤ k) (h1 : Z.at_ = -1) (h2 : Z.num = 0) (h3 : Z.b = []) : Z.loadC (Dk.new k) = 11 ∧ Z.load (Dk.new k) = Z := by
  have a0 := area_new h (i := 0) (by omega)
  have a1 := area_new h (i := 1) (by omega)
  have hs : Z.seen (Dk.new k) = (-1, 0, []) := by
    rw [seen_of (a0 := (0, [])) (a1 := (0, [])) (by rw [a0]; exact whole_zero _ _) (by rw [a1]; exact whole_zero _ _)]
    rfl
  have ho : ¬ (Dk.new k).off = true := by simp [Dk.new]
  constructor
  · rw [Sl.loadC, if_neg ho, hs, if_pos (by decide), if_pos (by rw [a0]; simp [blank])]
  · rw [Sl.load, if_neg ho, hs]
    cases Z
    simp only at h1 h2 h3
    subst h1 h2 h3
    rfl
/-- What was saved is loaded. -/
theorem load_saved {Z : Sl} {D : Dk} {b : List UInt8} (hD : Calm D) (hp : D.pend = []) (hZ : Z.Ok D) (hb : b.length ≤ room Z.n) (hn : Z.num + 1 < 18446744073709551616) (ho : (whole (Z.area D (1 - Z.goes)) Z.n).1 ≤ Z.num) (Y : Sl) (hy : Y.first = Z.first ∧ Y.n = Z.n) :
    Y.loadC (Z.saveD D b) = 0 ∧ Y.load (Z.saveD D b) = { Z with at_ := (Z.goes : Int), num := Z.num + 1, b := b } := by
  obtain ⟨s1, s2, s3, s4, s5, s6, s7⟩ := save_calm hD hp hZ hb
  have hx : Z.next = Z.num + 1 := Nat.mod_eq_of_lt hn
  rw [hx] at s6
  have hw := whole_rec (num := Z.num + 1) (by omega) hn hZ.one hZ.most hb
  have hY : ∀ i, Y.area (Z.saveD D b) i = Z.area (Z.saveD D b) i := fun i => by rw [Sl.area, Sl.area, hy.1, hy.2]
  have hg : Z.goes = 0 ∨ Z.goes = 1 := by unfold Sl.goes; split <;> simp
  have hs : Y.seen (Z.saveD D b) = ((Z.goes : Int), Z.num + 1, b) := by
    rcases hg with e | e
    · rw [e] at s6 s7 ho
      rw [seen_of (a0 := (Z.num + 1, b)) (a1 := whole (Z.area D (1 - 0)) Z.n) (by rw [hY, hy.2, s6]; exact hw) (by rw [hY, hy.2]; rw [show (1 : Nat) = 1 - 0 from rfl, s7]), if_neg (by show ¬ Z.num + 1 < _; omega), if_pos (by show 0 < Z.num + 1; omega), e]
      rfl
    · rw [e] at s6 s7 ho
      rw [seen_of (a1 := (Z.num + 1, b)) (a0 := whole (Z.area D (1 - 1)) Z.n) (by rw [hY, hy.2]; rw [show (0 : Nat) = 1 - 1 from rfl, s7]) (by rw [hY, hy.2, s6]; exact hw), if_pos (by show _ < Z.num + 1; omega), e]
      rfl
  have hoff : ¬ (Z.saveD D b).off = true := by rw [s3.off]; simp
  constructor
  · rw [Sl.loadC, if_neg hoff, hs, if_neg (by show ¬ (Z.goes : Int) < 0; omega)]
  · rw [Sl.load, if_neg hoff, hs]
    cases Y
    cases Z
    simp only at hy
    obtain ⟨rfl, rfl⟩ := hy
    rfl
end Go.Proofs.YtdbamdbdogdpjaaGreatDoor.S20

/-
  The landed disk and slots together; the statements' first question of layer 20, over the contracts. No statement is proved here. (Written by gensla.py.)
-/
namespace Go.Proofs.YtdbamdbdogdpjaaGreatDoor.S20
set_option linter.unusedSimpArgs false
set_option linter.unusedVariables false
set_option maxRecDepth 4096
open Go.RowKit S19

/-- 'string(b)' of bytes that read. -/
theorem rd_convert {w : World} {A : Option Addr} {n c : Nat} {xs : List UInt8} (h : Rd w A n c xs) :
    (convert 35 9 (.slice A n c)).run Tryz.prog w = .ok (.string ⟨xs.toArray⟩) w := by
  rcases Nat.eq_zero_or_pos n with hn | hn
  · subst hn
    obtain rfl : xs = [] := List.eq_nil_of_length_eq_zero h.len
    rw [run_convert_bytes_string w 35 9 5 _ 0 c Tryz.underlying35 Tryz.underlying5 Tryz.underlying9]
    cases A <;> simp [Conv.bytesToString, loadCells]
    all_goals rfl
  · obtain ⟨b, o, rfl, _, hc⟩ := h.at_ hn
    have e := run_convert_bytes_arg (P := Tryz.prog) w 35 5 Tryz.underlying35 Tryz.underlying5 b o n c (xs.map fun x => (x.toNat : Int)) (by simp [h.len])
      (fun i hi => by
        have hl : i < xs.length := by have := h.len; omega
        rw [hc i hi]; simp [List.getD, hl]) 9 Tryz.underlying9
    rw [e]
    have : strOfNums (xs.map fun x => (x.toNat : Int)) = ⟨xs.toArray⟩ := by
      simp [strOfNums, Function.comp_def]
    rw [this]
/-- The landed disk and slots, apart. -/
structure Lz (M : DC) (C : SlC M) (N : Nat) (w : World) (g s : Nat) (D : Dk) (Z : Sl) (F S : Nat → Prop) : Prop where
  is : M.Is N w g D F
  sl : C.Is N w s g Z S
  dj : ∀ b, F b → ¬ S b
  zo : Z.Ok D
section
variable {M : DC} {C : SlC M} {N : Nat} {w w' : World} {g s : Nat} {D : Dk} {Z : Sl} {F S : Nat → Prop}
theorem Lz.grow (t : Lz M C N w g s D Z F S) (hb : Below w.heap.size w w') : Lz M C N w' g s D Z F S :=
  ⟨M.keep t.is hb.size fun b _ hl => hb.block b hl, C.keep t.sl hb.size fun b _ hl => hb.block b hl, t.dj, t.zo⟩
/-- The disk alone has moved. -/
theorem Lz.disk (t : Lz M C N w g s D Z F S) {D' : Dk} {F' : Nat → Prop} (hI : M.Is N w' g D' F') (hs : ∀ b, F' b → F b ∨ w.heap.size ≤ b) (m : Mv N F w w') (hl : D'.sure.length = D.sure.length) : Lz M C N w' g s D' Z F' S := by
  refine ⟨hI, C.keep t.sl m.size fun b hb hlt => m.same b hlt fun hF => ?_, fun b hF hS => ?_, ⟨t.zo.one, t.zo.most, by rw [hl]; exact t.zo.fits, t.zo.at_, t.zo.num⟩⟩
  · rcases hb with e | e
    · have := (M.lt t.is b hF).1; omega
    · exact t.dj b hF e
  · rcases hs b hF with e | e
    · exact t.dj b e hS
    · have := (C.lt t.sl b hS).2; omega
theorem Lz.now (t : Lz M C N w g s D Z F S) (hk : C.ok w) : Calls Tryz.prog 22 #[.pointer (some ⟨s, 0, none⟩)] w fun e w' => ∃ A c, e = .returned (.tuple #[.slice A Z.b.length c, .int .u64 (Z.num : Int)]) ∧ Rd w' A Z.b.length c Z.b ∧ (∀ a, 0 < Z.b.length → A = some a → ¬ Or2 F S a.block) ∧ Lz M C N w' g s D Z F S ∧ Below N w w' :=
  (C.now N w s g Z S hk t.sl).mono fun e w' ⟨A, c, h1, h2, h0, h3, h4⟩ => ⟨A, c, h1, h2, fun a q1 q2 hO => hO.elim (fun e => by have q3 := h0 a q1 q2; have := (M.lt t.is _ e).2; omega) (fun e => by have q3 := h0 a q1 q2; have := (C.lt t.sl _ e).2; omega), ⟨M.keep t.is h4.size fun b hb hl => h4.same b hl fun hS => (by
    rcases hb with e | e
    · have := (C.lt t.sl b hS).1; omega
    · exact t.dj b e hS), h3, t.dj, t.zo⟩, h4.bel⟩
theorem Lz.load (t : Lz M C N w g s D Z F S) (hk : C.ok w) : Calls Tryz.prog 12 #[.pointer (some ⟨s, 0, none⟩)] w fun e w' => ∃ A c F' S', e = .returned (.tuple #[.slice A (Z.loadB D).length c, .int .u64 (Z.loadN D : Int), .int .i64 (Z.loadC D : Int)]) ∧ Rd w' A (Z.loadB D).length c (Z.loadB D) ∧ (∀ a, 0 < (Z.loadB D).length → A = some a → ¬ Or2 F' S' a.block) ∧ Lz M C N w' g s D (Z.load D) F' S' ∧ (∀ b, Or2 F' S' b → Or2 F S b ∨ w.heap.size ≤ b) ∧ Mv N (Or2 F S) w w' :=
  (C.load N w s g D Z F S hk t.is t.sl t.dj t.zo).mono fun e w' ⟨A, c, F', S', h1, h2, h0, h3, h4, h5, h6, h7⟩ => ⟨A, c, F', S', h1, h2, fun a q1 q2 => (h0 a q1 q2).2, ⟨h3, h4, h6, load_ok t.zo⟩, h5, h7⟩
theorem Lz.save (t : Lz M C N w g s D Z F S) (hk : C.ok w) {A : Option Addr} {n c : Nat} {b : List UInt8} (hr : Rd w A n c b) (hA : ∀ a, 0 < n → A = some a → ¬ Or2 F S a.block) (hc : D.cnt < 1099511627000) : Calls Tryz.prog 10 #[.pointer (some ⟨s, 0, none⟩), .slice A n c] w fun e w' => e = .returned (.int .i64 (Z.saveC D b : Int)) ∧ ∃ F' S', Lz M C N w' g s (Z.saveD D b) (Z.save D b) F' S' ∧ (∀ b, Or2 F' S' b → Or2 F S b ∨ w.heap.size ≤ b) ∧ Mv N (Or2 F S) w w' :=
  (C.save N w s g D Z F S A n c b hk t.is t.sl t.dj t.zo hr hA hc).mono fun e w' ⟨h1, F', S', h2, h3, h4, h5, h6⟩ => ⟨h1, F', S', ⟨h2, h3, h5, save_ok t.zo b⟩, h4, h6⟩
theorem Lz.lt (t : Lz M C N w g s D Z F S) : ∀ b, Or2 F S b → N ≤ b ∧ b < w.heap.size := by
  rintro b (e | e)
  · exact M.lt t.is b e
  · exact C.lt t.sl b e
end
def abc : List UInt8 := [97, 98, 99]
theorem aw_facts : (Sl.new 0 2).loadC (Dk.new 4) = 11 ∧ (Sl.new 0 2).load (Dk.new 4) = Sl.new 0 2 ∧ (Sl.new 0 2).saveC (Dk.new 4) abc = 0 ∧ (Sl.new 0 2).save (Dk.new 4) abc = ⟨0, 2, 0, 1, abc⟩ ∧ (⟨0, 2, 0, 1, abc⟩ : Sl).loadC ((Sl.new 0 2).saveD (Dk.new 4) abc) = 0 ∧ (⟨0, 2, 0, 1, abc⟩ : Sl).load ((Sl.new 0 2).saveD (Dk.new 4) abc) = ⟨0, 2, 0, 1, abc⟩ := by
  have hZ : (Sl.new 0 2).Ok (Dk.new 4) := new_ok (first := 0) (n := 2) (by rfl)
  obtain ⟨h1, h2⟩ := load_new (k := 4) (Z := Sl.new 0 2) (by show 0 + 2 * 2 ≤ 4; omega) rfl rfl rfl
  have hb : abc.length ≤ room (Sl.new 0 2).n := by decide
  obtain ⟨h3, h4, _⟩ := save_calm (Calm.new 4) rfl hZ hb
  have ho : (whole ((Sl.new 0 2).area (Dk.new 4) (1 - (Sl.new 0 2).goes)) (Sl.new 0 2).n).1 ≤ (Sl.new 0 2).num := by
    rw [area_new (k := 4) (Z := Sl.new 0 2) (by show 0 + 2 * 2 ≤ 4; omega) (by omega), whole_zero]
    exact Nat.zero_le _
  obtain ⟨h5, h6⟩ := load_saved (Calm.new 4) rfl hZ hb (by show 0 + 1 < _; omega) ho ⟨0, 2, 0, 1, abc⟩ ⟨rfl, rfl⟩
  exact ⟨h1, h2, h3, h4, h5, h6⟩
set_option maxHeartbeats 8000000 in
theorem awake20_any (M : DC) (C : SlC M) (w : World) (hk : C.ok w) : Calls Tryz.prog 4 #[] w fun e w' => e = .returned (.bool true) ∧ Below w.heap.size w w' := by
  obtain ⟨N, hN⟩ : ∃ N, w.heap.size = N := ⟨_, rfl⟩
  have HN := Lib.hid hN
  have OKN := Lib.hid (show ∀ X, Below N w X → C.ok X from fun X hX => C.bel hk (by rw [hN]; exact hX))
  have BN := Lib.hid (show ∀ X Y, Below N w X → Below X.heap.size X Y → Below N w Y from fun X Y h h' => h.trans (h'.mono (by have := h.size; omega)))
  obtain ⟨f1, f2, f3, f4, f5, f6⟩ := aw_facts
  obtain ⟨D0, hD0⟩ : ∃ D0, D0 = Dk.new 4 := ⟨_, rfl⟩
  obtain ⟨Z0, hZ0⟩ : ∃ Z0, Z0 = Sl.new 0 2 := ⟨_, rfl⟩
  obtain ⟨Z1, hZ1⟩ : ∃ Z1 : Sl, Z1 = ⟨0, 2, 0, 1, abc⟩ := ⟨_, rfl⟩
  rw [← hD0, ← hZ0] at f1 f2 f3 f4 f5 f6
  rw [← hZ1] at f4 f5 f6
  obtain ⟨D1, hD1⟩ : ∃ D1, D1 = Z0.saveD D0 abc := ⟨_, rfl⟩
  rw [← hD1] at f5 f6
  have C1 := Lib.hid (show Calls Tryz.prog 5 #[.int .i64 4] w fun e w' => ∃ g F, e = .returned (.tuple #[.pointer (some ⟨g, 0, none⟩), .int .i64 0]) ∧ M.Is N w' g D0 F ∧ Below N w w' from (M.new N w 4 (C.okM hk) (by omega) (by omega) (by omega)).mono fun e w' ⟨g, F, h1, h2, h3, h4⟩ => ⟨g, F, h1, by rw [hD0]; exact h2, by rw [← hN]; exact h4⟩)
  have C2 := Lib.hid (show ∀ X g F, Below N w X → M.Is N X g D0 F → Calls Tryz.prog 7 #[.pointer (some ⟨g, 0, none⟩), .int .i64 0, .int .i64 2] X fun e w' => ∃ s F' S', e = .returned (.tuple #[.pointer (some ⟨s, 0, none⟩), .int .i64 0]) ∧ Lz M C N w' g s D0 Z0 F' S' ∧ Below N X w' from fun X g F hX hI => (C.new N X g D0 F 0 2 (OKN.out X hX) hI (by rw [hD0]; rfl)).mono fun e w' ⟨s, S, F', h1, h2, h3, h4, h5, h6, h7⟩ => ⟨s, F', S, h1, ⟨h3, by rw [hZ0]; exact h2, h6, by rw [hZ0]; exact new_ok (first := 0) (n := 2) (by rw [hD0]; rfl)⟩, h7.bel⟩)
  have C3 := Lib.hid (show ∀ X g s F S, Below N w X → Lz M C N X g s D0 Z0 F S → Calls Tryz.prog 7 #[.pointer (some ⟨g, 0, none⟩), .int .i64 1, .int .i64 2] X fun e w' => ∃ F', e = .returned (.tuple #[.pointer none, .int .i64 1]) ∧ Lz M C N w' g s D0 Z0 F' S ∧ Below N X w' from fun X g s F S hX hI => (C.newNot N X g D0 F 1 2 (by omega) (by omega) (by omega) (by omega) (OKN.out X hX) hI.is (by rw [hD0]; rfl)).mono fun e w' ⟨h1, F', h2, h3, h4⟩ => ⟨F', h1, hI.disk h2 h3 h4 rfl, h4.bel⟩)
  have C4 := Lib.hid (show ∀ X g s F S, Below N w X → Lz M C N X g s D0 Z0 F S → Calls Tryz.prog 12 #[.pointer (some ⟨s, 0, none⟩)] X fun e w' => ∃ A n c m F' S', e = .returned (.tuple #[.slice A n c, .int .u64 m, .int .i64 11]) ∧ Lz M C N w' g s D0 Z0 F' S' ∧ Below N X w' from fun X g s F S hX hI => (hI.load (OKN.out X hX)).mono fun e w' ⟨A, c, F', S', h1, h2, _, h3, h4, h5⟩ => ⟨A, (Z0.loadB D0).length, c, (Z0.loadN D0 : Int), F', S', by rw [h1, f1]; rfl, by rw [f2] at h3; exact h3, h5.bel⟩)
  have C5 := Lib.hid (show ∀ X g s F S, Below N w X → Lz M C N X g s D0 Z0 F S → Calls Tryz.prog 10 #[.pointer (some ⟨s, 0, none⟩), .slice (some ⟨X.heap.size, 0, none⟩) 3 3] (X.alloc (.cells #[.int .u8 97, .int .u8 98, .int .u8 99] 5 (3, 4))) fun e w' => e = .returned (.int .i64 0) ∧ ∃ F' S', Lz M C N w' g s D1 Z1 F' S' ∧ Below N X w' from fun X g s F S hX hI => by
    have hG : Below X.heap.size X (X.alloc (.cells #[.int .u8 97, .int .u8 98, .int .u8 99] 5 (3, 4))) := (Below.refl _ _).alloc (Nat.le_refl _) _
    refine ((hI.grow hG).save (OKN.out _ (BN.out _ _ hX hG)) (rd_mark X _ abc _ rfl (by decide)) (fun a _ e hO => by injection e with e; rw [← e] at hO; have := (hI.lt _ hO).2; exact absurd this (Nat.lt_irrefl _)) (by rw [hD0]; show 0 < _; omega)).mono ?_
    rintro e w' ⟨h1, F', S', h2, h3, h4⟩
    rw [f4, ← hD1] at h2
    exact ⟨by rw [h1, f3]; rfl, F', S', h2, (hG.mono (by have := hX.size; omega)).trans h4.bel⟩)
  have C6 := Lib.hid (show ∀ X g s F S, Below N w X → Lz M C N X g s D1 Z1 F S → Calls Tryz.prog 22 #[.pointer (some ⟨s, 0, none⟩)] X fun e w' => ∃ A c, e = .returned (.tuple #[.slice A 3 c, .int .u64 1]) ∧ Rd w' A 3 c abc ∧ (∀ a, 0 < 3 → A = some a → ¬ Or2 F S a.block) ∧ Lz M C N w' g s D1 Z1 F S ∧ Below N X w' from fun X g s F S hX hI => (hI.now (OKN.out X hX)).mono fun e w' ⟨A, c, h1, h2, h0, h3, h4⟩ => by
    rw [hZ1] at h1 h2 h0
    exact ⟨A, c, h1, h2, h0, h3, h4⟩)
  have f7 : Z1.loadB D1 = abc := by rw [Sl.loadB, if_pos f5, f6, hZ1]
  have f8 : Z1.loadN D1 = 1 := by rw [Sl.loadN, if_pos f5, f6, hZ1]
  have C7 := Lib.hid (show ∀ X g s F S, Below N w X → Lz M C N X g s D1 Z1 F S → Calls Tryz.prog 12 #[.pointer (some ⟨s, 0, none⟩)] X fun e w' => ∃ A c, e = .returned (.tuple #[.slice A 3 c, .int .u64 1, .int .i64 0]) ∧ Rd w' A 3 c abc ∧ Mv N (Or2 F S) X w' from fun X g s F S hX hI => (hI.load (OKN.out X hX)).mono fun e w' ⟨A, c, F', S', h1, h2, _, h3, h4, h5⟩ => by
    rw [f7] at h1 h2
    rw [f5, f8] at h1
    exact ⟨A, c, h1, h2, h5⟩)
  have C8 := Lib.hid (show ∀ X, Below N w X → Calls Tryz.prog 25 #[.int .i64 2] X fun e w' => e = .returned (.int .i64 100) ∧ Below X.heap.size X w' from fun X hX => C.room X 2 (by omega) (by omega) (OKN.out X hX))
  have kc := fun (w : World) (C : Array Value) (n c : Nat) => Lib.run_convert_bytes_const (P := Tryz.prog) w 35 5 C n c Tryz.underlying35 Tryz.underlying5
  clear f1 f2 f3 f4 f5 f6 f7 f8 hD0 hZ0 hZ1 hD1 hk
  go_enter Tryz.func4, Tryz.ntmps4
  go_upto_region 12 with (first
    | (go_at_call 5; ((with_reducible refine C1.out.mono ?_); rintro e w1 ⟨g, F1, rfl, i1, b1⟩; have I1 := Lib.hid i1; have B1 := Lib.hid b1; clear i1 b1))
    | (go_at_call 7; ((with_reducible refine (C2.out w1 g F1 B1.out I1.out).mono ?_); rintro e w2 ⟨s, F2, S2, rfl, i2, b2⟩; have I2 := Lib.hid i2; have B2 := Lib.hid (B1.out.trans b2); clear i2 b2))
    | (go_at_call 7; ((with_reducible refine (C3.out w2 g s F2 S2 B2.out I2.out).mono ?_); rintro e w3 ⟨F3, rfl, i3, b3⟩; have I3 := Lib.hid i3; have B3 := Lib.hid (B2.out.trans b3); clear i3 b3))
    | (go_at_call 12; ((with_reducible refine (C4.out w3 g s F3 S2 B3.out I3.out).mono ?_); rintro e w4 ⟨A4, n4, c4, m4, F4, S4, rfl, i4, b4⟩; have I4 := Lib.hid i4; have B4 := Lib.hid (B3.out.trans b4); clear i4 b4))
    | (go_at_call 10; ((refine (C5.out w4 g s F4 S4 B4.out I4.out).mono ?_); rintro e w5 ⟨rfl, F5, S5, i5, b5⟩; have I5 := Lib.hid i5; have B5 := Lib.hid (B4.out.trans b5); clear i5 b5))
    | (go_at_call 22; ((with_reducible refine (C6.out w5 g s F5 S5 B5.out I5.out).mono ?_); rintro e w6 ⟨A6, c6, rfl, r6, a6, i6, b6⟩; have R6 := Lib.hid r6; have A6F := Lib.hid a6; have I6 := Lib.hid i6; have B6 := Lib.hid (B5.out.trans b6); clear r6 a6 i6 b6))
    | (go_at_call 12; ((with_reducible refine (C7.out w6 g s F5 S5 B6.out I6.out).mono ?_); rintro e w7 ⟨A7, c7, rfl, r7, m7⟩; have R7 := Lib.hid r7; have R67 := Lib.hid (m7.rd R6.out A6F.out); have B7 := Lib.hid (B6.out.trans m7.bel); clear r7 m7)))
  have v6 := rd_convert R67.out
  have v7 := rd_convert R7.out
  go_wp2_with (go_at_call 25; ((with_reducible refine (C8.out w7 B7.out).mono ?_); rintro e w8 ⟨rfl, b8⟩; have B8 := Lib.hid (BN.out _ _ B7.out b8); clear b8))
  go_ret
  exact ⟨rfl, by first | exact B8.out | (rw [HN.out]; exact B8.out)⟩
end Go.Proofs.YtdbamdbdogdpjaaGreatDoor.S20

/-
  The walk of layer 20's fifth statement (SlotsFull), over the contracts. No statement is proved here. (Written by gensll1.py.)
-/
namespace Go.Proofs.YtdbamdbdogdpjaaGreatDoor.S20
set_option linter.unusedSimpArgs false
set_option linter.unusedVariables false
set_option maxRecDepth 4096
open Go.RowKit S19

theorem byte_lit (w : World) (b : UInt8) : Rd (w.alloc (.cells #[.int .u8 (b.toNat : Int)] 5)) (some ⟨w.heap.size, 0, none⟩) 1 1 [b] := by
  have := World.ownsRow_lit (base := 0) (e := 5) (size := 1) w #[.int .u8 (b.toNat : Int)] 1 (Nat.zero_le _) (by simp [maxLen]) (by simp)
  exact Rd.own (B := 0) (e := 5) (by simpa [bv] using this)
theorem out_of {F S F' S' : Nat → Prop} {n : Nat} {a : Nat} (h : ∀ b, Or2 F' S' b → Or2 F S b ∨ n ≤ b) (ha : a < n) (hn : ¬ Or2 F S a) : ¬ Or2 F' S' a := fun e => by
  rcases h a e with e | e
  · exact hn e
  · omega
theorem full_facts (k : Nat) (h1 : 1 ≤ k) (h8 : k ≤ 8) (b : List UInt8) (hb : b.length = room k) (c : UInt8) : (Sl.new 0 k).Ok (Dk.new (2 * k)) ∧ (Sl.new 0 k).saveC (Dk.new (2 * k)) (b ++ [c]) = 1 ∧ (Sl.new 0 k).saveD (Dk.new (2 * k)) (b ++ [c]) = Dk.new (2 * k) ∧ (Sl.new 0 k).save (Dk.new (2 * k)) (b ++ [c]) = Sl.new 0 k ∧
    (Sl.new 0 k).saveC (Dk.new (2 * k)) b = 0 ∧ (Sl.new 0 k).save (Dk.new (2 * k)) b = ⟨0, k, 0, 1, b⟩ ∧ (⟨0, k, 0, 1, b⟩ : Sl).loadC ((Sl.new 0 k).saveD (Dk.new (2 * k)) b) = 0 ∧ (⟨0, k, 0, 1, b⟩ : Sl).loadB ((Sl.new 0 k).saveD (Dk.new (2 * k)) b) = b ∧ (⟨0, k, 0, 1, b⟩ : Sl).loadN ((Sl.new 0 k).saveD (Dk.new (2 * k)) b) = 1 := by
  have hm : may (Dk.new (2 * k)).sure.length 0 (k : Int) = true := decide_eq_true (by simp [Dk.new]; omega)
  have hZ : (Sl.new 0 k).Ok (Dk.new (2 * k)) := new_ok (first := 0) (n := k) hm
  have hl : room (Sl.new 0 k).n < (b ++ [c]).length := by show room k < _; simp; omega
  have g1 : (Sl.new 0 k).saveC (Dk.new (2 * k)) (b ++ [c]) = 1 := by rw [Sl.saveC, if_pos hl]
  have hbl : b.length ≤ room (Sl.new 0 k).n := by show _ ≤ room k; omega
  obtain ⟨h3, h4, _⟩ := save_calm (Calm.new (2 * k)) rfl hZ hbl
  have ho : (whole ((Sl.new 0 k).area (Dk.new (2 * k)) (1 - (Sl.new 0 k).goes)) (Sl.new 0 k).n).1 ≤ (Sl.new 0 k).num := by
    rw [area_new (k := 2 * k) (Z := Sl.new 0 k) (by show 0 + 2 * k ≤ 2 * k; omega) (by omega), whole_zero]
    exact Nat.zero_le _
  obtain ⟨h5, h6⟩ := load_saved (Calm.new (2 * k)) rfl hZ hbl (by show 0 + 1 < _; omega) ho ⟨0, k, 0, 1, b⟩ ⟨rfl, rfl⟩
  refine ⟨hZ, g1, by rw [Sl.saveD, if_pos hl], by rw [Sl.save, g1, if_neg (by omega)], h3, h4, h5, ?_, ?_⟩
  · rw [Sl.loadB, if_pos h5, h6]
  · rw [Sl.loadN, if_pos h5, h6]; rfl
end Go.Proofs.YtdbamdbdogdpjaaGreatDoor.S20
