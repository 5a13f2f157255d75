/-
  Texts put together: Sl9, Rv2, Rv4, Rv5, SlG. No statement is proved here.
-/
import Derived.Test.YtnoflgkjdibblaaGreatDoorWb12
import Derived.Test.YtnoflgkjdibblaaGreatDoorWb01
import Derived.Test.YtnoflgkjdibblaaGreatDoorWb05
import Derived.Test.YtnoflgkjdibblaaGreatDoorWb10
import Derived.Deep.RegionHeld3
import Derived.Test.YtnoflgkjdibblaaGreatDoorWb07

/-
  What is saved on a disk with which nothing fails, in plain words. No statement is proved here.
-/
namespace Go.Proofs.YtnoflgkjdibblaaGreatDoor.S20
set_option linter.unusedSimpArgs false
set_option linter.unusedVariables false
open S19

/-- A disk that is up, and with which nothing fails. -/
structure Calm (D : Dk) : Prop where
  off : D.off = false
  stop : D.stop = 0
  fails : D.fails = []
theorem Calm.new (k : Nat) : Calm (Dk.new k) := ⟨rfl, rfl, rfl⟩
theorem Calm.code {D : Dk} (h : Calm D) : D.stepC = 0 := by
  unfold Dk.stepC
  rw [if_neg (by rw [h.off]; simp), if_neg (by rw [h.stop]; omega), if_neg (by rw [h.fails]; simp)]
theorem Calm.step {D : Dk} (h : Calm D) : D.step = { D with cnt := D.cnt + 1 } := by
  unfold Dk.step
  rw [if_neg (by rw [h.stop]; omega)]
theorem Calm.more {D : Dk} (h : Calm D) (s : List (List UInt8)) (p : List (Nat × List UInt8)) (c : Nat) : Calm { D with sure := s, pend := p, cnt := c } := ⟨h.off, h.stop, h.fails⟩
theorem Calm.write {D : Dk} (h : Calm D) {i : Nat} {b : List UInt8} (hi : i < D.sure.length) (hb : b.length = 64) : D.writeC (i : Int) b = 0 ∧ D.write (i : Int) b = { D with cnt := D.cnt + 1, pend := D.pend ++ [(i, b)] } := by
  have hh : D.has (i : Int) ∧ b.length = 64 := ⟨by unfold Dk.has; omega, hb⟩
  have ho : ¬ D.off = true := by rw [h.off]; simp
  constructor
  · rw [Dk.writeC, if_neg ho, if_pos hh, h.code]
  · rw [Dk.write, if_neg ho, if_pos hh, if_pos h.code, h.step]
    rfl
/-- The rows from the j-th on, k of them, where they go. -/
def rowsP (at_ : Nat) (xs : List UInt8) : Nat → Nat → List (Nat × List UInt8)
  | _, 0 => []
  | j, k + 1 => (at_ + j, Sl.row xs j) :: rowsP at_ xs (j + 1) k
theorem row_len {xs : List UInt8} {j : Nat} (h : 64 * (j + 1) ≤ xs.length) : (Sl.row xs j).length = 64 := by simp [Sl.row]; omega
theorem writes_calm (at_ : Nat) (xs : List UInt8) : ∀ (k j : Nat) (D : Dk), Calm D → at_ + j + k ≤ D.sure.length → 64 * (j + k) ≤ xs.length → Sl.writes at_ xs k j D = (0, { D with cnt := D.cnt + k, pend := D.pend ++ rowsP at_ xs j k })
  | 0, j, D, h, _, _ => by simp [Sl.writes, rowsP]
  | k + 1, j, D, h, h1, h2 => by
    obtain ⟨e1, e2⟩ := h.write (i := at_ + j) (b := Sl.row xs j) (by omega) (row_len (by omega))
    rw [Sl.writes, if_pos e1, e2, writes_calm at_ xs k (j + 1) _ (h.more _ _ _) (by show at_ + (j + 1) + k ≤ D.sure.length; omega) (by omega)]
    simp [rowsP, Nat.add_comm 1, Nat.add_assoc]
theorem laid_rowsP (at_ : Nat) (xs : List UInt8) (i : Nat) : ∀ (k j : Nat) (s : List (List UInt8)), at_ + j + k ≤ s.length → (Dk.laid (rowsP at_ xs j k) s).getD i [] = if at_ + j ≤ i ∧ i < at_ + j + k then Sl.row xs (i - at_) else s.getD i []
  | 0, j, s, _ => by rw [if_neg (by omega)]; rfl
  | k + 1, j, s, h => by
    rw [rowsP, Dk.laid, laid_rowsP at_ xs i k (j + 1) _ (by rw [List.length_set]; omega)]
    by_cases h1 : at_ + (j + 1) ≤ i ∧ i < at_ + (j + 1) + k
    · rw [if_pos h1, if_pos (by omega)]
    · rw [if_neg h1]
      by_cases h2 : i = at_ + j
      · subst h2
        rw [if_pos (by omega), List.getD_eq_getElem?_getD, List.getElem?_set_self (by omega)]
        show Sl.row xs j = _
        congr 1
        omega
      · rw [if_neg (by omega), List.getD_eq_getElem?_getD, List.getElem?_set_ne (by omega), ← List.getD_eq_getElem?_getD]
theorem areaK_rows {D : Dk} {at_ : Nat} {xs : List UInt8} : ∀ k, (∀ i, i < k → D.atS (at_ + i) = Sl.row xs i) → Sl.areaK D at_ k = xs.take (64 * k)
  | 0, _ => by simp [Sl.areaK]
  | k + 1, h => by
    rw [Sl.areaK, areaK_rows k (fun i hi => h i (by omega)), h k (by omega), Sl.row, show 64 * (k + 1) = 64 * k + 64 by omega, List.take_add]
theorem areaK_same {D D' : Dk} {at_ : Nat} : ∀ k, (∀ i, i < k → D.atS (at_ + i) = D'.atS (at_ + i)) → Sl.areaK D at_ k = Sl.areaK D' at_ k
  | 0, _ => rfl
  | k + 1, h => by rw [Sl.areaK, Sl.areaK, areaK_same k (fun i hi => h i (by omega)), h k (by omega)]
/-- Saved where nothing is pending, and nothing fails. -/
theorem save_calm {Z : Sl} {D : Dk} {b : List UInt8} (hD : Calm D) (hp : D.pend = []) (hZ : Z.Ok D) (hb : b.length ≤ room Z.n) :
    Z.saveC D b = 0 ∧ Z.save D b = { Z with at_ := (Z.goes : Int), num := Z.next, b := b } ∧ Calm (Z.saveD D b) ∧ (Z.saveD D b).pend = [] ∧ (Z.saveD D b).cnt = D.cnt + Z.n + 1 ∧ Z.area (Z.saveD D b) Z.goes = recB Z.next b Z.n ∧ Z.area (Z.saveD D b) (1 - Z.goes) = Z.area D (1 - Z.goes) := by
  have hr := room_nat hZ.one hZ.most
  have h1 := hZ.one
  have hl : (recB Z.next b Z.n).length = 64 * Z.n := recB_len _ _ _ (by omega)
  have hg : Z.goes = 0 ∨ Z.goes = 1 := by unfold Sl.goes; split <;> simp
  have hfit : Z.first + Z.goes * Z.n + Z.n ≤ D.sure.length := by
    have := hZ.fits
    rcases hg with e | e <;> rw [e] <;> omega
  obtain ⟨xs, hxs⟩ : ∃ xs, xs = recB Z.next b Z.n := ⟨_, rfl⟩
  rw [← hxs] at hl ⊢
  have hw : Z.written D b = (0, { D with cnt := D.cnt + Z.n, pend := rowsP (Z.first + Z.goes * Z.n) xs 0 Z.n }) := by
    rw [Sl.written, ← hxs, writes_calm _ _ _ _ _ hD (by omega) (by omega), hp, List.nil_append]
  have hc2 : Calm { D with cnt := D.cnt + Z.n, pend := rowsP (Z.first + Z.goes * Z.n) xs 0 Z.n } := ⟨hD.off, hD.stop, hD.fails⟩
  have hC : Z.saveC D b = 0 := by rw [Sl.saveC, if_neg (by omega), hw, if_pos rfl]; exact hc2.code
  have hSD : Z.saveD D b = { D with cnt := D.cnt + Z.n + 1, sure := Dk.laid (rowsP (Z.first + Z.goes * Z.n) xs 0 Z.n) D.sure, pend := [] } := by
    rw [Sl.saveD, if_neg (by omega), hw, if_pos rfl]
    show Dk.flush _ = _
    rw [Dk.flush, if_neg (by show ¬ D.off = true; rw [hD.off]; simp), if_pos hc2.code, hc2.step]
  have hat : ∀ i, (Z.saveD D b).atS i = if Z.first + Z.goes * Z.n ≤ i ∧ i < Z.first + Z.goes * Z.n + Z.n then Sl.row xs (i - (Z.first + Z.goes * Z.n)) else D.sure.getD i [] := fun i => by
    rw [hSD]
    show (Dk.laid _ D.sure).getD i [] = _
    rw [laid_rowsP _ _ _ _ _ _ (by omega)]
    rfl
  refine ⟨hC, by rw [Sl.save, if_pos hC], by rw [hSD]; exact ⟨hD.off, hD.stop, hD.fails⟩, by rw [hSD], by rw [hSD], ?_, ?_⟩
  · rw [Sl.area, areaK_rows (xs := xs) Z.n (fun i hi => by rw [hat, if_pos (by omega)]; congr 1; omega), ← hl, List.take_of_length_le (Nat.le_refl _)]
  · rw [Sl.area, Sl.area]
    refine areaK_same Z.n fun i hi => ?_
    rw [hat, if_neg (by rcases hg with e | e <;> rw [e] <;> omega), Dk.atS, hp]
    rfl
/-- What is loaded of two areas that are known. -/
theorem seen_of {Z : Sl} {D : Dk} {a0 a1 : Nat × List UInt8} (h0 : whole (Z.area D 0) Z.n = a0) (h1 : whole (Z.area D 1) Z.n = a1) : Z.seen D = if a0.1 < a1.1 then (1, a1) else if 0 < a0.1 then (0, a0) else (-1, 0, []) := by
  have e0 : Z.look D 0 (-1, 0, []) = if 0 < a0.1 then ((0 : Int), a0) else (-1, 0, []) := by
    rw [Sl.look, h0]; rfl
  rw [Sl.seen, e0, Sl.look, h1]
  by_cases q : 0 < a0.1
  · rw [if_pos q]
    by_cases q2 : a0.1 < a1.1
    · rw [if_pos q2, if_pos q2]; rfl
    · rw [if_neg q2, if_neg q2]
  · rw [if_neg q]
    by_cases q2 : a0.1 < a1.1
    · rw [if_pos q2, if_pos (by show 0 < a1.1; omega)]; rfl
    · rw [if_neg q2, if_neg (by show ¬ 0 < a1.1; omega)]
theorem getL_zero : ∀ n, getL (List.replicate n 0) = 0
  | 0 => rfl
  | n + 1 => by rw [List.replicate_succ, getL_cons, getL_zero n]; simp
theorem whole_zero (m n : Nat) : whole (List.replicate m 0) n = (0, []) := by
  unfold whole
  refine if_neg fun h => h.1 ?_
  unfold numOf
  rw [List.take_replicate, getL_zero]
theorem area_zero {D : Dk} {at_ : Nat} : ∀ k, (∀ i, i < k → D.atS (at_ + i) = List.replicate 64 0) → Sl.areaK D at_ k = List.replicate (64 * k) 0
  | 0, _ => rfl
  | k + 1, h => by
    rw [Sl.areaK, area_zero k (fun i hi => h i (by omega)), h k (by omega), List.replicate_append_replicate]
    congr 1
theorem atS_new {k i : Nat} (h : i < k) : (Dk.new k).atS i = List.replicate 64 0 := by
  simp [Dk.atS, Dk.new, Dk.lastOf, List.getD, h]
theorem area_new {k : Nat} {Z : Sl} (h : Z.first + 2 * Z.n ≤ k) {i : Nat} (hi : i ≤ 1) : Z.area (Dk.new k) i = List.replicate (64 * Z.n) 0 := by
  refine area_zero Z.n fun j hj => atS_new ?_
  have h0 : i = 0 ∨ i = 1 := by omega
  rcases h0 with rfl | rfl <;> omega
/-- Nothing was saved on a new disk. -/
theorem load_new {k : Nat} {Z : Sl} (h : Z.first + 2 * Z.n ≤ k) (h1 : Z.at_ = -1) (h2 : Z.num = 0) (h3 : Z.b = []) : Z.loadC (Dk.new k) = 11 ∧ Z.load (Dk.new k) = Z := by
  have a0 := area_new h (i := 0) (by omega)
  have a1 := area_new h (i := 1) (by omega)
  have hs : Z.seen (Dk.new k) = (-1, 0, []) := by
    rw [seen_of (a0 := (0, [])) (a1 := (0, [])) (by rw [a0]; exact whole_zero _ _) (by rw [a1]; exact whole_zero _ _)]
    rfl
  have ho : ¬ (Dk.new k).off = true := by simp [Dk.new]
  constructor
  · rw [Sl.loadC, if_neg ho, hs, if_pos (by decide), if_pos (by rw [a0]; simp [blank])]
  · rw [Sl.load, if_neg ho, hs]
    cases Z
    simp only at h1 h2 h3
    subst h1 h2 h3
    rfl
/-- What was saved is loaded. -/
theorem load_saved {Z : Sl} {D : Dk} {b : List UInt8} (hD : Calm D) (hp : D.pend = []) (hZ : Z.Ok D) (hb : b.length ≤ room Z.n) (hn : Z.num + 1 < 18446744073709551616) (ho : (whole (Z.area D (1 - Z.goes)) Z.n).1 ≤ Z.num) (Y : Sl) (hy : Y.first = Z.first ∧ Y.n = Z.n) :
    Y.loadC (Z.saveD D b) = 0 ∧ Y.load (Z.saveD D b) = { Z with at_ := (Z.goes : Int), num := Z.num + 1, b := b } := by
  obtain ⟨s1, s2, s3, s4, s5, s6, s7⟩ := save_calm hD hp hZ hb
  have hx : Z.next = Z.num + 1 := Nat.mod_eq_of_lt hn
  rw [hx] at s6
  have hw := whole_rec (num := Z.num + 1) (by omega) hn hZ.one hZ.most hb
  have hY : ∀ i, Y.area (Z.saveD D b) i = Z.area (Z.saveD D b) i := fun i => by rw [Sl.area, Sl.area, hy.1, hy.2]
  have hg : Z.goes = 0 ∨ Z.goes = 1 := by unfold Sl.goes; split <;> simp
  have hs : Y.seen (Z.saveD D b) = ((Z.goes : Int), Z.num + 1, b) := by
    rcases hg with e | e
    · rw [e] at s6 s7 ho
      rw [seen_of (a0 := (Z.num + 1, b)) (a1 := whole (Z.area D (1 - 0)) Z.n) (by rw [hY, hy.2, s6]; exact hw) (by rw [hY, hy.2]; rw [show (1 : Nat) = 1 - 0 from rfl, s7]), if_neg (by show ¬ Z.num + 1 < _; omega), if_pos (by show 0 < Z.num + 1; omega), e]
      rfl
    · rw [e] at s6 s7 ho
      rw [seen_of (a1 := (Z.num + 1, b)) (a0 := whole (Z.area D (1 - 1)) Z.n) (by rw [hY, hy.2]; rw [show (0 : Nat) = 1 - 1 from rfl, s7]) (by rw [hY, hy.2, s6]; exact hw), if_pos (by show _ < Z.num + 1; omega), e]
      rfl
  have hoff : ¬ (Z.saveD D b).off = true := by rw [s3.off]; simp
  constructor
  · rw [Sl.loadC, if_neg hoff, hs, if_neg (by show ¬ (Z.goes : Int) < 0; omega)]
  · rw [Sl.load, if_neg hoff, hs]
    cases Y
    cases Z
    simp only at hy
    obtain ⟨rfl, rfl⟩ := hy
    rfl
end Go.Proofs.YtnoflgkjdibblaaGreatDoor.S20

/-
  Numbers that are given out once, in plain words, over slots and a disk. No statement is proved here.
-/
namespace Go.Proofs.YtnoflgkjdibblaaGreatDoor.S21
set_option linter.unusedSimpArgs false
set_option linter.unusedVariables false
open S19 (Dk)
open S20 (Sl)
namespace Cn
/-- A batch more is reserved, but no more than the total. -/
def more (x : Cn) : Cn := { x with res := if x.tot < x.res + x.bat then x.tot else x.res + x.bat }
def next (x : Cn) : Cn := { x with nxt := x.nxt + 1 }
/-- Must the counter be saved, ahead of a number's being given out? -/
def must (x : Cn) : Bool := !x.gone && (decide (x.nxt < x.tot) && decide (x.res ≤ x.nxt))
def takeC (x : Cn) (h : List UInt8) (Z : Sl) (D : Dk) : Nat := if x.gone = true then 13 else if x.tot ≤ x.nxt then 9 else if x.res ≤ x.nxt then Z.saveC D (x.more.row h) else 0
def takeN (x : Cn) (h : List UInt8) (Z : Sl) (D : Dk) : Nat := if x.takeC h Z D = 0 then x.nxt else 0
def take (x : Cn) (h : List UInt8) (Z : Sl) (D : Dk) : Cn := if x.takeC h Z D = 0 then (if x.must = true then x.more.next else x.next) else x
def takeZ (x : Cn) (h : List UInt8) (Z : Sl) (D : Dk) : Sl := if x.must = true then Z.save D (x.more.row h) else Z
def takeD (x : Cn) (h : List UInt8) (Z : Sl) (D : Dk) : Dk := if x.must = true then Z.saveD D (x.more.row h) else D
def dead (x : Cn) : Cn := { x with gone := true }
def retC (x : Cn) (h : List UInt8) (Z : Sl) (D : Dk) : Nat := if x.gone = true then 0 else Z.saveC D (x.dead.row h)
def ret (x : Cn) (h : List UInt8) (Z : Sl) (D : Dk) : Cn := if x.retC h Z D = 0 then x.dead else x
def retZ (x : Cn) (h : List UInt8) (Z : Sl) (D : Dk) : Sl := if x.gone = true then Z else Z.save D (x.dead.row h)
def retD (x : Cn) (h : List UInt8) (Z : Sl) (D : Dk) : Dk := if x.gone = true then D else Z.saveD D (x.dead.row h)
/-- A new one. -/
def fresh (tot bat : Nat) : Cn := ⟨tot, bat, 0, 0, false⟩
def newC (tot bat : Nat) (h : List UInt8) (Z : Sl) (D : Dk) : Nat :=
  if (fresh tot bat).May h.length then (if Z.loadC D = 0 then 10 else if Z.loadC D = 11 then (Z.load D).saveC D ((fresh tot bat).row h) else Z.loadC D) else 1
def newZ (tot bat : Nat) (h : List UInt8) (Z : Sl) (D : Dk) : Sl :=
  if (fresh tot bat).May h.length then (if Z.loadC D = 11 then (Z.load D).save D ((fresh tot bat).row h) else Z.load D) else Z
def newD (tot bat : Nat) (h : List UInt8) (Z : Sl) (D : Dk) : Dk :=
  if (fresh tot bat).May h.length then (if Z.loadC D = 11 then (Z.load D).saveD D ((fresh tot bat).row h) else D) else D
def openC (Z : Sl) (D : Dk) : Nat := if Z.loadC D = 0 then readC (Z.loadB D) else Z.loadC D
def openX (Z : Sl) (D : Dk) : Cn := ofB (Z.loadB D)
def openH (Z : Sl) (D : Dk) : List UInt8 := (Z.loadB D).drop 25
/-- What holds of every one that is open. -/
structure Ok (x : Cn) (n : Nat) : Prop where
  may : x.May n
  le : x.nxt ≤ x.res
theorem Ok.fit {x : Cn} {n : Nat} (h : x.Ok n) : x.Fit := may_fit h.may (by have := h.may; unfold May at this; have := h.le; omega)
theorem fresh_ok {tot bat n : Nat} (h : (fresh tot bat).May n) : (fresh tot bat).Ok n := ⟨h, Nat.le_refl _⟩
theorem more_may {x : Cn} {n : Nat} (h : x.May n) : x.more.May n := by
  unfold May more at *
  simp only
  split <;> omega
theorem more_fit {x : Cn} {n : Nat} (h : x.Ok n) : x.more.Fit := may_fit (more_may h.may) h.fit.nxt
theorem take_ok {x : Cn} {n : Nat} (h : x.Ok n) (hd : List UInt8) (Z : Sl) (D : Dk) : (x.take hd Z D).Ok n := by
  unfold take
  split
  · rename_i h0
    have hm := h.may
    have hl := h.le
    have hg : ¬ x.gone = true ∧ ¬ x.tot ≤ x.nxt := by
      unfold takeC at h0
      split at h0
      · omega
      split at h0
      · omega
      exact ⟨by assumption, by assumption⟩
    unfold May at hm
    split
    · rename_i hmu
      have hr : x.res ≤ x.nxt := by
        simp [must] at hmu
        exact hmu.2.2
      refine ⟨?_, ?_⟩
      · exact more_may h.may
      · show x.nxt + 1 ≤ (if x.tot < x.res + x.bat then x.tot else x.res + x.bat)
        split <;> omega
    · rename_i hmu
      have hr : ¬ x.res ≤ x.nxt := fun e => hmu (by
        simp [must]
        exact ⟨by simpa using hg.1, by omega, e⟩)
      exact ⟨h.may, show x.nxt + 1 ≤ x.res by omega⟩
  · exact h
theorem ret_ok {x : Cn} {n : Nat} (h : x.Ok n) (hd : List UInt8) (Z : Sl) (D : Dk) : (x.ret hd Z D).Ok n := by
  unfold ret
  split
  · exact ⟨h.may, h.le⟩
  · exact h
theorem open_ok {Z : Sl} {D : Dk} (h : openC Z D = 0) : (openX Z D).Ok (openH Z D).length ∧ (openX Z D).Fit := by
  have hr : readC (Z.loadB D) = 0 := by
    unfold openC at h
    split at h
    · exact h
    · omega
  refine ⟨⟨?_, Nat.le_refl _⟩, ofB_fit _⟩
  unfold readC at hr
  split at hr
  · omega
  split at hr
  · omega
  rename_i h2
  have : ¬ ¬ (ofB (Z.loadB D)).May ((Z.loadB D).length - 25) := fun e => h2 (.inr e)
  have h3 := Decidable.not_not.1 this
  unfold openX openH
  rw [List.length_drop]
  exact h3
end Cn
end Go.Proofs.YtnoflgkjdibblaaGreatDoor.S21

/-
  The document's own May, Bytes and Read of layer 21. No statement is proved here.
-/
namespace Go.Proofs.YtnoflgkjdibblaaGreatDoor.S21
set_option linter.unusedSimpArgs false
set_option linter.unusedVariables false
set_option maxRecDepth 4096
open Go.RowKit

set_option maxHeartbeats 2000000 in
theorem rmay21_any (x : Cn) (A : Option Addr) (n c : Nat) (w : World) : Calls Tryz.prog 37 #[.agg x.cells, .slice A n c] w fun e w' => e = .returned (.bool (decide (x.May n))) ∧ Below w.heap.size w w' := by
  obtain ⟨t, b, r, nx, gn⟩ := x
  obtain ⟨m, hm⟩ : ∃ m, m = decide (Cn.May ⟨t, b, r, nx, gn⟩ n) := ⟨_, rfl⟩
  rw [← hm]
  unfold Cn.May at hm
  simp only at hm
  unfold Cn.cells
  simp only
  obtain ⟨w1, hw1⟩ : ∃ w1, w1 = w.alloc (.cells #[.int .u64 (t : Int), .int .u64 (b : Int), .int .u64 (r : Int), .int .u64 (nx : Int), .bool gn] 46) := ⟨_, rfl⟩
  have hbel : Below w.heap.size w w1 := by rw [hw1]; exact (Below.refl _ _).alloc (Nat.le_refl _) _
  have HB := Lib.hid hbel
  have HW := Lib.hid hw1
  clear hbel hw1
  by_cases q1 : (0 : Int) < (t : Int)
  · by_cases q2 : (t : Int) ≤ 1152921504606846976
    · by_cases q3 : (0 : Int) < (b : Int)
      · by_cases q4 : (b : Int) ≤ 65536
        · by_cases q5 : (r : Int) ≤ (t : Int)
          · by_cases q6 : (n : Int) ≤ 200
            · obtain rfl : m = true := by rw [hm]; exact decide_eq_true (by omega)
              clear hm
              go_enter Tryz.func37, Tryz.ntmps37
              go_wp2
              go_ret
              rw [← HW.out]
              exact ⟨rfl, HB.out⟩
            · obtain rfl : m = false := by rw [hm]; exact decide_eq_false (by omega)
              clear hm
              go_enter Tryz.func37, Tryz.ntmps37
              go_wp2
              go_ret
              rw [← HW.out]
              exact ⟨rfl, HB.out⟩
          · obtain rfl : m = false := by rw [hm]; exact decide_eq_false (by omega)
            clear hm
            go_enter Tryz.func37, Tryz.ntmps37
            go_wp2
            go_ret
            rw [← HW.out]
            exact ⟨rfl, HB.out⟩
        · obtain rfl : m = false := by rw [hm]; exact decide_eq_false (by omega)
          clear hm
          go_enter Tryz.func37, Tryz.ntmps37
          go_wp2
          go_ret
          rw [← HW.out]
          exact ⟨rfl, HB.out⟩
      · obtain rfl : m = false := by rw [hm]; exact decide_eq_false (by omega)
        clear hm
        go_enter Tryz.func37, Tryz.ntmps37
        go_wp2
        go_ret
        rw [← HW.out]
        exact ⟨rfl, HB.out⟩
    · obtain rfl : m = false := by rw [hm]; exact decide_eq_false (by omega)
      clear hm
      go_enter Tryz.func37, Tryz.ntmps37
      go_wp2
      go_ret
      rw [← HW.out]
      exact ⟨rfl, HB.out⟩
  · obtain rfl : m = false := by rw [hm]; exact decide_eq_false (by omega)
    clear hm
    go_enter Tryz.func37, Tryz.ntmps37
    go_wp2
    go_ret
    rw [← HW.out]
    exact ⟨rfl, HB.out⟩
end Go.Proofs.YtnoflgkjdibblaaGreatDoor.S21

/-
  The document's own Bytes of layer 21. No statement is proved here. (Written by genrv5.py.)
-/
namespace Go.Proofs.YtnoflgkjdibblaaGreatDoor.S21
set_option linter.unusedSimpArgs false
set_option linter.unusedVariables false
set_option maxRecDepth 4096
open Go.RowKit

theorem RdBs.built5 (w : World) (T : TypeId) {A1 A2 A3 A4 A5 : Option Addr} {n1 n2 n3 n4 n5 c1 c2 c3 c4 c5 : Nat} {x1 x2 x3 x4 x5 : List UInt8} (h1 : Rd w A1 n1 c1 x1) (h2 : Rd w A2 n2 c2 x2) (h3 : Rd w A3 n3 c3 x3) (h4 : Rd w A4 n4 c4 x4) (h5 : Rd w A5 n5 c5 x5) :
    RdBs (w.alloc (.cells #[.slice A1 n1 c1, .slice A2 n2 c2, .slice A3 n3 c3, .slice A4 n4 c4, .slice A5 n5 c5] T)) (some ⟨w.heap.size, 0, none⟩) 5 5 [x1, x2, x3, x4, x5] :=
  RdBs.built w _ T [x1, x2, x3, x4, x5] (by simp [maxLen]) fun j hj => by
    match j, hj with
    | 0, _ => exact ⟨A1, n1, c1, rfl, h1⟩
    | 1, _ => exact ⟨A2, n2, c2, rfl, h2⟩
    | 2, _ => exact ⟨A3, n3, c3, rfl, h3⟩
    | 3, _ => exact ⟨A4, n4, c4, rfl, h4⟩
    | 4, _ => exact ⟨A5, n5, c5, rfl, h5⟩
/-- The counter as bytes, but for its last number. -/
def flat0 (x : Cn) (h : List UInt8) : List UInt8 := [putL x.tot 8, putL x.bat 8, putL x.res 8, [0], h].flatten
theorem flat0_len (x : Cn) (h : List UInt8) : (flat0 x h).length = 25 + h.length := by simp [flat0, putL_length]; omega
theorem flat0_row (x : Cn) (h : List UInt8) : (if x.gone = true then (flat0 x h).set 24 1 else flat0 x h) = x.row h := by
  have e : flat0 x h = (putL x.tot 8 ++ putL x.bat 8 ++ putL x.res 8) ++ (0 :: h) := by simp [flat0]
  have l : (putL x.tot 8 ++ putL x.bat 8 ++ putL x.res 8).length = 24 := by simp [putL_length]
  rw [e, Cn.row]
  unfold Cn.flag
  cases x.gone
  · simp
  · simp only [reduceIte]
    rw [List.set_append_right _ _ (by omega), l]
    simp
abbrev cnA (t b r nx : Nat) (gn : Bool) : Array Value := #[.int .u64 (t : Int), .int .u64 (b : Int), .int .u64 (r : Int), .int .u64 (nx : Int), .bool gn]
/-- The facts of Bytes. -/
def rbF (w : World) (g t b r : Nat) (A : Option Addr) (n c : Nat) (x1 x2 x3 h : List UInt8) : Nat → SG.Fact := fun i => (([SG.Fact.eq (.pointer (some ⟨g, 0, none⟩)), SG.Fact.eq (.int .u64 (t : Int)), SG.Fact.rd 8 x1, SG.Fact.eq (.pointer (some ⟨g, 1, none⟩)), SG.Fact.eq (.int .u64 (b : Int)), SG.Fact.rd 8 x2, SG.Fact.eq (.pointer (some ⟨g, 2, none⟩)), SG.Fact.eq (.int .u64 (r : Int)), SG.Fact.rd 8 x3, SG.Fact.bk 1 5 #[.int .u8 0], SG.Fact.eq (.slice A n c), SG.Fact.rows 5 [x1, x2, x3, [0], h], SG.Fact.new w [x1, x2, x3, [0], h].flatten, SG.Fact.new w [x1, x2, x3, [0], h].flatten] : List SG.Fact))[i]?.getD SG.Fact.any
set_option maxHeartbeats 8000000 in
theorem rbytes21_any (x : Cn) (A : Option Addr) (n c : Nat) (h : List UInt8) (w : World) (hx : x.Fit) (hr : Rd w A n c h) (hn : n ≤ 100000) :
    Calls Tryz.prog 39 #[.agg x.cells, .slice A n c] w fun e w' => ∃ A' c', e = .returned (.tuple #[.slice A' (x.bytesB h).length c', .int .i64 (x.bytesC h : Int)]) ∧ w'.ownsRow w.heap.size 5 1 (.slice A' (x.bytesB h).length c') (x.bytesB h).length (bv (x.bytesB h)) ∧ Below w.heap.size w w' := by
  have hl := hr.len
  obtain ⟨t, b, r, nx, gn⟩ := x
  obtain ⟨g, hg⟩ : ∃ g, g = w.heap.size := ⟨_, rfl⟩
  obtain ⟨w0, hw0⟩ : ∃ w0, w.alloc (.cells (cnA t b r nx gn) 46) = w0 := ⟨_, rfl⟩
  have G0 := Lib.hid (show Bk w0 g 46 (cnA t b r nx gn) by rw [← hw0, hg]; exact Bk.new _ _ _)
  have B0 := Lib.hid (show Below w.heap.size w w0 by rw [← hw0]; exact (Below.refl _ _).alloc (Nat.le_refl _) _)
  have HW0 := Lib.hid hw0
  have HG := Lib.hid hg
  have k0 : w0.cell? ⟨g, 0, none⟩ = some (.int .u64 (t : Int)) := G0.out.cell 0
  have k1 : w0.cell? ⟨g, 1, none⟩ = some (.int .u64 (b : Int)) := G0.out.cell 1
  have k2 : w0.cell? ⟨g, 2, none⟩ = some (.int .u64 (r : Int)) := G0.out.cell 2
  have k3 : w0.cell? ⟨g, 3, none⟩ = some (.int .u64 (nx : Int)) := G0.out.cell 3
  have k4 : w0.cell? ⟨g, 4, none⟩ = some (.bool gn) := G0.out.cell 4
  clear hw0 hg
  have MY := Lib.hid (fun X => rmay21_any ⟨t, b, r, nx, gn⟩ A n c X)
  unfold Cn.cells at MY ⊢
  simp only at MY ⊢
  by_cases hm : Cn.May ⟨t, b, r, nx, gn⟩ n
  · rw [show Cn.bytesB ⟨t, b, r, nx, gn⟩ h = Cn.row ⟨t, b, r, nx, gn⟩ h by simp [Cn.bytesB, hl, hm], show Cn.bytesC ⟨t, b, r, nx, gn⟩ h = 0 by simp [Cn.bytesC, hl, hm]]
    rw [show decide (Cn.May ⟨t, b, r, nx, gn⟩ n) = true from decide_eq_true hm] at MY
    have RW := Lib.hid (flat0_row ⟨t, b, r, nx, gn⟩ h)
    have FL := Lib.hid (flat0_len ⟨t, b, r, nx, gn⟩ h)
    have RL := Lib.hid (Cn.row_len ⟨t, b, r, nx, gn⟩ h)
    have HLN := Lib.hid hl
    obtain ⟨x1, hx1⟩ : ∃ x1, x1 = putL t 8 := ⟨_, rfl⟩
    obtain ⟨x2, hx2⟩ : ∃ x2, x2 = putL b 8 := ⟨_, rfl⟩
    obtain ⟨x3, hx3⟩ : ∃ x3, x3 = putL r 8 := ⟨_, rfl⟩
    have FF := Lib.hid (show flat0 ⟨t, b, r, nx, gn⟩ h = [x1, x2, x3, [0], h].flatten by rw [hx1, hx2, hx3]; rfl)
    have N1 := Lib.hid (show ∀ X, Calls Tryz.prog 68 #[.int .u64 (t : Int), .int .i64 8] X (New X.heap.size X x1) from fun X => by rw [hx1]; exact rput_any t 8 X (by omega) hx.tot)
    have N2 := Lib.hid (show ∀ X, Calls Tryz.prog 68 #[.int .u64 (b : Int), .int .i64 8] X (New X.heap.size X x2) from fun X => by rw [hx2]; exact rput_any b 8 X (by omega) hx.bat)
    have N3 := Lib.hid (show ∀ X, Calls Tryz.prog 68 #[.int .u64 (r : Int), .int .i64 8] X (New X.heap.size X x3) from fun X => by rw [hx3]; exact rput_any r 8 X (by omega) hx.res)
    have L1 := Lib.hid (show x1.length = 8 by rw [hx1]; exact putL_length _ _)
    have L2 := Lib.hid (show x2.length = 8 by rw [hx2]; exact putL_length _ _)
    have L3 := Lib.hid (show x3.length = 8 by rw [hx3]; exact putL_length _ _)
    have HL := Lib.hid (show [x1, x2, x3, [0], h].flatten.length ≤ 140737488355328 by simp; have := L1.out; have := L2.out; have := L3.out; omega)
    have HR := Lib.hid hr
    have HN := Lib.hid hn
    generalize Cn.row ⟨t, b, r, nx, gn⟩ h = RR at *
    clear hx1 hx2 hx3 hx hr hl hm hn
    go_enter Tryz.func39, Tryz.ntmps39
    go_upto_region 1 with (fail)
    rw [HW0.out, ← HG.out]
    go_upto_region 3 with (first
      | (go_at_call 37; ((with_reducible refine (MY.out _).mono ?_); rintro e w1 ⟨rfl, b1⟩; have B1 := Lib.hid b1; clear b1)))
    have G1 := Lib.hid (G0.out.below B1.out G0.out.lt)
    have BW := Lib.hid (B0.out.trans (B1.out.mono B0.out.size))
    clear G0 B0 B1 MY k0 k1 k2 k3 k4
    have HBB := Lib.hid (show ∀ X X', (Below w.heap.size w X ∧ Bk X g 46 (cnA t b r nx gn)) → Below X.heap.size X X' → (Below w.heap.size w X' ∧ Bk X' g 46 (cnA t b r nx gn)) from fun X X' h hb => ⟨h.1.trans (hb.mono h.1.size), h.2.below hb h.2.lt⟩)
    refine SG.wp_region_vals (rbF w g t b r A n c x1 x2 x3 h) (fun X => Below w.heap.size w X ∧ Bk X g 46 (cnA t b r nx gn)) 14 (by kernel_rfl) (by kernel_rfl) rfl ⟨BW.out.drew, G1.out.drew⟩ ?_
    refine SG.seq_val (by omega) HBB.out (fun _ => by rfl) ?_ ?_
    · intro g' X hB hd
      clear hd hB
      exact SG.givesQ_run (by go_simp) ⟨Below.refl _ _, rfl⟩
    simp only [Act.put, List.setIfInBounds_toArray, List.set_cons_zero, List.set_cons_succ]
    refine SG.seq_val (by omega) HBB.out (fun _ => by rfl) ?_ ?_
    · intro g' X hB hd
      have e0 : g' 0 = _ := hd 0 (by kernel_rfl)
      have f0 : X.cell? ⟨g, 0, none⟩ = some (.int .u64 (t : Int)) := hB.2.cell 0
      clear hd hB
      exact SG.givesQ_run (by go_simp) ⟨Below.refl _ _, rfl⟩
    simp only [Act.put, List.setIfInBounds_toArray, List.set_cons_zero, List.set_cons_succ]
    refine SG.seq_val (by omega) HBB.out (fun _ => by rfl) ?_ ?_
    · intro g' X hB hd
      have e1 : g' 1 = _ := hd 1 (by kernel_rfl)
      clear hd hB
      refine SG.givesQ_call (f := 68) (args := #[.int .u64 (t : Int), .int .i64 8]) (by go_simp) ((N1.out X).mono ?_)
      intro e X' h3
      obtain ⟨A', c', rfl, r', hb⟩ := new_len h3
      rw [L1.out] at r'
      exact ⟨_, rfl, hb, A', c', by rw [L1.out], r'⟩
    simp only [Act.put, List.setIfInBounds_toArray, List.set_cons_zero, List.set_cons_succ]
    refine SG.seq_val (by omega) HBB.out (fun _ => by rfl) ?_ ?_
    · intro g' X hB hd
      clear hd hB
      exact SG.givesQ_run (by go_simp) ⟨Below.refl _ _, rfl⟩
    simp only [Act.put, List.setIfInBounds_toArray, List.set_cons_zero, List.set_cons_succ]
    refine SG.seq_val (by omega) HBB.out (fun _ => by rfl) ?_ ?_
    · intro g' X hB hd
      have e0 : g' 3 = _ := hd 3 (by kernel_rfl)
      have f0 : X.cell? ⟨g, 1, none⟩ = some (.int .u64 (b : Int)) := hB.2.cell 1
      clear hd hB
      exact SG.givesQ_run (by go_simp) ⟨Below.refl _ _, rfl⟩
    simp only [Act.put, List.setIfInBounds_toArray, List.set_cons_zero, List.set_cons_succ]
    refine SG.seq_val (by omega) HBB.out (fun _ => by rfl) ?_ ?_
    · intro g' X hB hd
      have e1 : g' 4 = _ := hd 4 (by kernel_rfl)
      clear hd hB
      refine SG.givesQ_call (f := 68) (args := #[.int .u64 (b : Int), .int .i64 8]) (by go_simp) ((N2.out X).mono ?_)
      intro e X' h3
      obtain ⟨A', c', rfl, r', hb⟩ := new_len h3
      rw [L2.out] at r'
      exact ⟨_, rfl, hb, A', c', by rw [L2.out], r'⟩
    simp only [Act.put, List.setIfInBounds_toArray, List.set_cons_zero, List.set_cons_succ]
    refine SG.seq_val (by omega) HBB.out (fun _ => by rfl) ?_ ?_
    · intro g' X hB hd
      clear hd hB
      exact SG.givesQ_run (by go_simp) ⟨Below.refl _ _, rfl⟩
    simp only [Act.put, List.setIfInBounds_toArray, List.set_cons_zero, List.set_cons_succ]
    refine SG.seq_val (by omega) HBB.out (fun _ => by rfl) ?_ ?_
    · intro g' X hB hd
      have e0 : g' 6 = _ := hd 6 (by kernel_rfl)
      have f0 : X.cell? ⟨g, 2, none⟩ = some (.int .u64 (r : Int)) := hB.2.cell 2
      clear hd hB
      exact SG.givesQ_run (by go_simp) ⟨Below.refl _ _, rfl⟩
    simp only [Act.put, List.setIfInBounds_toArray, List.set_cons_zero, List.set_cons_succ]
    refine SG.seq_val (by omega) HBB.out (fun _ => by rfl) ?_ ?_
    · intro g' X hB hd
      have e1 : g' 7 = _ := hd 7 (by kernel_rfl)
      clear hd hB
      refine SG.givesQ_call (f := 68) (args := #[.int .u64 (r : Int), .int .i64 8]) (by go_simp) ((N3.out X).mono ?_)
      intro e X' h3
      obtain ⟨A', c', rfl, r', hb⟩ := new_len h3
      rw [L3.out] at r'
      exact ⟨_, rfl, hb, A', c', by rw [L3.out], r'⟩
    simp only [Act.put, List.setIfInBounds_toArray, List.set_cons_zero, List.set_cons_succ]
    refine SG.seq_val (by omega) HBB.out (fun _ => by rfl) ?_ ?_
    · intro g' X hB hd
      clear hd hB
      exact SG.givesQ_run (w' := X.alloc (.cells #[.int .u8 0] 5)) (by go_simp) ⟨(Below.refl _ _).alloc (Nat.le_refl _) _, X.heap.size, rfl, Bk.new _ _ _⟩
    simp only [Act.put, List.setIfInBounds_toArray, List.set_cons_zero, List.set_cons_succ]
    refine SG.seq_val (by omega) HBB.out (fun _ => by rfl) ?_ ?_
    · intro g' X hB hd
      clear hd hB
      exact SG.givesQ_run (by go_simp) ⟨Below.refl _ _, rfl⟩
    simp only [Act.put, List.setIfInBounds_toArray, List.set_cons_zero, List.set_cons_succ]
    refine SG.seq_val (by omega) HBB.out (fun _ => by rfl) ?_ ?_
    · intro g' X hB hd
      obtain ⟨A1, c1, e2, r1⟩ := hd 2 (by kernel_rfl)
      obtain ⟨A2, c2, e5, r2⟩ := hd 5 (by kernel_rfl)
      obtain ⟨A3, c3, e8, r3⟩ := hd 8 (by kernel_rfl)
      obtain ⟨b4, e9, k4⟩ := hd 9 (by kernel_rfl)
      have e10 : g' 10 = _ := hd 10 (by kernel_rfl)
      have r4 : Rd X (some ⟨b4, 0, none⟩) 1 1 [0] := Rd.of_bk k4 rfl (Nat.le_refl _) (by simp [maxLen]) (fun j hj => by obtain rfl : j = 0 := (by omega); rfl)
      have r5 := HR.out.below hB.1
      clear hd hB
      exact SG.givesQ_run (w' := X.alloc (.cells #[.slice A1 8 c1, .slice A2 8 c2, .slice A3 8 c3, .slice (some ⟨b4, 0, none⟩) 1 1, .slice A n c] 23)) (by go_simp) ⟨(Below.refl _ _).alloc (Nat.le_refl _) _, some ⟨X.heap.size, 0, none⟩, 5, rfl, RdBs.built5 X _ r1 r2 r3 r4 r5⟩
    simp only [Act.put, List.setIfInBounds_toArray, List.set_cons_zero, List.set_cons_succ]
    refine SG.seq_val (by omega) HBB.out (fun _ => by rfl) ?_ ?_
    · intro g' X hB hd
      obtain ⟨A', c', e11, r'⟩ := hd 11 (by kernel_rfl)
      have hs := hB.1.size
      clear hd hB
      refine SG.givesQ_call (f := 67) (args := #[.slice A' 5 c']) (by go_simp) ((rcat_any A' 5 c' _ X r' HL.out).mono ?_)
      rintro e X' ⟨A9, n9, c9, rfl, ho, hb⟩
      exact ⟨_, rfl, hb, A9, n9, c9, rfl, own_base ho hs⟩
    simp only [Act.put, List.setIfInBounds_toArray, List.set_cons_zero, List.set_cons_succ]
    refine SG.seq_val (by omega) HBB.out (fun _ => by rfl) ?_ ?_
    · intro g' X hB hd
      obtain ⟨A', n', c', e12, r'⟩ := hd 12 (by kernel_rfl)
      clear hd hB
      exact SG.givesQ_run (u := .slice A' n' c') (by go_simp) ⟨Below.refl _ _, A', n', c', rfl, r'⟩
    simp only [Act.put, List.setIfInBounds_toArray, List.set_cons_zero, List.set_cons_succ]
    refine SG.seq_end fun g' X hB hf => ?_
    obtain ⟨A7, n7, c7, e13, o7⟩ := hf 13 (by simp)
    have HB := Lib.hid hB.1
    have GX := Lib.hid hB.2
    have O7 := Lib.hid o7
    rw [show g' 13 = .slice A7 n7 c7 from e13]
    have hn7 : n7 = 25 + n := by rw [← own_len o7, ← FF.out, FL.out, HLN.out]
    subst hn7
    clear hf hB o7 e13 HBB
    have c4 : X.cell? ⟨g, 4, none⟩ = some (.bool gn) := GX.out.cell 4
    cases gn with
    | false =>
      go_wp2
      go_ret2
      have e := RW.out
      simp only [Bool.false_eq_true, if_false] at e
      rw [← e, FF.out, ← FF.out, FL.out, FF.out, HLN.out]
      exact ⟨A7, c7, rfl, O7.out, HB.out⟩
    | true =>
      obtain ⟨b7, cap7, hv7, _⟩ := O7.out.form (by omega)
      injection hv7 with hA7 _ hc7
      subst hA7 hc7
      have hc := O7.out.cellAt 24 (by omega)
      have hf := O7.out.frozenAt 24
      have hs := O7.out.stored 24 (.int .u8 1)
      have HS := Lib.hid hs
      rw [bv_at _ _ (by rw [← FF.out, FL.out]; omega)] at hc
      clear hs
      go_wp2
      go_ret2
      have e := RW.out
      simp only [if_true] at e
      have h1 := HS.out.1
      rw [show (Value.int .u8 1) = .int .u8 ((1 : UInt8).toNat : Int) from rfl, bv_set, ← FF.out, e] at h1
      have h2 : RR.length = 25 + n := by rw [RL.out, HLN.out]
      rw [h2]
      refine ⟨_, _, rfl, ?_, HB.out.grown HS.out.2 HB.out.size (fun q hq => by injection hq with hq; rw [← hq]; exact (O7.out.lt b7 rfl).1)⟩
      exact h1
  · rw [show Cn.bytesB ⟨t, b, r, nx, gn⟩ h = [] by simp [Cn.bytesB, hl, hm], show Cn.bytesC ⟨t, b, r, nx, gn⟩ h = 1 by simp [Cn.bytesC, hl, hm]]
    rw [show decide (Cn.May ⟨t, b, r, nx, gn⟩ n) = false from decide_eq_false hm] at MY
    clear hx hr hl hm hn
    go_enter Tryz.func39, Tryz.ntmps39
    go_upto_region 1 with (fail)
    rw [HW0.out, ← HG.out]
    go_wp2_with (first
      | (go_at_call 37; ((with_reducible refine (MY.out _).mono ?_); rintro e w1 ⟨rfl, b1⟩; have B1 := Lib.hid b1; clear b1)))
    go_ret2
    exact ⟨none, 0, rfl, ⟨rfl, .inl ⟨rfl, rfl⟩⟩, B0.out.trans (B1.out.mono B0.out.size)⟩
end Go.Proofs.YtnoflgkjdibblaaGreatDoor.S21

/-
  A drawn region that appends what was to lie somewhere: what holds while it is gone through. No statement is proved here.
-/
namespace Go.Proofs.YtnoflgkjdibblaaGreatDoor.S20
set_option linter.unusedSimpArgs false
set_option linter.unusedVariables false
set_option maxRecDepth 4096
open Go.RowKit S19

theorem run_append_lay {o : Oper} {a : Act} {w w' : World} {v u v' : Value} (s x : Operand) (ho : o.op = .call { callee := .builtin .append, args := #[s, x], argTypes := #[59, 59] }) (hs : a.eval s = v) (hx : a.eval x = u)
    (hrun : (Builtin.append_ #[59, 59] o.type #[v, u]).run Tryz.prog w = .ok v' w') : (execOp a.eval o).run Tryz.prog w = .ok (.value v') w' := by
  simp [execOp, ho, resolve, invoke, builtin, hs, hx, hrun, Result.andThen]
/-- One more has come behind what was to be laid. -/
structure Sx (N : Nat) (w : World) (L : Value) (k : Nat) (v8 : Value) (X : World) : Prop where
  ex : ∃ wl vs, Below w.heap.size w wl ∧ X.ownsRow N 135 2 v8 (k + 1) vs ∧ wl.grownBy X L.ownBlock ∧ (v8.ownBlock = L.ownBlock ∨ v8.ownBlock = some wl.heap.size)
abbrev Gh := Nat × Option Addr × Nat
abbrev v8of (k : Nat) (g : Gh) : Value := .slice g.2.1 (k + 1) g.2.2
/-- What holds of a world, some operations being done: load of the row (10), the literal (24), append (25), the store (28). -/
structure ILay (N : Nat) (w : World) (h : Nat) (L : Value) (k : Nat) (cs : Array Value) (g : Gh) (B : Array Bool) (X : World) : Prop where
  o1 : B.getD 25 false = true → B.getD 24 false = true ∧ B.getD 10 false = true
  o2 : B.getD 28 false = true → B.getD 25 false = true
  s1 : B.getD 25 false = false → Below w.heap.size w X
  s2 : B.getD 24 false = true → B.getD 25 false = false → Bk X g.1 135 cs
  s3 : B.getD 25 false = true → B.getD 28 false = false → Sx N w L k (v8of k g) X
  s4 : B.getD 28 false = true → ∃ X0, Sx N w L k (v8of k g) X0 ∧ X = X0.setCell ⟨h, 0, none⟩ (v8of k g)
section
variable {N : Nat} {w : World} {h q k : Nat} {L : Value} {D : Dk} {Z : Sl} {G S T : Nat → Prop} {cs : Array Value} {g : Gh} {B : Array Bool} {X : World}
theorem ILay.pure (I : ILay N w h L k cs g B X) (i : Nat) (h10 : i ≠ 10) (h24 : i ≠ 24) (h25 : i ≠ 25) (h28 : i ≠ 28) : ILay N w h L k cs g (B.setIfInBounds i true) X := by
  have e10 := SG.getD_ne (L := B) h10
  have e24 := SG.getD_ne (L := B) h24
  have e25 := SG.getD_ne (L := B) h25
  have e28 := SG.getD_ne (L := B) h28
  exact ⟨by rw [e25, e24, e10]; exact I.o1, by rw [e28, e25]; exact I.o2, by rw [e25]; exact I.s1, by rw [e24, e25]; exact I.s2, by rw [e25, e28]; exact I.s3, by rw [e28]; exact I.s4⟩
theorem ILay.load (I : ILay N w h L k cs g B X) : ILay N w h L k cs g (B.setIfInBounds 10 true) X := by
  have e24 := SG.getD_ne (L := B) (show 10 ≠ 24 by decide)
  have e25 := SG.getD_ne (L := B) (show 10 ≠ 25 by decide)
  have e28 := SG.getD_ne (L := B) (show 10 ≠ 28 by decide)
  refine ⟨fun e => ?_, by rw [e28, e25]; exact I.o2, by rw [e25]; exact I.s1, by rw [e24, e25]; exact I.s2, by rw [e25, e28]; exact I.s3, by rw [e28]; exact I.s4⟩
  rw [e25] at e
  refine ⟨by rw [e24]; exact (I.o1 e).1, ?_⟩
  rw [SG.getD_set]
  split
  · rfl
  · exact (I.o1 e).2
/-- Where the literal isn't made, or what is appended isn't, the world has but drawn. -/
theorem ILay.early (I : ILay N w h L k cs g B X) (e : B.getD 10 true = false) : Below w.heap.size w X := by
  refine I.s1 ?_
  cases e25 : B.getD 25 false
  · rfl
  · have h1 := (I.o1 e25).2
    by_cases hs : 10 < B.size
    · rw [SG.getD_false hs, h1] at e; cases e
    · simp [Array.getD_eq_getD_getElem?, Array.getElem?_eq_none (Nat.le_of_not_lt hs)] at h1
theorem Sx.block (t : Qs N w h q L k D Z G S T) {v8 : Value} (s : Sx N w L k v8 X) (hq : q < w.heap.size) : X.heap[q]? = w.heap[q]? := by
  obtain ⟨wl, vs, hb, ho, hg, hv⟩ := s.ex
  exact grown_keep hb hg q hq fun e => t.st q t.rz.at_ (t.ld.at_ q e)
theorem ILay.block (t : Qs N w h q L k D Z G S T) (I : ILay N w h L k cs g B X) (hq : q < w.heap.size) (hne : q ≠ h) : X.heap[q]? = w.heap[q]? := by
  cases e25 : B.getD 25 false
  · exact (I.s1 e25).block q hq
  · cases e28 : B.getD 28 false
    · exact (I.s3 e25 e28).block t hq
    · obtain ⟨X0, h1, rfl⟩ := I.s4 e28
      exact (Below.heap_setCell X0 ⟨h, 0, none⟩ _ q hne).trans (h1.block t hq)
theorem getD_tf (i : Nat) (e : B.getD i true = false) : B.getD i false = false ∧ i < B.size := by
  by_cases hs : i < B.size
  · exact ⟨by rw [← SG.getD_false hs]; exact e, hs⟩
  · simp [Array.getD_eq_getD_getElem?, Array.getElem?_eq_none (Nat.le_of_not_lt hs)] at e
theorem ILay.lit (I : ILay N w h L k cs g B X) (h0 : B.getD 24 true = false) : ILay N w h L k cs (X.heap.size, g.2) (B.setIfInBounds 24 true) (X.alloc (.cells cs 135)) := by
  obtain ⟨h1, hs⟩ := getD_tf 24 h0
  have h25 : B.getD 25 false = false := by
    cases e : B.getD 25 false
    · rfl
    · rw [(I.o1 e).1] at h1; cases h1
  have h28 : B.getD 28 false = false := by
    cases e : B.getD 28 false
    · rfl
    · rw [I.o2 e] at h25; cases h25
  have e25 := SG.getD_ne (L := B) (show 24 ≠ 25 by decide)
  have e28 := SG.getD_ne (L := B) (show 24 ≠ 28 by decide)
  have b := I.s1 h25
  refine ⟨fun e => ?_, fun e => ?_, fun _ => b.alloc b.size _, fun _ _ => Bk.newAt _ _ _ _ rfl, fun e => ?_, fun e => ?_⟩
  · rw [e25, h25] at e; cases e
  · rw [e28, h28] at e; cases e
  · rw [e25, h25] at e; cases e
  · rw [e28, h28] at e; cases e
theorem ILay.app (I : ILay N w h L k cs g B X) (h0 : B.getD 25 true = false) (d24 : B.getD 24 false = true) (d10 : B.getD 10 false = true) {A8 : Option Addr} {c8 : Nat} {X' : World} {vs : List Value} (ho : X'.ownsRow N 135 2 (.slice A8 (k + 1) c8) (k + 1) vs) (hg : X.grownBy X' L.ownBlock) (hv : Value.ownBlock (.slice A8 (k + 1) c8) = L.ownBlock ∨ Value.ownBlock (.slice A8 (k + 1) c8) = some X.heap.size) :
    ILay N w h L k cs (g.1, A8, c8) (B.setIfInBounds 25 true) X' := by
  obtain ⟨h1, hs⟩ := getD_tf 25 h0
  have h28 : B.getD 28 false = false := by
    cases e : B.getD 28 false
    · rfl
    · rw [I.o2 e] at h1; cases h1
  have e10 := SG.getD_ne (L := B) (show 25 ≠ 10 by decide)
  have e24 := SG.getD_ne (L := B) (show 25 ≠ 24 by decide)
  have e28 := SG.getD_ne (L := B) (show 25 ≠ 28 by decide)
  have e25 := SG.getD_new (L := B) hs
  refine ⟨fun _ => ⟨by rw [e24]; exact d24, by rw [e10]; exact d10⟩, fun e => ?_, fun e => ?_, fun _ e => ?_, fun _ _ => ⟨⟨X, vs, I.s1 h1, ho, hg, hv⟩⟩, fun e => ?_⟩
  · rw [e28, h28] at e; cases e
  · rw [e25] at e; cases e
  · rw [e25] at e; cases e
  · rw [e28, h28] at e; cases e
theorem ILay.stored (I : ILay N w h L k cs g B X) (h0 : B.getD 28 true = false) (d25 : B.getD 25 false = true) : ILay N w h L k cs g (B.setIfInBounds 28 true) (X.setCell ⟨h, 0, none⟩ (v8of k g)) := by
  obtain ⟨h1, hs⟩ := getD_tf 28 h0
  have e10 := SG.getD_ne (L := B) (show 28 ≠ 10 by decide)
  have e24 := SG.getD_ne (L := B) (show 28 ≠ 24 by decide)
  have e25 := SG.getD_ne (L := B) (show 28 ≠ 25 by decide)
  have e28 := SG.getD_new (L := B) hs
  refine ⟨fun e => ?_, fun _ => by rw [e25]; exact d25, fun e => ?_, fun _ e => ?_, fun _ e => ?_, fun _ => ⟨X, I.s3 d25 h1, rfl⟩⟩
  · rw [e24, e10]; exact I.o1 d25
  · rw [e25, d25] at e; cases e
  · rw [e25, d25] at e; cases e
  · rw [e28] at e; cases e
theorem ILay.start (hB : Below w.heap.size w X) (n : Nat) : ILay N w h L k cs g (Array.replicate n false) X := by
  refine ⟨fun e => ?_, fun e => ?_, fun _ => hB, fun e => ?_, fun e => ?_, fun e => ?_⟩
  all_goals (rw [SG.getD_rep] at e; cases e)
/-- What all of it comes to. -/
theorem ILay.done (t : Qs N w h q L k D Z G S T) (I : ILay N w h L k cs g B X) (e : B.getD 28 false = true) : ∃ T', Qs N X h q (v8of k g) (k + 1) D Z G S T' ∧ (∀ b, T' b → T b ∨ w.heap.size ≤ b) ∧ Mv N (Or3 G (fun x => x = q) T) w X := by
  obtain ⟨X0, s, rfl⟩ := I.s4 e
  obtain ⟨wl, vs, hb, ho, hg, hv⟩ := s.ex
  obtain ⟨h1, h2, h3⟩ := lay_step t hb ho hg hv
  exact ⟨_, h1, h3, h2⟩
theorem Sx.head (t : Qs N w h q L k D Z G S T) {v8 : Value} (s : Sx N w L k v8 X) (hh : h < w.heap.size) : X.heap[h]? = w.heap[h]? := by
  obtain ⟨wl, vs, hb, ho, hg, hv⟩ := s.ex
  exact grown_keep hb hg h hh fun e => t.gt h t.rk.lo.2 (t.ld.at_ h e)
end
end Go.Proofs.YtnoflgkjdibblaaGreatDoor.S20
