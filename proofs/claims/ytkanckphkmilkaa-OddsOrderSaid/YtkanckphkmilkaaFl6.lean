/-
  Sums of floating numbers, the best of a list, one number between two: in plain words. Plain facts, of no program.
-/
import Derived.Test.YtkanckphkmilkaaFl5
namespace Go.Proofs.Ytkanckphkmilkaa.F
set_option linter.unusedSimpArgs false
set_option linter.unusedVariables false
open Ieee

/-- A sum: the number that the standard says, or some word that is no number. -/
def Add (x y r : Nat) : Prop := r < 18446744073709551616 ∧ (double.add x y = some r ∨ (double.add x y = none ∧ isN r = true))
theorem add_nan {x y : Nat} (h : isN x = true ∨ isN y = true) : double.add x y = none := by
  unfold Format.add
  rcases h with h | h
  · obtain ⟨f, e⟩ := read_nan h
    rw [e]; rfl
  · obtain ⟨f, e⟩ := read_nan h
    rw [e]
    cases double.read x <;> rfl
theorem Add.alike {x y x' y' r r' : Nat} (hx : Alike x x') (hy : Alike y y') (h : Add x y r) (h' : Add x' y' r') : Alike r r' := by
  have key : double.add x y = double.add x' y' := by
    rcases hx with rfl | ⟨a1, a2⟩
    · rcases hy with rfl | ⟨b1, b2⟩
      · rfl
      · rw [add_nan (.inr b1), add_nan (.inr b2)]
    · rw [add_nan (.inl a1), add_nan (.inl a2)]
  rcases h.2 with h | ⟨h, n⟩ <;> rcases h'.2 with h' | ⟨h', n'⟩
  · rw [key, h'] at h; exact .inl (Option.some.inj h).symm
  · rw [key, h'] at h; cases h
  · rw [key, h'] at h; cases h
  · exact .inr ⟨n, n'⟩
/-- Summed from a on, one behind the other. -/
def SumF (a : Nat) : List Nat → Nat → Prop
  | [], s => s = a
  | x :: xs, s => ∃ m, Add a x m ∧ SumF m xs s
theorem SumF.snoc {x s : Nat} : ∀ {xs : List Nat} {a m : Nat}, SumF a xs m → Add m x s → SumF a (xs ++ [x]) s
  | [], a, m, h, h' => by
    obtain rfl : m = a := h
    exact ⟨s, h', rfl⟩
  | y :: ys, a, m, ⟨k, h1, h2⟩, h' => ⟨k, h1, SumF.snoc h2 h'⟩
theorem SumF.alike : ∀ {xs : List Nat} {a a' s s' : Nat}, Alike a a' → SumF a xs s → SumF a' xs s' → Alike s s'
  | [], a, a', s, s', h, h1, h2 => by
    obtain rfl : s = a := h1
    obtain rfl : s' = a' := h2
    exact h
  | x :: xs, a, a', s, s', h, ⟨m, h1, h2⟩, ⟨m', h1', h2'⟩ => SumF.alike (Add.alike h (.inl rfl) h1 h1') h2 h2'
/-- The mean: the sum from 0 on, divided by how many there are. -/
def MeanIs (xs : List Nat) (r : Nat) : Prop := ∃ s, SumF 0 xs s ∧ Quo s (fI xs.length) r
theorem MeanIs.alike {xs : List Nat} {r r' : Nat} (h : MeanIs xs r) (h' : MeanIs xs r') : Alike r r' := by
  obtain ⟨s, h1, h2⟩ := h
  obtain ⟨s', h1', h2'⟩ := h'
  exact Quo.alike (SumF.alike (.inl rfl) h1 h1') (.inl rfl) h2 h2'
/-- Place k has the first of the greatest. -/
def IsBest (xs : List Nat) (k : Nat) : Prop := k < xs.length ∧ isN (xs.getD k 0) = false ∧ ∀ j, j < xs.length → isN (xs.getD j 0) = false → okey (xs.getD j 0) ≤ okey (xs.getD k 0) ∧ (j < k → okey (xs.getD j 0) < okey (xs.getD k 0))
/-- The place of the best, or -1. -/
def BestIs (xs : List Nat) (v : Int) : Prop := (∃ k : Nat, v = (k : Int) ∧ IsBest xs k) ∨ (v = -1 ∧ ∀ j, j < xs.length → isN (xs.getD j 0) = true)
theorem IsBest.unique {xs : List Nat} {k k' : Nat} (h : IsBest xs k) (h' : IsBest xs k') : k = k' := by
  have a := h.2.2 k' h'.1 h'.2.1
  have b := h'.2.2 k h.1 h.2.1
  rcases Nat.lt_trichotomy k k' with h1 | h1 | h1
  · have := b.2 h1; omega
  · exact h1
  · have := a.2 h1; omega
theorem BestIs.unique {xs : List Nat} {v v' : Int} (h : BestIs xs v) (h' : BestIs xs v') : v = v' := by
  rcases h with ⟨k, rfl, h⟩ | ⟨rfl, h⟩ <;> rcases h' with ⟨k', rfl, h'⟩ | ⟨rfl, h'⟩
  · rw [h.unique h']
  · have := h' k h.1; rw [h.2.1] at this; cases this
  · have := h k' h'.1; rw [h'.2.1] at this; cases this
  · rfl
/-- What a counter has left: NaN, if the next number is above the total. -/
def LeftIs (t x r : Nat) : Prop := if x ≤ t then Quo (fI (t - x)) (fI t) r else (isN r = true ∧ r < 18446744073709551616)
def DaysIs (t x q r : Nat) : Prop := if x ≤ t then Quo (fI (t - x)) q r else (isN r = true ∧ r < 18446744073709551616)
theorem LeftIs.alike {t x r r' : Nat} (h : LeftIs t x r) (h' : LeftIs t x r') : Alike r r' := by
  unfold LeftIs at h h'
  split at h
  · rename_i hx
    rw [if_pos hx] at h'
    exact Quo.alike (.inl rfl) (.inl rfl) h h'
  · rename_i hx
    rw [if_neg hx] at h'
    exact .inr ⟨h.1, h'.1⟩
theorem DaysIs.alike {t x q r r' : Nat} (h : DaysIs t x q r) (h' : DaysIs t x q r') : Alike r r' := by
  unfold DaysIs at h h'
  split at h
  · rename_i hx
    rw [if_pos hx] at h'
    exact Quo.alike (.inl rfl) (.inl rfl) h h'
  · rename_i hx
    rw [if_neg hx] at h'
    exact .inr ⟨h.1, h'.1⟩
/-- May one number be brought between two? -/
def clampB (x l h : Nat) : Bool := !isN x && !isN l && !isN h && decide (okey l ≤ okey h)
/-- The number between: as the order says. -/
def ClampIs (x l h r : Nat) : Prop := if clampB x l h = true then r = (if okey x < okey l then l else if okey h < okey x then h else x) else (isN r = true ∧ r < 18446744073709551616)
theorem quo_val {x y r s : Nat} (h : Quo x y r) (e : double.div x y = some s) : r = s := by
  rcases h.2 with h | ⟨h, _⟩
  · exact Option.some.inj (h.symm.trans e)
  · rw [e] at h; cases h
theorem quo_none {x y r : Nat} (h : Quo x y r) (e : double.div x y = none) : isN r = true := by
  rcases h.2 with h | ⟨_, h⟩
  · rw [e] at h; cases h
  · exact h
theorem kind_nan {b : Nat} : kindW b = 5 ↔ isN b = true := by
  unfold kindW
  cases isN b
  · simp
    split
    · split <;> omega
    · split
      · split <;> omega
      · omega
  · simp
/-- The order, told by comparing and by the kinds of zeros. -/
theorem okey_lt {a b : Nat} (ha : isN a = false) (hb : isN b = false) : okey a < okey b ↔ (key a < key b ∨ (kindW a = 2 ∧ kindW b = 1)) := by
  unfold okey key kindW
  simp only [ha, hb, Bool.false_eq_true, if_false]
  have h1 := rg_le ha
  have h2 := rg_le hb
  cases sg a <;> cases sg b <;> simp
  · split <;> split <;> (try split) <;> (try split) <;> omega
  · split <;> split <;> (try split) <;> (try split) <;> omega
  · split <;> split <;> (try split) <;> (try split) <;> omega
  · split <;> split <;> (try split) <;> (try split) <;> omega
end Go.Proofs.Ytkanckphkmilkaa.F
