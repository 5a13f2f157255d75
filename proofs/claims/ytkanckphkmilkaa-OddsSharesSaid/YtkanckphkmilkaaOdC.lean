/-
  What the calls of package odds are to do, as one structure; how the model divides, adds and takes away floating numbers; rows of them. No statement is proved here.
-/
import Derived.Test.YtkanckphkmilkaaFl6
import Derived.Test.YtkanckphkmilkaaCel
import Derived.OwnWalk
namespace Go.Proofs.Ytkanckphkmilkaa.F
set_option linter.unusedSimpArgs false
set_option linter.unusedVariables false
open Go.RowKit

/-- The bits of a number that is none, by what the tape says. -/
def nanOf (t : Nat) : Nat := t % 2 * 9223372036854775808 + 9218868437227405312 + 1 + t / 2 % 4503599627370495
theorem nanOf_nan (t : Nat) : isN (nanOf t) = true := (nanW t).1
theorem nanOf_lt (t : Nat) : nanOf t < 18446744073709551616 := (nanW t).2
section
variable {P : Program} {t : TypeId} {a b r : Nat}
theorem run_quo (h : Ieee.double.div a b = some r) (W : World) : (binOp .quo t (.float .f64 a) (.float .f64 b)).run P W = .ok (.float .f64 r) W := run_float_arith W .quo t .f64 a b r h
theorem run_add (h : Ieee.double.add a b = some r) (W : World) : (binOp .add t (.float .f64 a) (.float .f64 b)).run P W = .ok (.float .f64 r) W := run_float_arith W .add t .f64 a b r h
theorem run_sub (h : Ieee.double.sub a b = some r) (W : World) : (binOp .sub t (.float .f64 a) (.float .f64 b)).run P W = .ok (.float .f64 r) W := run_float_arith W .sub t .f64 a b r h
theorem run_quo_nan (h : Ieee.double.div a b = none) (W : World) : (binOp .quo t (.float .f64 a) (.float .f64 b)).run P W = .ok (.float .f64 (nanOf (W.tape W.drawn (.nanBits .f64 a b)))) W.drew := by
  have h' : FloatKind.f64.format.div a b = none := h
  simp [binOp, Op.floatArith, h', Question.forced, Question.cut, nanOf]
theorem run_add_nan (h : Ieee.double.add a b = none) (W : World) : (binOp .add t (.float .f64 a) (.float .f64 b)).run P W = .ok (.float .f64 (nanOf (W.tape W.drawn (.nanBits .f64 a b)))) W.drew := by
  have h' : FloatKind.f64.format.add a b = none := h
  simp [binOp, Op.floatArith, h', Question.forced, Question.cut, nanOf]
theorem run_sub_nan (h : Ieee.double.sub a b = none) (W : World) : (binOp .sub t (.float .f64 a) (.float .f64 b)).run P W = .ok (.float .f64 (nanOf (W.tape W.drawn (.nanBits .f64 a b)))) W.drew := by
  have h' : FloatKind.f64.format.sub a b = none := h
  simp [binOp, Op.floatArith, h', Question.forced, Question.cut, nanOf]
end
/-- A quotient's run: some word, and a world that has drawn or not. -/
theorem quo_run {P : Program} (t : TypeId) (a b : Nat) : (∃ r, Quo a b r ∧ ∀ W, (binOp .quo t (.float .f64 a) (.float .f64 b)).run P W = .ok (.float .f64 r) W) ∨
    ((∀ s, isN s = true → s < 18446744073709551616 → Quo a b s) ∧ ∀ W, (binOp .quo t (.float .f64 a) (.float .f64 b)).run P W = .ok (.float .f64 (nanOf (W.tape W.drawn (.nanBits .f64 a b)))) W.drew) := by
  cases h : Ieee.double.div a b with
  | some r => exact .inl ⟨r, ⟨Ieee.double.div_lt h, .inl h⟩, run_quo h⟩
  | none => exact .inr ⟨fun s h1 h2 => ⟨h2, .inr ⟨h, h1⟩⟩, run_quo_nan h⟩
theorem add_run {P : Program} (t : TypeId) (a b : Nat) : (∃ r, Add a b r ∧ ∀ W, (binOp .add t (.float .f64 a) (.float .f64 b)).run P W = .ok (.float .f64 r) W) ∨
    ((∀ s, isN s = true → s < 18446744073709551616 → Add a b s) ∧ ∀ W, (binOp .add t (.float .f64 a) (.float .f64 b)).run P W = .ok (.float .f64 (nanOf (W.tape W.drawn (.nanBits .f64 a b)))) W.drew) := by
  cases h : Ieee.double.add a b with
  | some r => exact .inl ⟨r, ⟨Ieee.double.add_lt h, .inl h⟩, run_add h⟩
  | none => exact .inr ⟨fun s h1 h2 => ⟨h2, .inr ⟨h, h1⟩⟩, run_add_nan h⟩
/-- The slice value of address A, length n and capacity c reads as these floating numbers. -/
structure Rf (w : World) (A : Option Addr) (n c : Nat) (xs : List Nat) : Prop where
  len : xs.length = n
  cap : n ≤ c
  max : c ≤ maxLen
  nil : A = none → c = 0
  at_ : 0 < n → ∃ b off, A = some ⟨b, off, none⟩ ∧ b < w.heap.size ∧ ∀ j, j < n → w.cell? ⟨b, off + j, none⟩ = some (.float .f64 (xs.getD j 0))
theorem Rf.below {w w' : World} {A : Option Addr} {n c : Nat} {xs : List Nat} (h : Rf w A n c xs) (hb : Below w.heap.size w w') : Rf w' A n c xs :=
  ⟨h.len, h.cap, h.max, h.nil, fun hn => by
    obtain ⟨b, off, e, hbl, hc⟩ := h.at_ hn
    exact ⟨b, off, e, Nat.lt_of_lt_of_le hbl hb.size, fun j hj => (hb.cell hbl).trans (hc j hj)⟩⟩
/-- A counter's value. -/
def cntV (t b r x : Nat) (q : Bool) : Value := .agg #[.int .u64 (t : Int), .int .u64 (b : Int), .int .u64 (r : Int), .int .u64 (x : Int), .bool q]
/-- What the calls of package odds do, in a world that holds what they read. -/
structure OC where
  ok : World → Prop
  bel : ∀ {w w' : World}, ok w → Below w.heap.size w w' → ok w'
  share : ∀ (a b : Nat) (W : World), ok W → Calls Try.prog 17 #[.float .f64 a, .float .f64 b] W fun e w' => ∃ r, e = .returned (.float .f64 r) ∧ Quo a b r ∧ Below W.heap.size W w'
  kind : ∀ (a : Nat) (W : World), ok W → Calls Try.prog 12 #[.float .f64 a] W fun e w' => e = .returned (.int .i64 (kindW a : Int)) ∧ Below W.heap.size W w'
  compare : ∀ (a b : Nat) (W : World), ok W → Calls Try.prog 14 #[.float .f64 a, .float .f64 b] W fun e w' => e = .returned (.int .i64 (cmpW a b)) ∧ Below W.heap.size W w'
  best : ∀ (A : Option Addr) (n c : Nat) (xs : List Nat) (W : World), ok W → Rf W A n c xs → n ≤ 100000 → Calls Try.prog 18 #[.slice A n c] W fun e w' => ∃ v, e = .returned (.int .i64 v) ∧ BestIs xs v ∧ Below W.heap.size W w'
  mean : ∀ (A : Option Addr) (n c : Nat) (xs : List Nat) (W : World), ok W → Rf W A n c xs → n ≤ 100000 → Calls Try.prog 20 #[.slice A n c] W fun e w' => ∃ r, e = .returned (.float .f64 r) ∧ MeanIs xs r ∧ Below W.heap.size W w'
  clamp : ∀ (x l h : Nat) (W : World), ok W → Calls Try.prog 21 #[.float .f64 x, .float .f64 l, .float .f64 h] W fun e w' => ∃ r, e = .returned (.tuple #[.float .f64 r, .bool (clampB x l h)]) ∧ ClampIs x l h r ∧ Below W.heap.size W w'
  left : ∀ (t b r x : Nat) (q : Bool) (W : World), ok W → t < 18446744073709551616 → x < 18446744073709551616 → Calls Try.prog 22 #[cntV t b r x q] W fun e w' => ∃ s, e = .returned (.float .f64 s) ∧ LeftIs t x s ∧ Below W.heap.size W w'
  days : ∀ (t b r x : Nat) (q : Bool) (y : Nat) (W : World), ok W → t < 18446744073709551616 → x < 18446744073709551616 → Calls Try.prog 24 #[cntV t b r x q, .float .f64 y] W fun e w' => ∃ s, e = .returned (.float .f64 s) ∧ DaysIs t x y s ∧ Below W.heap.size W w'
end Go.Proofs.Ytkanckphkmilkaa.F
