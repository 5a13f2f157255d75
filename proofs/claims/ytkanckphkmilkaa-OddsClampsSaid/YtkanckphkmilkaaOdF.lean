/-
  The walks of layer 23's statements, as their frames call them.
-/
import Derived.Test.YtkanckphkmilkaaOdL1
import Derived.Test.YtkanckphkmilkaaOdL2
import Derived.Test.YtkanckphkmilkaaOdL3
import Derived.Test.YtkanckphkmilkaaOdL4
import Derived.Test.YtkanckphkmilkaaOdL5
import Derived.Test.YtkanckphkmilkaaOdL6
import Derived.Test.YtkanckphkmilkaaOdL7
import Derived.Test.YtkanckphkmilkaaOdM
import Derived.Test.YtkanckphkmilkaaOdO
namespace Go.Proofs.Ytkanckphkmilkaa.F
set_option linter.unusedSimpArgs false
set_option linter.unusedVariables false
open Go.RowKit
theorem nat_of_u64 {a : Int} (h : (Lit.int .u64 a).wf = true) : ∃ n : Nat, a = (n : Int) ∧ n < 18446744073709551616 := by
  have hw' : 0 ≤ a ∧ a ≤ 18446744073709551615 := by simpa [Lit.wf, IntKind.min, IntKind.max, IntKind.signed, IntKind.bits] using h
  obtain ⟨Z, rfl⟩ := Int.eq_ofNat_of_zero_le hw'.1
  exact ⟨Z, rfl, by omega⟩
theorem oddsKinds_frame (W : World) (hk : O0.ok W) (a : Nat) (wa : (Lit.float .f64 a).wf = true) (b : Nat) (wb : (Lit.float .f64 b).wf = true) :
    Calls Try.prog 3 #[.float .f64 a, .float .f64 b] W fun e w' => e = .returned (.bool true) ∧ Below W.heap.size W w' := oddsKinds_walk O0 W hk a b
theorem oddsLists_frame (W : World) (hk : O0.ok W) (v : Value) (y : Option Addr × Nat × Nat × List Nat) (o : v = .slice y.1 y.2.1 y.2.2.1 ∧ Rf W y.1 y.2.1 y.2.2.1 y.2.2.2) :
    Calls Try.prog 4 #[v] W fun e w' => e = .returned (.bool true) ∧ Below W.heap.size W w' := by
  obtain ⟨rfl, h⟩ := o
  exact oddsLists_walk O0 W hk _ _ _ _ h
theorem oddsClamps_frame (W : World) (hk : O0.ok W) (a : Nat) (wa : (Lit.float .f64 a).wf = true) (b : Nat) (wb : (Lit.float .f64 b).wf = true) (c : Nat) (wc : (Lit.float .f64 c).wf = true) :
    Calls Try.prog 5 #[.float .f64 a, .float .f64 b, .float .f64 c] W fun e w' => e = .returned (.bool true) ∧ Below W.heap.size W w' := oddsClamps_walk O0 W hk a b c
theorem oddsLeft_frame (W : World) (hk : O0.ok W) (v : Value) (y : Nat × Nat × Nat × Nat × Bool) (o : v = cntV y.1 y.2.1 y.2.2.1 y.2.2.2.1 y.2.2.2.2 ∧ y.1 < 18446744073709551616 ∧ y.2.2.2.1 < 18446744073709551616) (b : Nat) (wb : (Lit.float .f64 b).wf = true) :
    Calls Try.prog 6 #[v, .float .f64 b] W fun e w' => e = .returned (.bool true) ∧ Below W.heap.size W w' := by
  obtain ⟨rfl, h1, h2⟩ := o
  exact oddsLeft_walk O0 W hk _ _ _ _ _ _ h1 h2
theorem oddsOrder_frame (W : World) (hk : O0.ok W) (a : Nat) (wa : (Lit.float .f64 a).wf = true) (b : Nat) (wb : (Lit.float .f64 b).wf = true) (c : Nat) (wc : (Lit.float .f64 c).wf = true) :
    Calls Try.prog 7 #[.float .f64 a, .float .f64 b, .float .f64 c] W fun e w' => e = .returned (.bool true) ∧ Below W.heap.size W w' := oddsOrder_walk O0 W hk a b c
theorem oddsShares_frame (W : World) (hk : O0.ok W) (a : Nat) (wa : (Lit.float .f64 a).wf = true) :
    Calls Try.prog 8 #[.float .f64 a] W fun e w' => e = .returned (.bool true) ∧ Below W.heap.size W w' := oddsShares_walk O0 W hk a
theorem oddsBest_frame (W : World) (hk : O0.ok W) (v : Value) (y : Option Addr × Nat × Nat × List Nat) (o : v = .slice y.1 y.2.1 y.2.2.1 ∧ Rf W y.1 y.2.1 y.2.2.1 y.2.2.2) :
    Calls Try.prog 9 #[v] W fun e w' => e = .returned (.bool true) ∧ Below W.heap.size W w' := by
  obtain ⟨rfl, h⟩ := o
  exact oddsBest_walk O0 W hk _ _ _ _ h
theorem oddsCount_frame (W : World) (hk : O0.ok W) (a : Int) (wa : (Lit.int .u64 a).wf = true) (b : Int) (wb : (Lit.int .u64 b).wf = true) (c : Int) (wc : (Lit.int .u64 c).wf = true) :
    Calls Try.prog 10 #[.int .u64 a, .int .u64 b, .int .u64 c] W fun e w' => e = .returned (.bool true) ∧ Below W.heap.size W w' := by
  obtain ⟨A, rfl, h1⟩ := nat_of_u64 wa
  obtain ⟨B, rfl, h2⟩ := nat_of_u64 wb
  obtain ⟨C, rfl, h3⟩ := nat_of_u64 wc
  exact oddsCount_walk O0 W hk A B C h1 h2 h3
end Go.Proofs.Ytkanckphkmilkaa.F
