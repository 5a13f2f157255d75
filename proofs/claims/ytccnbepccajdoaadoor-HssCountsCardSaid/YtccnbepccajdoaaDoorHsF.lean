/-
  The walk of layer 13's statement, as its frame calls it.
-/
import Derived.Test.YtccnbepccajdoaaDoorHs15
import Derived.Test.YtccnbepccajdoaaDoorHsO
namespace Go.Proofs.YtccnbepccajdoaaDoor.S13
open Go.RowKit S7 S8
theorem nat_of_u64 {a : Int} (h : (Lit.int .u64 a).wf = true) : ∃ n : Nat, a = (n : Int) ∧ n < 18446744073709551616 := by
  have hw' : 0 ≤ a ∧ a ≤ 18446744073709551615 := by simpa [Lit.wf, IntKind.min, IntKind.max, IntKind.signed, IntKind.bits] using h
  obtain ⟨Z, rfl⟩ := Int.eq_ofNat_of_zero_le hw'.1
  exact ⟨Z, rfl, by omega⟩
theorem hssCounts_frame (W : World) (hk : S0.ok W) (v : Value) (y : Option Addr × Nat × Nat × List Pr) (o : v = .slice y.1 y.2.1 y.2.2.1 ∧ Rp W y.1 y.2.1 y.2.2.1 y.2.2.2) (a : Int) (wa : (Lit.int .u64 a).wf = true) :
    Calls Tryd.prog 3 #[v, .int .u64 a] W fun e w' => e = .returned (.bool true) ∧ Below W.heap.size W w' := by
  obtain ⟨rfl, h⟩ := o
  obtain ⟨A, rfl, h1⟩ := nat_of_u64 wa
  exact hssCounts_walk W hk _ _ _ _ h A h1
end Go.Proofs.YtccnbepccajdoaaDoor.S13
