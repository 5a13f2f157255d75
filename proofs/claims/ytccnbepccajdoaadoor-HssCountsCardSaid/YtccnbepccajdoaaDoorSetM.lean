/-
  The contracts of the landed package sets as one, and those of digits.
-/
import Derived.Test.YtccnbepccajdoaaDoorSetK5
namespace Go.Proofs.YtccnbepccajdoaaDoor.S8
set_option linter.unusedSimpArgs false
set_option linter.unusedVariables false
open Go.RowKit S7

theorem ots_any (c : Nat) (W : World) (hc : c < 4294967296) (h : GS W ∧ S7.WOk W) : Calls Tryd.prog 40 #[.int .u32 (c : Int)] W fun e w' => e = .returned (.tuple #[otsA c, .int .i64 (otsE c : Int)]) ∧ Below W.heap.size W w' := by
  cases hq : okO c with
  | true =>
    rw [otsA, otsE, hq, if_pos rfl, if_pos rfl]
    have hq' := hq
    simp [okO] at hq'
    exact ots_yes c (c - 1) (by omega) (by omega) W h.1 h.2
  | false =>
    rw [otsA, otsE, hq, if_neg (by simp), if_neg (by simp)]
    exact ots_no c hc hq W h.1
theorem tree_any (c : Nat) (W : World) (hc : c < 4294967296) (h : GS W) : Calls Tryd.prog 31 #[.int .u32 (c : Int)] W fun e w' => e = .returned (.tuple #[treeA c, .int .i64 (treeE c : Int)]) ∧ Below W.heap.size W w' := by
  cases hq : okT c with
  | true =>
    rw [treeA, treeE, hq, if_pos rfl, if_pos rfl]
    by_cases hl : c ≤ 24
    · obtain ⟨i, hi, hc'⟩ : ∃ i, i < 20 ∧ c = 5 + i := ⟨c - 5, by simp [okT] at hq; omega, by simp [okT] at hq; omega⟩
      exact tree_hi c i hc' hi W h
    · obtain ⟨i, hi, hc'⟩ : ∃ i, i < 16 ∧ c = 4026531841 + i := ⟨c - 4026531841, by simp [okT] at hq; omega, by simp [okT] at hq; omega⟩
      exact tree_lo c i hc' hi W h
  | false =>
    rw [treeA, treeE, hq, if_neg (by simp), if_neg (by simp)]
    exact tree_no c hc hq W h
/-- What the calls of the landed sets do. -/
def S0 : SC where
  ok := fun w => GS w ∧ S7.WOk w
  bel := fun h hb => ⟨h.1.below hb, h.2.below hb⟩
  ots := ots_any
  tree := fun c W hc h => tree_any c W hc h.1
  fit := fun a b c d e f a' b' c' d' W _ => fit_any a b c d e f a' b' c' d' W
  leaves := fun a b c h W _ => leaves_any a b c h W
end Go.Proofs.YtccnbepccajdoaaDoor.S8
