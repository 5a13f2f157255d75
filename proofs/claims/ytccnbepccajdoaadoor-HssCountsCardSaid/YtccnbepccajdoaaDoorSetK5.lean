/-
  What the landed sets' Fit and Leaves do. No statement is proved here.
-/
import Derived.Test.YtccnbepccajdoaaDoorSetK4
import Derived.Deep.DrawnRows
import Derived.Deep.AppendLies
import Derived.RegionTactic
namespace Go.Proofs.YtccnbepccajdoaaDoor.S8
set_option linter.unusedSimpArgs false
set_option linter.unusedVariables false
open Go.RowKit S7

theorem fit_any (a b c d e f a' b' c' d' : Int) (W : World) : Calls Tryd.prog 27 #[otsV a b c d e f, treeV a' b' c' d'] W fun e w' => e = .returned (.bool (b == b' && c == c')) ∧ Below W.heap.size W w' := by
  unfold otsV treeV
  by_cases h1 : b = b'
  · by_cases h2 : c = c'
    · subst h1 h2
      go_enter Tryd.func27, Tryd.ntmps27
      go_wp2
      go_ret
      exact ⟨by simp, two_bel _ _ _⟩
    · subst h1
      go_enter Tryd.func27, Tryd.ntmps27
      go_wp2
      go_ret
      exact ⟨by simp [h2], two_bel _ _ _⟩
  · go_enter Tryd.func27, Tryd.ntmps27
    go_wp2
    go_ret
    exact ⟨by simp [h1], two_bel _ _ _⟩
theorem leaves_any (a b c h : Int) (W : World) : Calls Tryd.prog 18 #[treeV a b c h] W fun e w' => e = .returned (.int .u64 (lvs h : Int)) ∧ Below W.heap.size W w' := by
  unfold treeV
  by_cases h1 : h < 1
  · rw [lvs, if_neg (by omega)]
    go_enter Tryd.func18, Tryd.ntmps18
    go_wp2
    go_ret
    exact ⟨rfl, (Below.refl _ _).alloc (Nat.le_refl _) _⟩
  · by_cases h2 : 25 < h
    · rw [lvs, if_neg (by omega)]
      go_enter Tryd.func18, Tryd.ntmps18
      go_wp2
      go_ret
      exact ⟨rfl, (Below.refl _ _).alloc (Nat.le_refl _) _⟩
    · rw [lvs, if_pos (by omega)]
      go_enter Tryd.func18, Tryd.ntmps18
      go_wp2
      go_ret
      have hp : (2 : Int) ^ h.toNat ≤ 2 ^ 25 := by
        have := Nat.pow_le_pow_right (show 0 < 2 by omega) (show h.toNat ≤ 25 by omega)
        exact_mod_cast this
      have h0 : (0 : Int) ≤ 2 ^ h.toNat := by exact_mod_cast Nat.zero_le (2 ^ h.toNat)
      have hw : IntKind.u64.wrap (2 ^ h.toNat) = 2 ^ h.toNat := by rw [IntKind.wrap_u64]; omega
      exact ⟨by rw [hw]; simp, (Below.refl _ _).alloc (Nat.le_refl _) _⟩
end Go.Proofs.YtccnbepccajdoaaDoor.S8
