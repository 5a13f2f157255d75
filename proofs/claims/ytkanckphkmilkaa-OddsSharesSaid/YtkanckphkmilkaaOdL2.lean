/-
  The call of the statement OddsOrder of layer 23.
-/
import Derived.Test.YtkanckphkmilkaaOdA
import Derived.Outline
namespace Go.Proofs.Ytkanckphkmilkaa.F
set_option linter.unusedSimpArgs false
set_option linter.unusedVariables false
open Go.RowKit

theorem ord_facts (a b c : Nat) : (cmpW a b ≤ 0 → cmpW b c ≤ 0 → cmpW a c ≤ 0) ∧ (cmpW a b = 0 → cmpW b c = 0 → cmpW a c = 0) ∧ (cmpW a b < 0 → cmpW b c ≤ 0 → cmpW a c < 0) ∧ (cmpW a b ≤ 0 → cmpW b c < 0 → cmpW a c < 0) := by
  refine ⟨fun h1 h2 => ?_, fun h1 h2 => ?_, fun h1 h2 => ?_, fun h1 h2 => ?_⟩
  · rw [cmpW_le] at *; omega
  · rw [cmpW_eq] at *; omega
  · rw [cmpW_lt] at h1 ⊢; rw [cmpW_le] at h2; omega
  · rw [cmpW_le] at h1; rw [cmpW_lt] at h2 ⊢; omega
set_option maxHeartbeats 8000000 in
theorem oddsOrder_walk (M : OC) (W : World) (hk : M.ok W) (a b c : Nat) :
    Calls Try.prog 7 #[.float .f64 a, .float .f64 b, .float .f64 c] W fun e w' => e = .returned (.bool true) ∧ Below W.heap.size W w' := by
  have HK := Lib.hid hk
  have H1 := Lib.hid (fun X g => M.compare a b X g)
  have H2 := Lib.hid (fun X g => M.compare b c X g)
  have H3 := Lib.hid (fun X g => M.compare a c X g)
  have H4 := Lib.hid (fun X g => M.compare b a X g)
  have H5 := Lib.hid (fun X g => M.compare a a X g)
  obtain ⟨f1, f2, f3, f4⟩ := ord_facts a b c
  have c1 := cmpW_cases a b
  have c2 := cmpW_cases b c
  have c3 := cmpW_cases a c
  rw [cmpW_neg] at H4
  rw [cmpW_self] at H5
  generalize cmpW a b = x at *
  generalize cmpW b c = y at *
  generalize cmpW a c = z at *
  clear hk
  rcases c1 with rfl | rfl | rfl <;> rcases c2 with rfl | rfl | rfl <;> rcases c3 with rfl | rfl | rfl
  all_goals first
    | (exfalso; omega)
    | (clear f1 f2 f3 f4
       go_enter Try.func7, Try.ntmps7
       go_wp2_with (first
         | (go_at_call 11; ((with_reducible refine (awake_true M _ HK.out).mono ?_); rintro e w1 ⟨rfl, b⟩; have B1 := Lib.hid b; clear b))
         | (go_at_call 14; ((with_reducible refine (H1.out _ (M.bel HK.out B1.out)).mono ?_); rintro e w2 ⟨rfl, b⟩; have B2 := Lib.hid (B1.out.trans (b.mono B1.out.size)); clear b))
         | (go_at_call 14; ((with_reducible refine (H2.out _ (M.bel HK.out B2.out)).mono ?_); rintro e w3 ⟨rfl, b⟩; have B3 := Lib.hid (B2.out.trans (b.mono B2.out.size)); clear b))
         | (go_at_call 14; ((with_reducible refine (H3.out _ (M.bel HK.out B3.out)).mono ?_); rintro e w4 ⟨rfl, b⟩; have B4 := Lib.hid (B3.out.trans (b.mono B3.out.size)); clear b))
         | (go_at_call 14; ((with_reducible refine (H4.out _ (M.bel HK.out B4.out)).mono ?_); rintro e w5 ⟨rfl, b⟩; have B5 := Lib.hid (B4.out.trans (b.mono B4.out.size)); clear b))
         | (go_at_call 14; ((with_reducible refine (H5.out _ (M.bel HK.out B5.out)).mono ?_); rintro e w6 ⟨rfl, b⟩; have B6 := Lib.hid (B5.out.trans (b.mono B5.out.size)); clear b)))
       go_ret
       exact ⟨rfl, B6.out⟩)
end Go.Proofs.Ytkanckphkmilkaa.F
