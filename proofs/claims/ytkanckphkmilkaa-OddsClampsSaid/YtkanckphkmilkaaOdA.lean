/-
  The first question of each statement of layer 23 answers true. No statement is proved here.
-/
import Derived.Test.YtkanckphkmilkaaOdR
import Derived.Deep.QuietTactic
namespace Go.Proofs.Ytkanckphkmilkaa.F
set_option linter.unusedSimpArgs false
set_option linter.unusedVariables false
open Go.RowKit

theorem clamp_5 {r : Nat} (h : ClampIs 4617315517961601024 4607182418800017408 4613937818241073152 r) : r = 4613937818241073152 := by
  unfold ClampIs at h
  rw [if_pos (by decide), if_neg (by decide), if_pos (by decide)] at h
  exact h
theorem best_132 {v : Int} (h : BestIs [4607182418800017408, 4613937818241073152, 4611686018427387904] v) : v = 1 := by
  refine BestIs.unique h (.inl ⟨1, rfl, by decide, by decide, ?_⟩)
  intro j hj _
  match j, hj with
  | 0, _ => decide
  | 1, _ => decide
  | 2, _ => decide
theorem three_quarters {s : Nat} (h : LeftIs 4 1 s) : s = 4604930618986332160 := by
  unfold LeftIs at h
  rw [if_pos (by decide)] at h
  exact quo_val h (by decide +kernel)
theorem rf_lit (w : World) (x y z : Nat) (t : TypeId) (b : Nat) (hb : w.heap.size = b) : Rf (w.alloc (.cells #[.float .f64 x, .float .f64 y, .float .f64 z] t)) (some ⟨b, 0, none⟩) 3 3 [x, y, z] := by
  subst hb
  refine ⟨rfl, Nat.le_refl _, (by simp [maxLen]), (fun h => by cases h), fun _ => ⟨w.heap.size, 0, rfl, by simp, fun j hj => ?_⟩⟩
  rw [cell_of_row _ _ _ _ _ _ (heap_alloc_new w _)]
  match j, hj with
  | 0, _ => rfl
  | 1, _ => rfl
  | 2, _ => rfl
set_option maxRecDepth 100000 in
set_option maxHeartbeats 4000000 in
theorem awake_true (M : OC) (w : World) (hk : M.ok w) : Calls Try.prog 11 #[] w fun e w' => e = .returned (.bool true) ∧ Below w.heap.size w w' := by
  have HK := Lib.hid hk
  have C1 := Lib.hid (show ∀ X, M.ok X → Calls Try.prog 21 #[.float .f64 4617315517961601024, .float .f64 4607182418800017408, .float .f64 4613937818241073152] X fun e w' => e = .returned (.tuple #[.float .f64 4613937818241073152, .bool true]) ∧ Below X.heap.size X w' from fun X g =>
    (M.clamp 4617315517961601024 4607182418800017408 4613937818241073152 X g).mono fun e w' ⟨r, h1, h2, h3⟩ => ⟨by rw [h1, clamp_5 h2]; rfl, h3⟩)
  have C2 := Lib.hid (show ∀ X, M.ok X → Calls Try.prog 21 #[.float .f64 4617315517961601024, .float .f64 4613937818241073152, .float .f64 4607182418800017408] X fun e w' => ∃ r, e = .returned (.tuple #[.float .f64 r, .bool false]) ∧ Below X.heap.size X w' from fun X g =>
    (M.clamp 4617315517961601024 4613937818241073152 4607182418800017408 X g).mono fun e w' ⟨r, h1, h2, h3⟩ => ⟨r, by rw [h1]; rfl, h3⟩)
  have S1 := Lib.hid (show ∀ X, M.ok X → Calls Try.prog 17 #[.float .f64 4607182418800017408, .float .f64 0] X fun e w' => e = .returned (.float .f64 9218868437227405312) ∧ Below X.heap.size X w' from fun X g =>
    (M.share 4607182418800017408 0 X g).mono fun e w' ⟨r, h1, h2, h3⟩ => ⟨by rw [h1, quo_val h2 (show Ieee.double.div 4607182418800017408 0 = some 9218868437227405312 by decide +kernel)], h3⟩)
  have S2 := Lib.hid (show ∀ X, M.ok X → Calls Try.prog 17 #[.float .f64 13830554455654793216, .float .f64 0] X fun e w' => e = .returned (.float .f64 18442240474082181120) ∧ Below X.heap.size X w' from fun X g =>
    (M.share 13830554455654793216 0 X g).mono fun e w' ⟨r, h1, h2, h3⟩ => ⟨by rw [h1, quo_val h2 (show Ieee.double.div 13830554455654793216 0 = some 18442240474082181120 by decide +kernel)], h3⟩)
  have S3 := Lib.hid (show ∀ X, M.ok X → Calls Try.prog 17 #[.float .f64 0, .float .f64 0] X fun e w' => ∃ r, e = .returned (.float .f64 r) ∧ isN r = true ∧ Below X.heap.size X w' from fun X g =>
    (M.share 0 0 X g).mono fun e w' ⟨r, h1, h2, h3⟩ => ⟨r, h1, quo_none h2 (by decide +kernel), h3⟩)
  have S4 := Lib.hid (show ∀ X, M.ok X → Calls Try.prog 17 #[.float .f64 0, .float .f64 13830554455654793216] X fun e w' => e = .returned (.float .f64 9223372036854775808) ∧ Below X.heap.size X w' from fun X g =>
    (M.share 0 13830554455654793216 X g).mono fun e w' ⟨r, h1, h2, h3⟩ => ⟨by rw [h1, quo_val h2 (show Ieee.double.div 0 13830554455654793216 = some 9223372036854775808 by decide +kernel)], h3⟩)
  have K1 := Lib.hid (show ∀ X, M.ok X → Calls Try.prog 12 #[.float .f64 9218868437227405312] X fun e w' => e = .returned (.int .i64 3) ∧ Below X.heap.size X w' from fun X g => M.kind 9218868437227405312 X g)
  have K2 := Lib.hid (show ∀ X, M.ok X → Calls Try.prog 12 #[.float .f64 18442240474082181120] X fun e w' => e = .returned (.int .i64 4) ∧ Below X.heap.size X w' from fun X g => M.kind 18442240474082181120 X g)
  have K3 := Lib.hid (show ∀ r, isN r = true → ∀ X, M.ok X → Calls Try.prog 12 #[.float .f64 r] X fun e w' => e = .returned (.int .i64 5) ∧ Below X.heap.size X w' from fun r hr X g => by
    have := M.kind r X g
    rw [kind_nan.2 hr] at this
    exact this)
  have K4 := Lib.hid (show ∀ X, M.ok X → Calls Try.prog 12 #[.float .f64 4611686018427387904] X fun e w' => e = .returned (.int .i64 0) ∧ Below X.heap.size X w' from fun X g => M.kind 4611686018427387904 X g)
  have P1 := Lib.hid (show ∀ X, M.ok X → Calls Try.prog 14 #[.float .f64 9223372036854775808, .float .f64 0] X fun e w' => e = .returned (.int .i64 (-1)) ∧ Below X.heap.size X w' from fun X g => M.compare 9223372036854775808 0 X g)
  have P2 := Lib.hid (show ∀ X, M.ok X → Calls Try.prog 14 #[.float .f64 4607182418800017408, .float .f64 4611686018427387904] X fun e w' => e = .returned (.int .i64 (-1)) ∧ Below X.heap.size X w' from fun X g => M.compare 4607182418800017408 4611686018427387904 X g)
  have BT := Lib.hid (show ∀ X A, M.ok X → Rf X A 3 3 [4607182418800017408, 4613937818241073152, 4611686018427387904] → Calls Try.prog 18 #[.slice A 3 3] X fun e w' => e = .returned (.int .i64 1) ∧ Below X.heap.size X w' from fun X A g hr =>
    (M.best A 3 3 _ X g hr (by omega)).mono fun e w' ⟨v, h1, h2, h3⟩ => ⟨by rw [h1, best_132 h2], h3⟩)
  have LF := Lib.hid (show ∀ X, M.ok X → Calls Try.prog 22 #[.agg #[.int .u64 4, .int .u64 0, .int .u64 0, .int .u64 1, .bool false]] X fun e w' => e = .returned (.float .f64 4604930618986332160) ∧ Below X.heap.size X w' from fun X g =>
    (M.left 4 0 0 1 false X g (by omega) (by omega)).mono fun e w' ⟨s, h1, h2, h3⟩ => ⟨by rw [h1, three_quarters h2], h3⟩)
  have q1 : (FloatKind.f64.format.order 4613937818241073152 4613937818241073152 == some .eq) = true := by decide +kernel
  have q2 : (FloatKind.f64.format.order 4604930618986332160 4604930618986332160 == some .eq) = true := by decide +kernel
  clear hk
  go_enter Try.func11, Try.ntmps11
  go_wp2_with (first
    | (go_at_call 21; ((with_reducible refine (C1.out _ HK.out).mono ?_); rintro e w1 ⟨rfl, b⟩; have B1 := Lib.hid b; clear b))
    | (go_at_call 21; ((with_reducible refine (C2.out _ (M.bel HK.out B1.out)).mono ?_); rintro e w2 ⟨r2, rfl, b⟩; have B2 := Lib.hid (B1.out.trans (b.mono B1.out.size)); clear b))
    | (go_at_call 17; ((with_reducible refine (S1.out _ (M.bel HK.out B2.out)).mono ?_); rintro e w3 ⟨rfl, b⟩; have B3 := Lib.hid (B2.out.trans (b.mono B2.out.size)); clear b))
    | (go_at_call 12; ((with_reducible refine (K1.out _ (M.bel HK.out B3.out)).mono ?_); rintro e w4 ⟨rfl, b⟩; have B4 := Lib.hid (B3.out.trans (b.mono B3.out.size)); clear b))
    | (go_at_call 17; ((with_reducible refine (S2.out _ (M.bel HK.out B4.out)).mono ?_); rintro e w5 ⟨rfl, b⟩; have B5 := Lib.hid (B4.out.trans (b.mono B4.out.size)); clear b))
    | (go_at_call 12; ((with_reducible refine (K2.out _ (M.bel HK.out B5.out)).mono ?_); rintro e w6 ⟨rfl, b⟩; have B6 := Lib.hid (B5.out.trans (b.mono B5.out.size)); clear b))
    | (go_at_call 17; ((with_reducible refine (S3.out _ (M.bel HK.out B6.out)).mono ?_); rintro e w7 ⟨r7, rfl, n7, b⟩; have N7 := Lib.hid n7; have B7 := Lib.hid (B6.out.trans (b.mono B6.out.size)); clear b n7))
    | (go_at_call 12; ((with_reducible refine (K3.out r7 N7.out _ (M.bel HK.out B7.out)).mono ?_); rintro e w8 ⟨rfl, b⟩; have B8 := Lib.hid (B7.out.trans (b.mono B7.out.size)); clear b))
    | (go_at_call 17; ((with_reducible refine (S4.out _ (M.bel HK.out B8.out)).mono ?_); rintro e w9 ⟨rfl, b⟩; have B9 := Lib.hid (B8.out.trans (b.mono B8.out.size)); clear b))
    | (go_at_call 14; ((with_reducible refine (P1.out _ (M.bel HK.out B9.out)).mono ?_); rintro e wa ⟨rfl, b⟩; have Ba := Lib.hid (B9.out.trans (b.mono B9.out.size)); clear b))
    | (go_at_call 14; ((with_reducible refine (P2.out _ (M.bel HK.out Ba.out)).mono ?_); rintro e wb ⟨rfl, b⟩; have Bb := Lib.hid (Ba.out.trans (b.mono Ba.out.size)); clear b))
    | (go_at_call 18; ((with_reducible refine (BT.out _ _ (M.bel HK.out (Bb.out.alloc Bb.out.size _)) (rf_lit _ _ _ _ _ _ rfl)).mono ?_); rintro e wc ⟨rfl, b⟩; have Bc := Lib.hid ((Bb.out.alloc Bb.out.size _).trans (b.mono (by have := Bb.out.size; simp; omega))); clear b))
    | (go_at_call 22; ((with_reducible refine (LF.out _ (M.bel HK.out Bc.out)).mono ?_); rintro e wd ⟨rfl, b⟩; have Bd := Lib.hid (Bc.out.trans (b.mono Bc.out.size)); clear b))
    | (go_at_call 12; ((with_reducible refine (K4.out _ (M.bel HK.out Bd.out)).mono ?_); rintro e we ⟨rfl, b⟩; have Be := Lib.hid (Bd.out.trans (b.mono Bd.out.size)); clear b)))
  go_ret
  exact ⟨rfl, Be.out⟩
end Go.Proofs.Ytkanckphkmilkaa.F
