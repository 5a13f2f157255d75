/-
  The call of the statement OddsShares of layer 23. (Written by genod4.py.)
-/
import Derived.Test.YtkanckphkmilkaaOdA
import Derived.Outline
namespace Go.Proofs.Ytkanckphkmilkaa.F
set_option linter.unusedSimpArgs false
set_option linter.unusedVariables false
open Go.RowKit

/-- A share that is a number known, or none. -/
theorem share_val (M : OC) {a b v : Nat} (h : Ieee.double.div a b = some v) : ∀ X, M.ok X → Calls Try.prog 17 #[.float .f64 a, .float .f64 b] X fun e w' => e = .returned (.float .f64 v) ∧ Below X.heap.size X w' := fun X g =>
  (M.share a b X g).mono fun e w' ⟨r, h1, h2, h3⟩ => ⟨by rw [h1, quo_val h2 h], h3⟩
theorem share_nan (M : OC) {a b : Nat} (h : Ieee.double.div a b = none) : ∀ X, M.ok X → Calls Try.prog 17 #[.float .f64 a, .float .f64 b] X fun e w' => ∃ r, e = .returned (.float .f64 r) ∧ isN r = true ∧ Below X.heap.size X w' := fun X g =>
  (M.share a b X g).mono fun e w' ⟨r, h1, h2, h3⟩ => ⟨r, h1, quo_none h2 h, h3⟩
theorem kind_val (M : OC) {a k : Nat} (h : kindW a = k) : ∀ X, M.ok X → Calls Try.prog 12 #[.float .f64 a] X fun e w' => e = .returned (.int .i64 (k : Int)) ∧ Below X.heap.size X w' := fun X g => by
  have := M.kind a X g
  rw [h] at this
  exact this
theorem rkind_val {a k : Nat} (h : kindW a = k) : ∀ X, Calls Try.prog 13 #[.float .f64 a] X fun e w' => e = .returned (.int .i64 (k : Int)) ∧ Below X.heap.size X w' := fun X => by
  have := rkind_any a X
  rw [h] at this
  exact this
set_option maxRecDepth 100000 in
set_option maxHeartbeats 4000000 in
theorem shares_5 (M : OC) (W : World) (hk : M.ok W) (x : Nat) (hx : kindW x = 5) (ha : Ieee.double.div x 0 = none) (hb : Ieee.double.div x 9223372036854775808 = none) (hc : Ieee.double.div x x = none) :
    Calls Try.prog 8 #[.float .f64 x] W fun e w' => e = .returned (.bool true) ∧ Below W.heap.size W w' := by
  have HK := Lib.hid hk
  have S0 := Lib.hid (share_val M (show Ieee.double.div 0 13830554455654793216 = some 9223372036854775808 by decide +kernel))
  have KN := Lib.hid (show ∀ r, isN r = true → ∀ X, M.ok X → Calls Try.prog 12 #[.float .f64 r] X fun e w' => e = .returned (.int .i64 5) ∧ Below X.heap.size X w' from fun r hr => kind_val M (kind_nan.2 hr))
  have SA := Lib.hid (share_nan M ha)
  have SB := Lib.hid (share_nan M hb)
  have SC := Lib.hid (share_nan M hc)
  have RX := Lib.hid (show ∀ X, Calls Try.prog 13 #[.float .f64 x] X fun e w' => e = .returned (.int .i64 5) ∧ Below X.heap.size X w' from rkind_val hx)
  clear hx ha hb hc hk
  go_enter Try.func8, Try.ntmps8
  go_wp2_with (first
    | (go_at_call 11; ((with_reducible refine (awake_true M _ HK.out).mono ?_); rintro e w1 ⟨rfl, b⟩; have B1 := Lib.hid b; clear b))
    | (go_at_call 17; ((with_reducible refine (S0.out _ (M.bel HK.out B1.out)).mono ?_); rintro e w2 ⟨rfl, b⟩; have B2 := Lib.hid (B1.out.trans (b.mono B1.out.size)); clear b))
    | (go_at_call 17; ((with_reducible refine (SA.out _ (M.bel HK.out B2.out)).mono ?_); rintro e w3 ⟨r3, rfl, n, b⟩; have B3 := Lib.hid (B2.out.trans (b.mono B2.out.size)); have N3 := Lib.hid n; clear n; clear b))
    | (go_at_call 12; ((with_reducible refine (KN.out r3 N3.out _ (M.bel HK.out B3.out)).mono ?_); rintro e w4 ⟨rfl, b⟩; have B4 := Lib.hid (B3.out.trans (b.mono B3.out.size)); clear b))
    | (go_at_call 17; ((with_reducible refine (SB.out _ (M.bel HK.out B4.out)).mono ?_); rintro e w5 ⟨r5, rfl, n, b⟩; have B5 := Lib.hid (B4.out.trans (b.mono B4.out.size)); have N5 := Lib.hid n; clear n; clear b))
    | (go_at_call 12; ((with_reducible refine (KN.out r5 N5.out _ (M.bel HK.out B5.out)).mono ?_); rintro e w6 ⟨rfl, b⟩; have B6 := Lib.hid (B5.out.trans (b.mono B5.out.size)); clear b))
    | (go_at_call 17; ((with_reducible refine (SC.out _ (M.bel HK.out B6.out)).mono ?_); rintro e w7 ⟨r7, rfl, n, b⟩; have B7 := Lib.hid (B6.out.trans (b.mono B6.out.size)); have N7 := Lib.hid n; clear n; clear b))
    | (go_at_call 12; ((with_reducible refine (KN.out r7 N7.out _ (M.bel HK.out B7.out)).mono ?_); rintro e w8 ⟨rfl, b⟩; have B8 := Lib.hid (B7.out.trans (b.mono B7.out.size)); clear b))
    | (go_at_call 13; ((with_reducible refine (RX.out _).mono ?_); rintro e w9 ⟨rfl, b⟩; have B9 := Lib.hid (B8.out.trans (b.mono B8.out.size)); clear b)))
  go_ret
  exact ⟨rfl, B9.out⟩
set_option maxRecDepth 100000 in
set_option maxHeartbeats 4000000 in
theorem shares_1 (M : OC) (W : World) (hk : M.ok W) (x : Nat) (hx : kindW x = 1) (ha : Ieee.double.div x 0 = none) (hb : Ieee.double.div x 9223372036854775808 = none) (hc : Ieee.double.div x x = none) :
    Calls Try.prog 8 #[.float .f64 x] W fun e w' => e = .returned (.bool true) ∧ Below W.heap.size W w' := by
  have HK := Lib.hid hk
  have S0 := Lib.hid (share_val M (show Ieee.double.div 0 13830554455654793216 = some 9223372036854775808 by decide +kernel))
  have KN := Lib.hid (show ∀ r, isN r = true → ∀ X, M.ok X → Calls Try.prog 12 #[.float .f64 r] X fun e w' => e = .returned (.int .i64 5) ∧ Below X.heap.size X w' from fun r hr => kind_val M (kind_nan.2 hr))
  have SA := Lib.hid (share_nan M ha)
  have SB := Lib.hid (share_nan M hb)
  have SC := Lib.hid (share_nan M hc)
  have RX := Lib.hid (show ∀ X, Calls Try.prog 13 #[.float .f64 x] X fun e w' => e = .returned (.int .i64 1) ∧ Below X.heap.size X w' from rkind_val hx)
  clear hx ha hb hc hk
  go_enter Try.func8, Try.ntmps8
  go_wp2_with (first
    | (go_at_call 11; ((with_reducible refine (awake_true M _ HK.out).mono ?_); rintro e w1 ⟨rfl, b⟩; have B1 := Lib.hid b; clear b))
    | (go_at_call 17; ((with_reducible refine (S0.out _ (M.bel HK.out B1.out)).mono ?_); rintro e w2 ⟨rfl, b⟩; have B2 := Lib.hid (B1.out.trans (b.mono B1.out.size)); clear b))
    | (go_at_call 17; ((with_reducible refine (SA.out _ (M.bel HK.out B2.out)).mono ?_); rintro e w3 ⟨r3, rfl, n, b⟩; have B3 := Lib.hid (B2.out.trans (b.mono B2.out.size)); have N3 := Lib.hid n; clear n; clear b))
    | (go_at_call 12; ((with_reducible refine (KN.out r3 N3.out _ (M.bel HK.out B3.out)).mono ?_); rintro e w4 ⟨rfl, b⟩; have B4 := Lib.hid (B3.out.trans (b.mono B3.out.size)); clear b))
    | (go_at_call 17; ((with_reducible refine (SB.out _ (M.bel HK.out B4.out)).mono ?_); rintro e w5 ⟨r5, rfl, n, b⟩; have B5 := Lib.hid (B4.out.trans (b.mono B4.out.size)); have N5 := Lib.hid n; clear n; clear b))
    | (go_at_call 12; ((with_reducible refine (KN.out r5 N5.out _ (M.bel HK.out B5.out)).mono ?_); rintro e w6 ⟨rfl, b⟩; have B6 := Lib.hid (B5.out.trans (b.mono B5.out.size)); clear b))
    | (go_at_call 17; ((with_reducible refine (SC.out _ (M.bel HK.out B6.out)).mono ?_); rintro e w7 ⟨r7, rfl, n, b⟩; have B7 := Lib.hid (B6.out.trans (b.mono B6.out.size)); have N7 := Lib.hid n; clear n; clear b))
    | (go_at_call 12; ((with_reducible refine (KN.out r7 N7.out _ (M.bel HK.out B7.out)).mono ?_); rintro e w8 ⟨rfl, b⟩; have B8 := Lib.hid (B7.out.trans (b.mono B7.out.size)); clear b))
    | (go_at_call 13; ((with_reducible refine (RX.out _).mono ?_); rintro e w9 ⟨rfl, b⟩; have B9 := Lib.hid (B8.out.trans (b.mono B8.out.size)); clear b)))
  go_ret
  exact ⟨rfl, B9.out⟩
set_option maxRecDepth 100000 in
set_option maxHeartbeats 4000000 in
theorem shares_2 (M : OC) (W : World) (hk : M.ok W) (x : Nat) (hx : kindW x = 2) (ha : Ieee.double.div x 0 = none) (hb : Ieee.double.div x 9223372036854775808 = none) (hc : Ieee.double.div x x = none) :
    Calls Try.prog 8 #[.float .f64 x] W fun e w' => e = .returned (.bool true) ∧ Below W.heap.size W w' := by
  have HK := Lib.hid hk
  have S0 := Lib.hid (share_val M (show Ieee.double.div 0 13830554455654793216 = some 9223372036854775808 by decide +kernel))
  have KN := Lib.hid (show ∀ r, isN r = true → ∀ X, M.ok X → Calls Try.prog 12 #[.float .f64 r] X fun e w' => e = .returned (.int .i64 5) ∧ Below X.heap.size X w' from fun r hr => kind_val M (kind_nan.2 hr))
  have SA := Lib.hid (share_nan M ha)
  have SB := Lib.hid (share_nan M hb)
  have SC := Lib.hid (share_nan M hc)
  have RX := Lib.hid (show ∀ X, Calls Try.prog 13 #[.float .f64 x] X fun e w' => e = .returned (.int .i64 2) ∧ Below X.heap.size X w' from rkind_val hx)
  clear hx ha hb hc hk
  go_enter Try.func8, Try.ntmps8
  go_wp2_with (first
    | (go_at_call 11; ((with_reducible refine (awake_true M _ HK.out).mono ?_); rintro e w1 ⟨rfl, b⟩; have B1 := Lib.hid b; clear b))
    | (go_at_call 17; ((with_reducible refine (S0.out _ (M.bel HK.out B1.out)).mono ?_); rintro e w2 ⟨rfl, b⟩; have B2 := Lib.hid (B1.out.trans (b.mono B1.out.size)); clear b))
    | (go_at_call 17; ((with_reducible refine (SA.out _ (M.bel HK.out B2.out)).mono ?_); rintro e w3 ⟨r3, rfl, n, b⟩; have B3 := Lib.hid (B2.out.trans (b.mono B2.out.size)); have N3 := Lib.hid n; clear n; clear b))
    | (go_at_call 12; ((with_reducible refine (KN.out r3 N3.out _ (M.bel HK.out B3.out)).mono ?_); rintro e w4 ⟨rfl, b⟩; have B4 := Lib.hid (B3.out.trans (b.mono B3.out.size)); clear b))
    | (go_at_call 17; ((with_reducible refine (SB.out _ (M.bel HK.out B4.out)).mono ?_); rintro e w5 ⟨r5, rfl, n, b⟩; have B5 := Lib.hid (B4.out.trans (b.mono B4.out.size)); have N5 := Lib.hid n; clear n; clear b))
    | (go_at_call 12; ((with_reducible refine (KN.out r5 N5.out _ (M.bel HK.out B5.out)).mono ?_); rintro e w6 ⟨rfl, b⟩; have B6 := Lib.hid (B5.out.trans (b.mono B5.out.size)); clear b))
    | (go_at_call 17; ((with_reducible refine (SC.out _ (M.bel HK.out B6.out)).mono ?_); rintro e w7 ⟨r7, rfl, n, b⟩; have B7 := Lib.hid (B6.out.trans (b.mono B6.out.size)); have N7 := Lib.hid n; clear n; clear b))
    | (go_at_call 12; ((with_reducible refine (KN.out r7 N7.out _ (M.bel HK.out B7.out)).mono ?_); rintro e w8 ⟨rfl, b⟩; have B8 := Lib.hid (B7.out.trans (b.mono B7.out.size)); clear b))
    | (go_at_call 13; ((with_reducible refine (RX.out _).mono ?_); rintro e w9 ⟨rfl, b⟩; have B9 := Lib.hid (B8.out.trans (b.mono B8.out.size)); clear b)))
  go_ret
  exact ⟨rfl, B9.out⟩
set_option maxRecDepth 100000 in
set_option maxHeartbeats 4000000 in
theorem shares_3 (M : OC) (W : World) (hk : M.ok W) (x : Nat) (hx : kindW x = 3) (ha : Ieee.double.div x 0 = some 9218868437227405312) (hb : Ieee.double.div x 9223372036854775808 = some 18442240474082181120) (hc : Ieee.double.div x x = none) :
    Calls Try.prog 8 #[.float .f64 x] W fun e w' => e = .returned (.bool true) ∧ Below W.heap.size W w' := by
  have HK := Lib.hid hk
  have S0 := Lib.hid (share_val M (show Ieee.double.div 0 13830554455654793216 = some 9223372036854775808 by decide +kernel))
  have KN := Lib.hid (show ∀ r, isN r = true → ∀ X, M.ok X → Calls Try.prog 12 #[.float .f64 r] X fun e w' => e = .returned (.int .i64 5) ∧ Below X.heap.size X w' from fun r hr => kind_val M (kind_nan.2 hr))
  have SA := Lib.hid (share_val M ha)
  have SB := Lib.hid (share_val M hb)
  have SC := Lib.hid (share_nan M hc)
  have KA := Lib.hid (show ∀ X, M.ok X → Calls Try.prog 12 #[.float .f64 9218868437227405312] X fun e w' => e = .returned (.int .i64 3) ∧ Below X.heap.size X w' from kind_val M (show kindW 9218868437227405312 = 3 by decide))
  have KB := Lib.hid (show ∀ X, M.ok X → Calls Try.prog 12 #[.float .f64 18442240474082181120] X fun e w' => e = .returned (.int .i64 4) ∧ Below X.heap.size X w' from kind_val M (show kindW 18442240474082181120 = 4 by decide))
  have RX := Lib.hid (show ∀ X, Calls Try.prog 13 #[.float .f64 x] X fun e w' => e = .returned (.int .i64 3) ∧ Below X.heap.size X w' from rkind_val hx)
  clear hx ha hb hc hk
  go_enter Try.func8, Try.ntmps8
  go_wp2_with (first
    | (go_at_call 11; ((with_reducible refine (awake_true M _ HK.out).mono ?_); rintro e w1 ⟨rfl, b⟩; have B1 := Lib.hid b; clear b))
    | (go_at_call 17; ((with_reducible refine (S0.out _ (M.bel HK.out B1.out)).mono ?_); rintro e w2 ⟨rfl, b⟩; have B2 := Lib.hid (B1.out.trans (b.mono B1.out.size)); clear b))
    | (go_at_call 17; ((with_reducible refine (SA.out _ (M.bel HK.out B2.out)).mono ?_); rintro e w3 ⟨rfl, b⟩; have B3 := Lib.hid (B2.out.trans (b.mono B2.out.size)); clear b))
    | (go_at_call 12; ((with_reducible refine (KA.out _ (M.bel HK.out B3.out)).mono ?_); rintro e w4 ⟨rfl, b⟩; have B4 := Lib.hid (B3.out.trans (b.mono B3.out.size)); clear b))
    | (go_at_call 17; ((with_reducible refine (SB.out _ (M.bel HK.out B4.out)).mono ?_); rintro e w5 ⟨rfl, b⟩; have B5 := Lib.hid (B4.out.trans (b.mono B4.out.size)); clear b))
    | (go_at_call 12; ((with_reducible refine (KB.out _ (M.bel HK.out B5.out)).mono ?_); rintro e w6 ⟨rfl, b⟩; have B6 := Lib.hid (B5.out.trans (b.mono B5.out.size)); clear b))
    | (go_at_call 17; ((with_reducible refine (SC.out _ (M.bel HK.out B6.out)).mono ?_); rintro e w7 ⟨r7, rfl, n, b⟩; have B7 := Lib.hid (B6.out.trans (b.mono B6.out.size)); have N7 := Lib.hid n; clear n; clear b))
    | (go_at_call 12; ((with_reducible refine (KN.out r7 N7.out _ (M.bel HK.out B7.out)).mono ?_); rintro e w8 ⟨rfl, b⟩; have B8 := Lib.hid (B7.out.trans (b.mono B7.out.size)); clear b))
    | (go_at_call 13; ((with_reducible refine (RX.out _).mono ?_); rintro e w9 ⟨rfl, b⟩; have B9 := Lib.hid (B8.out.trans (b.mono B8.out.size)); clear b)))
  go_ret
  exact ⟨rfl, B9.out⟩
set_option maxRecDepth 100000 in
set_option maxHeartbeats 4000000 in
theorem shares_4 (M : OC) (W : World) (hk : M.ok W) (x : Nat) (hx : kindW x = 4) (ha : Ieee.double.div x 0 = some 18442240474082181120) (hb : Ieee.double.div x 9223372036854775808 = some 9218868437227405312) (hc : Ieee.double.div x x = none) :
    Calls Try.prog 8 #[.float .f64 x] W fun e w' => e = .returned (.bool true) ∧ Below W.heap.size W w' := by
  have HK := Lib.hid hk
  have S0 := Lib.hid (share_val M (show Ieee.double.div 0 13830554455654793216 = some 9223372036854775808 by decide +kernel))
  have KN := Lib.hid (show ∀ r, isN r = true → ∀ X, M.ok X → Calls Try.prog 12 #[.float .f64 r] X fun e w' => e = .returned (.int .i64 5) ∧ Below X.heap.size X w' from fun r hr => kind_val M (kind_nan.2 hr))
  have SA := Lib.hid (share_val M ha)
  have SB := Lib.hid (share_val M hb)
  have SC := Lib.hid (share_nan M hc)
  have KA := Lib.hid (show ∀ X, M.ok X → Calls Try.prog 12 #[.float .f64 18442240474082181120] X fun e w' => e = .returned (.int .i64 4) ∧ Below X.heap.size X w' from kind_val M (show kindW 18442240474082181120 = 4 by decide))
  have KB := Lib.hid (show ∀ X, M.ok X → Calls Try.prog 12 #[.float .f64 9218868437227405312] X fun e w' => e = .returned (.int .i64 3) ∧ Below X.heap.size X w' from kind_val M (show kindW 9218868437227405312 = 3 by decide))
  have RX := Lib.hid (show ∀ X, Calls Try.prog 13 #[.float .f64 x] X fun e w' => e = .returned (.int .i64 4) ∧ Below X.heap.size X w' from rkind_val hx)
  clear hx ha hb hc hk
  go_enter Try.func8, Try.ntmps8
  go_wp2_with (first
    | (go_at_call 11; ((with_reducible refine (awake_true M _ HK.out).mono ?_); rintro e w1 ⟨rfl, b⟩; have B1 := Lib.hid b; clear b))
    | (go_at_call 17; ((with_reducible refine (S0.out _ (M.bel HK.out B1.out)).mono ?_); rintro e w2 ⟨rfl, b⟩; have B2 := Lib.hid (B1.out.trans (b.mono B1.out.size)); clear b))
    | (go_at_call 17; ((with_reducible refine (SA.out _ (M.bel HK.out B2.out)).mono ?_); rintro e w3 ⟨rfl, b⟩; have B3 := Lib.hid (B2.out.trans (b.mono B2.out.size)); clear b))
    | (go_at_call 12; ((with_reducible refine (KA.out _ (M.bel HK.out B3.out)).mono ?_); rintro e w4 ⟨rfl, b⟩; have B4 := Lib.hid (B3.out.trans (b.mono B3.out.size)); clear b))
    | (go_at_call 17; ((with_reducible refine (SB.out _ (M.bel HK.out B4.out)).mono ?_); rintro e w5 ⟨rfl, b⟩; have B5 := Lib.hid (B4.out.trans (b.mono B4.out.size)); clear b))
    | (go_at_call 12; ((with_reducible refine (KB.out _ (M.bel HK.out B5.out)).mono ?_); rintro e w6 ⟨rfl, b⟩; have B6 := Lib.hid (B5.out.trans (b.mono B5.out.size)); clear b))
    | (go_at_call 17; ((with_reducible refine (SC.out _ (M.bel HK.out B6.out)).mono ?_); rintro e w7 ⟨r7, rfl, n, b⟩; have B7 := Lib.hid (B6.out.trans (b.mono B6.out.size)); have N7 := Lib.hid n; clear n; clear b))
    | (go_at_call 12; ((with_reducible refine (KN.out r7 N7.out _ (M.bel HK.out B7.out)).mono ?_); rintro e w8 ⟨rfl, b⟩; have B8 := Lib.hid (B7.out.trans (b.mono B7.out.size)); clear b))
    | (go_at_call 13; ((with_reducible refine (RX.out _).mono ?_); rintro e w9 ⟨rfl, b⟩; have B9 := Lib.hid (B8.out.trans (b.mono B8.out.size)); clear b)))
  go_ret
  exact ⟨rfl, B9.out⟩
set_option maxRecDepth 100000 in
set_option maxHeartbeats 4000000 in
theorem shares_pos (M : OC) (W : World) (hk : M.ok W) (x : Nat) (hx : kindW x = 0) (ha : Ieee.double.div x 0 = some 9218868437227405312) (hb : Ieee.double.div x 9223372036854775808 = some 18442240474082181120) (hc : Ieee.double.div x x = some one) (hi : Ieee.double.div x 9218868437227405312 = some 0) (hg : (FloatKind.f64.format.order x 0 == some .gt) = true) :
    Calls Try.prog 8 #[.float .f64 x] W fun e w' => e = .returned (.bool true) ∧ Below W.heap.size W w' := by
  have HK := Lib.hid hk
  have S0 := Lib.hid (share_val M (show Ieee.double.div 0 13830554455654793216 = some 9223372036854775808 by decide +kernel))
  have KN := Lib.hid (show ∀ r, isN r = true → ∀ X, M.ok X → Calls Try.prog 12 #[.float .f64 r] X fun e w' => e = .returned (.int .i64 5) ∧ Below X.heap.size X w' from fun r hr => kind_val M (kind_nan.2 hr))
  have SA := Lib.hid (share_val M ha)
  have SB := Lib.hid (share_val M hb)
  have SC := Lib.hid (share_val M hc)
  have SI := Lib.hid (share_val M (show Ieee.double.div one 0 = some 9218868437227405312 by decide +kernel))
  have SZ := Lib.hid (share_val M hi)
  have KA := Lib.hid (show ∀ X, M.ok X → Calls Try.prog 12 #[.float .f64 9218868437227405312] X fun e w' => e = .returned (.int .i64 3) ∧ Below X.heap.size X w' from kind_val M (show kindW 9218868437227405312 = 3 by decide))
  have KB := Lib.hid (show ∀ X, M.ok X → Calls Try.prog 12 #[.float .f64 18442240474082181120] X fun e w' => e = .returned (.int .i64 4) ∧ Below X.heap.size X w' from kind_val M (show kindW 18442240474082181120 = 4 by decide))
  have KO := Lib.hid (show ∀ X, M.ok X → Calls Try.prog 12 #[.float .f64 one] X fun e w' => e = .returned (.int .i64 0) ∧ Below X.heap.size X w' from kind_val M (show kindW one = 0 by decide))
  have KZ := Lib.hid (show ∀ X, M.ok X → Calls Try.prog 12 #[.float .f64 0] X fun e w' => e = .returned (.int .i64 1) ∧ Below X.heap.size X w' from kind_val M (show kindW 0 = 1 by decide))
  have RX := Lib.hid (show ∀ X, Calls Try.prog 13 #[.float .f64 x] X fun e w' => e = .returned (.int .i64 0) ∧ Below X.heap.size X w' from rkind_val hx)
  have q1 : (FloatKind.f64.format.order 4607182418800017408 4607182418800017408 != some .eq) = false := by decide +kernel
  clear hx ha hb hc hi hk
  go_enter Try.func8, Try.ntmps8
  go_wp2_with (first
    | (go_at_call 11; ((with_reducible refine (awake_true M _ HK.out).mono ?_); rintro e w1 ⟨rfl, b⟩; have B1 := Lib.hid b; clear b))
    | (go_at_call 17; ((with_reducible refine (S0.out _ (M.bel HK.out B1.out)).mono ?_); rintro e w2 ⟨rfl, b⟩; have B2 := Lib.hid (B1.out.trans (b.mono B1.out.size)); clear b))
    | (go_at_call 17; ((with_reducible refine (SA.out _ (M.bel HK.out B2.out)).mono ?_); rintro e w3 ⟨rfl, b⟩; have B3 := Lib.hid (B2.out.trans (b.mono B2.out.size)); clear b))
    | (go_at_call 12; ((with_reducible refine (KA.out _ (M.bel HK.out B3.out)).mono ?_); rintro e w4 ⟨rfl, b⟩; have B4 := Lib.hid (B3.out.trans (b.mono B3.out.size)); clear b))
    | (go_at_call 17; ((with_reducible refine (SB.out _ (M.bel HK.out B4.out)).mono ?_); rintro e w5 ⟨rfl, b⟩; have B5 := Lib.hid (B4.out.trans (b.mono B4.out.size)); clear b))
    | (go_at_call 12; ((with_reducible refine (KB.out _ (M.bel HK.out B5.out)).mono ?_); rintro e w6 ⟨rfl, b⟩; have B6 := Lib.hid (B5.out.trans (b.mono B5.out.size)); clear b))
    | (go_at_call 17; ((with_reducible refine (SC.out _ (M.bel HK.out B6.out)).mono ?_); rintro e w7 ⟨rfl, b⟩; have B7 := Lib.hid (B6.out.trans (b.mono B6.out.size)); clear b))
    | (go_at_call 12; ((with_reducible refine (KO.out _ (M.bel HK.out B7.out)).mono ?_); rintro e w8 ⟨rfl, b⟩; have B8 := Lib.hid (B7.out.trans (b.mono B7.out.size)); clear b))
    | (go_at_call 13; ((with_reducible refine (RX.out _).mono ?_); rintro e w9 ⟨rfl, b⟩; have B9 := Lib.hid (B8.out.trans (b.mono B8.out.size)); clear b))
    | (go_at_call 17; ((with_reducible refine (SI.out _ (M.bel HK.out B9.out)).mono ?_); rintro e w10 ⟨rfl, b⟩; have B10 := Lib.hid (B9.out.trans (b.mono B9.out.size)); clear b))
    | (go_at_call 17; ((with_reducible refine (SZ.out _ (M.bel HK.out B10.out)).mono ?_); rintro e w11 ⟨rfl, b⟩; have B11 := Lib.hid (B10.out.trans (b.mono B10.out.size)); clear b))
    | (go_at_call 12; ((with_reducible refine (KZ.out _ (M.bel HK.out B11.out)).mono ?_); rintro e w12 ⟨rfl, b⟩; have B12 := Lib.hid (B11.out.trans (b.mono B11.out.size)); clear b))
    | (go_at_call 17; ((with_reducible refine (SC.out _ (M.bel HK.out B12.out)).mono ?_); rintro e w13 ⟨rfl, b⟩; have B13 := Lib.hid (B12.out.trans (b.mono B12.out.size)); clear b)))
  go_ret
  exact ⟨rfl, B13.out⟩
set_option maxRecDepth 100000 in
set_option maxHeartbeats 4000000 in
theorem shares_neg (M : OC) (W : World) (hk : M.ok W) (x : Nat) (hx : kindW x = 0) (ha : Ieee.double.div x 0 = some 18442240474082181120) (hb : Ieee.double.div x 9223372036854775808 = some 9218868437227405312) (hc : Ieee.double.div x x = some one) (hi : Ieee.double.div x 9218868437227405312 = some 9223372036854775808) (hg : (FloatKind.f64.format.order x 0 == some .gt) = false) :
    Calls Try.prog 8 #[.float .f64 x] W fun e w' => e = .returned (.bool true) ∧ Below W.heap.size W w' := by
  have HK := Lib.hid hk
  have S0 := Lib.hid (share_val M (show Ieee.double.div 0 13830554455654793216 = some 9223372036854775808 by decide +kernel))
  have KN := Lib.hid (show ∀ r, isN r = true → ∀ X, M.ok X → Calls Try.prog 12 #[.float .f64 r] X fun e w' => e = .returned (.int .i64 5) ∧ Below X.heap.size X w' from fun r hr => kind_val M (kind_nan.2 hr))
  have SA := Lib.hid (share_val M ha)
  have SB := Lib.hid (share_val M hb)
  have SC := Lib.hid (share_val M hc)
  have SI := Lib.hid (share_val M (show Ieee.double.div one 0 = some 9218868437227405312 by decide +kernel))
  have SZ := Lib.hid (share_val M hi)
  have KA := Lib.hid (show ∀ X, M.ok X → Calls Try.prog 12 #[.float .f64 18442240474082181120] X fun e w' => e = .returned (.int .i64 4) ∧ Below X.heap.size X w' from kind_val M (show kindW 18442240474082181120 = 4 by decide))
  have KB := Lib.hid (show ∀ X, M.ok X → Calls Try.prog 12 #[.float .f64 9218868437227405312] X fun e w' => e = .returned (.int .i64 3) ∧ Below X.heap.size X w' from kind_val M (show kindW 9218868437227405312 = 3 by decide))
  have KO := Lib.hid (show ∀ X, M.ok X → Calls Try.prog 12 #[.float .f64 one] X fun e w' => e = .returned (.int .i64 0) ∧ Below X.heap.size X w' from kind_val M (show kindW one = 0 by decide))
  have KZ := Lib.hid (show ∀ X, M.ok X → Calls Try.prog 12 #[.float .f64 9223372036854775808] X fun e w' => e = .returned (.int .i64 2) ∧ Below X.heap.size X w' from kind_val M (show kindW 9223372036854775808 = 2 by decide))
  have RX := Lib.hid (show ∀ X, Calls Try.prog 13 #[.float .f64 x] X fun e w' => e = .returned (.int .i64 0) ∧ Below X.heap.size X w' from rkind_val hx)
  have q1 : (FloatKind.f64.format.order 4607182418800017408 4607182418800017408 != some .eq) = false := by decide +kernel
  clear hx ha hb hc hi hk
  go_enter Try.func8, Try.ntmps8
  go_wp2_with (first
    | (go_at_call 11; ((with_reducible refine (awake_true M _ HK.out).mono ?_); rintro e w1 ⟨rfl, b⟩; have B1 := Lib.hid b; clear b))
    | (go_at_call 17; ((with_reducible refine (S0.out _ (M.bel HK.out B1.out)).mono ?_); rintro e w2 ⟨rfl, b⟩; have B2 := Lib.hid (B1.out.trans (b.mono B1.out.size)); clear b))
    | (go_at_call 17; ((with_reducible refine (SA.out _ (M.bel HK.out B2.out)).mono ?_); rintro e w3 ⟨rfl, b⟩; have B3 := Lib.hid (B2.out.trans (b.mono B2.out.size)); clear b))
    | (go_at_call 12; ((with_reducible refine (KA.out _ (M.bel HK.out B3.out)).mono ?_); rintro e w4 ⟨rfl, b⟩; have B4 := Lib.hid (B3.out.trans (b.mono B3.out.size)); clear b))
    | (go_at_call 17; ((with_reducible refine (SB.out _ (M.bel HK.out B4.out)).mono ?_); rintro e w5 ⟨rfl, b⟩; have B5 := Lib.hid (B4.out.trans (b.mono B4.out.size)); clear b))
    | (go_at_call 12; ((with_reducible refine (KB.out _ (M.bel HK.out B5.out)).mono ?_); rintro e w6 ⟨rfl, b⟩; have B6 := Lib.hid (B5.out.trans (b.mono B5.out.size)); clear b))
    | (go_at_call 17; ((with_reducible refine (SC.out _ (M.bel HK.out B6.out)).mono ?_); rintro e w7 ⟨rfl, b⟩; have B7 := Lib.hid (B6.out.trans (b.mono B6.out.size)); clear b))
    | (go_at_call 12; ((with_reducible refine (KO.out _ (M.bel HK.out B7.out)).mono ?_); rintro e w8 ⟨rfl, b⟩; have B8 := Lib.hid (B7.out.trans (b.mono B7.out.size)); clear b))
    | (go_at_call 13; ((with_reducible refine (RX.out _).mono ?_); rintro e w9 ⟨rfl, b⟩; have B9 := Lib.hid (B8.out.trans (b.mono B8.out.size)); clear b))
    | (go_at_call 17; ((with_reducible refine (SI.out _ (M.bel HK.out B9.out)).mono ?_); rintro e w10 ⟨rfl, b⟩; have B10 := Lib.hid (B9.out.trans (b.mono B9.out.size)); clear b))
    | (go_at_call 17; ((with_reducible refine (SZ.out _ (M.bel HK.out B10.out)).mono ?_); rintro e w11 ⟨rfl, b⟩; have B11 := Lib.hid (B10.out.trans (b.mono B10.out.size)); clear b))
    | (go_at_call 12; ((with_reducible refine (KZ.out _ (M.bel HK.out B11.out)).mono ?_); rintro e w12 ⟨rfl, b⟩; have B12 := Lib.hid (B11.out.trans (b.mono B11.out.size)); clear b))
    | (go_at_call 17; ((with_reducible refine (SC.out _ (M.bel HK.out B12.out)).mono ?_); rintro e w13 ⟨rfl, b⟩; have B13 := Lib.hid (B12.out.trans (b.mono B12.out.size)); clear b)))
  go_ret
  exact ⟨rfl, B13.out⟩
theorem oddsShares_walk (M : OC) (W : World) (hk : M.ok W) (x : Nat) :
    Calls Try.prog 8 #[.float .f64 x] W fun e w' => e = .returned (.bool true) ∧ Below W.heap.size W w' := by
  have z0 : rg 0 = 0 := rfl
  have z1 : rg 9223372036854775808 = 0 := by decide
  have s0 : sg 0 = false := by decide
  have s1 : sg 9223372036854775808 = true := by decide
  have ri : rg 9218868437227405312 = 9218868437227405312 := by decide
  have si : sg 9218868437227405312 = false := by decide
  cases hn : isN x with
  | true => exact shares_5 M W hk x (kind_nan.2 hn) (div_nan (.inl hn)) (div_nan (.inl hn)) (div_nan (.inl hn))
  | false =>
    by_cases h0 : rg x = 0
    · have ha := div_zeros (x := x) (y := 0) h0 z0
      have hb := div_zeros (x := x) (y := 9223372036854775808) h0 z1
      have hc := div_zeros (x := x) (y := x) h0 h0
      cases hs : sg x with
      | true => exact shares_2 M W hk x (by unfold kindW; rw [hn, hs, if_neg (by simp), if_pos h0]; rfl) ha hb hc
      | false => exact shares_1 M W hk x (by unfold kindW; rw [hn, hs, if_neg (by simp), if_pos h0]; rfl) ha hb hc
    · rcases not_nan hn with hf | hi
      · have ha := div_by_zero (x := x) (y := 0) hf h0 z0
        have hb := div_by_zero (x := x) (y := 9223372036854775808) hf h0 z1
        have hc := div_self hf h0
        have hz := div_by_inf (x := x) (y := 9218868437227405312) hf ri
        rw [s0] at ha
        rw [s1] at hb
        rw [si] at hz
        have hk0 : kindW x = 0 := by
          unfold kindW
          rw [hn, if_neg (by simp), if_neg h0, if_neg (by omega)]
        have hg : (FloatKind.f64.format.order x 0 == some .gt) = !sg x := by
          show (Ieee.double.order x 0 == some .gt) = _
          rw [ord_gt, hn, show isN 0 = false by decide, show key 0 = 0 by decide]
          unfold key
          cases sg x
          · simp; omega
          · simp
        cases hs : sg x with
        | true =>
          rw [hs] at ha hb hz hg
          exact shares_neg M W hk x hk0 ha hb hc hz hg
        | false =>
          rw [hs] at ha hb hz hg
          exact shares_pos M W hk x hk0 ha hb hc hz hg
      · have ha := div_of_inf (x := x) (y := 0) hi (by rw [z0]; omega)
        have hb := div_of_inf (x := x) (y := 9223372036854775808) hi (by rw [z1]; omega)
        have hc := div_infs hi hi
        rw [s0] at ha
        rw [s1] at hb
        cases hs : sg x with
        | true =>
          rw [hs] at ha hb
          exact shares_4 M W hk x (by unfold kindW; rw [hn, hs, if_neg (by simp), if_neg h0, if_pos hi]; rfl) ha hb hc
        | false =>
          rw [hs] at ha hb
          exact shares_3 M W hk x (by unfold kindW; rw [hn, hs, if_neg (by simp), if_neg h0, if_pos hi]; rfl) ha hb hc
end Go.Proofs.Ytkanckphkmilkaa.F
