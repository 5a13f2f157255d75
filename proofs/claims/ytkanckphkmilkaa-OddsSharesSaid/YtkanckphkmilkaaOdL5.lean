/-
  The call of the statement OddsCount of layer 23. (Written by genod5.py.)
-/
import Derived.Test.YtkanckphkmilkaaOdA
import Derived.Outline
namespace Go.Proofs.Ytkanckphkmilkaa.F
set_option linter.unusedSimpArgs false
set_option linter.unusedVariables false
open Go.RowKit

theorem left_val (M : OC) {t x : Nat} (h1 : 1 ≤ t) (h2 : t < 18446744073709551616) (hx : x ≤ t) : ∀ X, M.ok X → Calls Try.prog 22 #[.agg #[.int .u64 (t : Int), .int .u64 0, .int .u64 0, .int .u64 (x : Int), .bool false]] X fun e w' => e = .returned (.float .f64 (leftW t (t - x))) ∧ Below X.heap.size X w' := fun X g =>
  (M.left t 0 0 x false X g h2 (by omega)).mono fun e w' ⟨s, e1, e2, e3⟩ => ⟨by
    rw [LeftIs, if_pos hx] at e2
    rw [e1, quo_val e2 (leftW_div h1 h2 (by omega))], e3⟩
set_option maxRecDepth 100000 in
set_option maxHeartbeats 4000000 in
theorem oddsCount_walk (M : OC) (W : World) (hk : M.ok W) (t a b : Nat) (ht : t < 18446744073709551616) (ha : a < 18446744073709551616) (hb : b < 18446744073709551616) :
    Calls Try.prog 10 #[.int .u64 (t : Int), .int .u64 (a : Int), .int .u64 (b : Int)] W fun e w' => e = .returned (.bool true) ∧ Below W.heap.size W w' := by
  have HK := Lib.hid hk
  obtain ⟨m, hm⟩ : ∃ m, m = t % 9007199254740991 := ⟨_, rfl⟩
  have m1 : (t : Int) % 9007199254740991 = (m : Int) := by omega
  have m2 : (t : Int).tmod 9007199254740991 = (m : Int) := by rw [Int.tmod_eq_emod_of_nonneg (by omega)]; exact m1
  obtain ⟨n, hn⟩ : ∃ n, n = m + 1 := ⟨_, rfl⟩
  have n1 : 1 + (m : Int) = (n : Int) := by omega
  have nb : n < 9007199254740992 := by omega
  have n0 : 1 ≤ n := by omega
  obtain ⟨l, hl⟩ : ∃ l, l = n + 1 := ⟨_, rfl⟩
  have l1 : (n : Int) + 1 = (l : Int) := by omega
  obtain ⟨x, hx⟩ : ∃ x, x = a % l := ⟨_, rfl⟩
  obtain ⟨y, hy⟩ : ∃ y, y = b % l := ⟨_, rfl⟩
  have x1 : (a : Int) % (l : Int) = (x : Int) := by rw [hx]; rfl
  have x2 : (a : Int).tmod (l : Int) = (x : Int) := by rw [Int.tmod_eq_emod_of_nonneg (by omega)]; exact x1
  have y1 : (b : Int) % (l : Int) = (y : Int) := by rw [hy]; rfl
  have y2 : (b : Int).tmod (l : Int) = (y : Int) := by rw [Int.tmod_eq_emod_of_nonneg (by omega)]; exact y1
  have l0 : ¬ (l : Int) = 0 := by omega
  have xl : x ≤ n := by have := Nat.mod_lt a (show 0 < l by omega); omega
  have yl : y ≤ n := by have := Nat.mod_lt b (show 0 < l by omega); omega
  have n64 : n < 18446744073709551616 := by omega
  obtain ⟨p, hp⟩ : ∃ p, p = leftW n (n - x) := ⟨_, rfl⟩
  obtain ⟨q, hq⟩ : ∃ q, q = leftW n (n - y) := ⟨_, rfl⟩
  have HX := Lib.hid (left_val M n0 n64 xl)
  have HY := Lib.hid (left_val M n0 n64 yl)
  have H0 := Lib.hid (show ∀ X, M.ok X → Calls Try.prog 22 #[.agg #[.int .u64 (n : Int), .int .u64 0, .int .u64 0, .int .u64 0, .bool false]] X fun e w' => e = .returned (.float .f64 4607182418800017408) ∧ Below X.heap.size X w' from fun X g => by
    have := left_val M n0 n64 (Nat.zero_le n) X g
    rw [Nat.sub_zero, leftW_top n0 n64] at this
    exact this)
  have HN := Lib.hid (show ∀ X, M.ok X → Calls Try.prog 22 #[.agg #[.int .u64 (n : Int), .int .u64 0, .int .u64 0, .int .u64 (n : Int), .bool false]] X fun e w' => e = .returned (.float .f64 0) ∧ Below X.heap.size X w' from fun X g => by
    have := left_val M n0 n64 (Nat.le_refl n) X g
    rw [Nat.sub_self, leftW_bot n0 n64] at this
    exact this)
  have HD := Lib.hid (show ∀ X, M.ok X → Calls Try.prog 24 #[.agg #[.int .u64 (n : Int), .int .u64 0, .int .u64 0, .int .u64 (n : Int), .bool false], .float .f64 4607182418800017408] X fun e w' => e = .returned (.float .f64 0) ∧ Below X.heap.size X w' from fun X g =>
    (M.days n 0 0 n false one X g n64 n64).mono fun e w' ⟨s, e1, e2, e3⟩ => ⟨by
      rw [DaysIs, if_pos (Nat.le_refl n), Nat.sub_self, fI_zero] at e2
      rw [e1, quo_val e2 zero_by_one], e3⟩)
  have RK := Lib.hid (show ∀ X, Calls Try.prog 13 #[.float .f64 0] X fun e w' => e = .returned (.int .i64 1) ∧ Below X.heap.size X w' from fun X => rkind_any 0 X)
  rw [← hp] at HX
  rw [← hq] at HY
  have pl : p ≤ 4607182418800017408 := by rw [hp]; exact leftW_le n0 n64 (by omega)
  have ql : q ≤ 4607182418800017408 := by rw [hq]; exact leftW_le n0 n64 (by omega)
  have pq : x ≤ y → q ≤ p := fun h => by rw [hp, hq]; exact leftW_mono n0 n64 (by omega) (by omega)
  have kp : key p = (p : Int) := key_small (by omega)
  have kq : key q = (q : Int) := key_small (by omega)
  have np : isN p = false := isN_small (by omega)
  have nq : isN q = false := isN_small (by omega)
  have f1 : (FloatKind.f64.format.order 4607182418800017408 4607182418800017408 != some .eq) = false := by decide +kernel
  have f2 : (FloatKind.f64.format.order 0 0 != some .eq) = false := by decide +kernel
  have f3 : (FloatKind.f64.format.order p 0 == some .lt) = false := by
    show (Ieee.double.order p 0 == some .lt) = _
    rw [ord_lt, np, show isN 0 = false by decide, kp, show key 0 = 0 by decide]
    simp <;> omega
  have f4 : (FloatKind.f64.format.order p 4607182418800017408 == some .gt) = false := by
    show (Ieee.double.order p one == some .gt) = _
    rw [ord_gt, np, show isN one = false by decide, kp, show key one = 4607182418800017408 by decide]
    simp; omega
  have f5 : x ≤ y → (FloatKind.f64.format.order p q == some .gt || FloatKind.f64.format.order p q == some .eq) = true := fun h => by
    show (Ieee.double.order p q == some .gt || Ieee.double.order p q == some .eq) = _
    have := pq h
    rw [ord_gt, ord_eq, np, nq, kp, kq]
    simp; omega
  clear hm hn hl hx hy hp hq kp kq np nq pq pl ql hk ht ha hb
  by_cases hxy : y < x
  · clear f5
    go_enter Try.func10, Try.ntmps10
    go_wp2_with (first
      | (go_at_call 11; ((with_reducible refine (awake_true M _ HK.out).mono ?_); rintro e w1 ⟨rfl, b⟩; have B1 := Lib.hid b; clear b))
      | (go_at_call 22; ((with_reducible refine (HX.out _ (M.bel HK.out B1.out)).mono ?_); rintro e w2 ⟨rfl, b⟩; have B2 := Lib.hid (B1.out.trans (b.mono B1.out.size)); clear b))
      | (go_at_call 22; ((with_reducible refine (HY.out _ (M.bel HK.out B2.out)).mono ?_); rintro e w3 ⟨rfl, b⟩; have B3 := Lib.hid (B2.out.trans (b.mono B2.out.size)); clear b))
      | (go_at_call 22; ((with_reducible refine (H0.out _ (M.bel HK.out B3.out)).mono ?_); rintro e w4 ⟨rfl, b⟩; have B4 := Lib.hid (B3.out.trans (b.mono B3.out.size)); clear b))
      | (go_at_call 22; ((with_reducible refine (HN.out _ (M.bel HK.out B4.out)).mono ?_); rintro e w5 ⟨rfl, b⟩; have B5 := Lib.hid (B4.out.trans (b.mono B4.out.size)); clear b)))
    go_ret
    exact ⟨rfl, B5.out⟩
  · replace f5 := f5 (by omega)
    go_enter Try.func10, Try.ntmps10
    go_wp2_with (first
      | (go_at_call 11; ((with_reducible refine (awake_true M _ HK.out).mono ?_); rintro e w1 ⟨rfl, b⟩; have B1 := Lib.hid b; clear b))
      | (go_at_call 22; ((with_reducible refine (HX.out _ (M.bel HK.out B1.out)).mono ?_); rintro e w2 ⟨rfl, b⟩; have B2 := Lib.hid (B1.out.trans (b.mono B1.out.size)); clear b))
      | (go_at_call 22; ((with_reducible refine (HY.out _ (M.bel HK.out B2.out)).mono ?_); rintro e w3 ⟨rfl, b⟩; have B3 := Lib.hid (B2.out.trans (b.mono B2.out.size)); clear b))
      | (go_at_call 22; ((with_reducible refine (H0.out _ (M.bel HK.out B3.out)).mono ?_); rintro e w4 ⟨rfl, b⟩; have B4 := Lib.hid (B3.out.trans (b.mono B3.out.size)); clear b))
      | (go_at_call 22; ((with_reducible refine (HN.out _ (M.bel HK.out B4.out)).mono ?_); rintro e w5 ⟨rfl, b⟩; have B5 := Lib.hid (B4.out.trans (b.mono B4.out.size)); clear b))
      | (go_at_call 24; ((with_reducible refine (HD.out _ (M.bel HK.out B5.out)).mono ?_); rintro e w6 ⟨rfl, b⟩; have B6 := Lib.hid (B5.out.trans (b.mono B5.out.size)); clear b))
      | (go_at_call 13; ((with_reducible refine (RK.out _).mono ?_); rintro e w7 ⟨rfl, b⟩; have B7 := Lib.hid (B6.out.trans (b.mono B6.out.size)); clear b)))
    go_ret
    exact ⟨rfl, B7.out⟩
end Go.Proofs.Ytkanckphkmilkaa.F
