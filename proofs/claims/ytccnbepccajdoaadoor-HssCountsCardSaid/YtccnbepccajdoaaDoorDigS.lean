/-
  What the document's own May and Shape of layer 7 do. No statement is proved here.
-/
import Derived.Test.YtccnbepccajdoaaDoorDigC
namespace Go.Proofs.YtccnbepccajdoaaDoor.S7
set_option linter.unusedSimpArgs false
set_option linter.unusedVariables false
set_option maxRecDepth 1024
open Go.RowKit

theorem rmay_any (w : Int) (W : World) : Calls Tryd.prog 48 #[.int .i64 w] W fun e w' => e = .returned (.bool (mayB w)) ∧ W = w' := by
  by_cases h1 : w = 1
  · subst h1
    go_enter Tryd.func48, Tryd.ntmps48
    go_wp2
    go_ret
    exact ⟨rfl, rfl⟩
  · by_cases h2 : w = 2
    · subst h2
      go_enter Tryd.func48, Tryd.ntmps48
      go_wp2
      go_ret
      exact ⟨rfl, rfl⟩
    · by_cases h4 : w = 4
      · subst h4
        go_enter Tryd.func48, Tryd.ntmps48
        go_wp2
        go_ret
        exact ⟨rfl, rfl⟩
      · have q1 : (w == 1) = false := by simpa using h1
        have q2 : (w == 2) = false := by simpa using h2
        have q4 : (w == 4) = false := by simpa using h4
        have e : mayB w = (w == 8) := by simp [mayB, q1, q2, q4]
        rw [e]
        clear e
        go_enter Tryd.func48, Tryd.ntmps48
        go_wp2
        go_ret
        exact ⟨rfl, rfl⟩
set_option maxHeartbeats 2000000 in
theorem rshape_any (n v : Nat) (W : World) (h0 : 1 ≤ n) (h1 : n ≤ 64) (hv : wid v) :
    Calls Tryd.prog 38 #[.int .i64 (n : Int), .int .i64 (v : Int)] W fun e w' => e = .returned (.tuple #[.int .i64 ((shU n v : Nat) : Int), .int .i64 ((shV n v : Nat) : Int), .int .i64 ((shL n v : Nat) : Int)]) ∧ W = w' := by
  have HM := Lib.hid (show ∀ X, Calls Tryd.prog 48 #[.int .i64 (v : Int)] X fun e w' => e = .returned (.bool true) ∧ X = w' from fun X => by rw [← may_wid hv]; exact rmay_any v X)
  obtain ⟨h8, hv1, hv8⟩ := wid_div hv
  obtain ⟨f1, f2, f3, f4, _⟩ := shape_facts n v hv h0 h1
  obtain ⟨U, hU⟩ : ∃ U, U = shU n v := ⟨_, rfl⟩
  obtain ⟨V, hV⟩ : ∃ V, V = shV n v := ⟨_, rfl⟩
  have hUb : U ≤ 512 := by
    have : n * (8 / v) ≤ n * 8 := Nat.mul_le_mul_left _ (Nat.div_le_self _ _)
    omega
  have hVL : shL n v = 16 - V * v := by rw [hV]; rfl
  have hV16 : V * v ≤ 16 := by rw [hV, Nat.mul_comm]; exact f2
  have hVd : V = nd (2 ^ v) 20 ((2 ^ v - 1) * U) := by rw [hV, hU]; rfl
  have HVD := Lib.hid hVd
  have HVL := Lib.hid hVL
  have u1 : (8 * (n : Int)) / (v : Int) = (U : Int) := by rw [hU]; unfold shU; simp
  have u2 : (8 * (n : Int)).tdiv (v : Int) = (U : Int) := by rw [Int.tdiv_eq_ediv_of_nonneg (by omega)]; exact u1
  rw [← hU, ← hV, HVL.out]
  clear hU hV hVL hVd hv h8 f1 f2 f3 f4
  have q1 : decide ((n : Int) < 1) = false := by simp; omega
  have q2 : decide (64 < (n : Int)) = false := by simp; omega
  have vz : ¬ (v : Int) = 0 := by omega
  have e8 : IntKind.i64.wrap (8 * (n : Int)) = 8 * (n : Int) := by rw [IntKind.wrap_i64]; omega
  have eU : IntKind.i64.wrap (U : Int) = (U : Int) := by rw [IntKind.wrap_i64]; omega
  go_enter Tryd.func38, Tryd.ntmps38
  go_wp2_with (go_at_call 48; ((with_reducible refine (HM.out _).mono ?_); rintro e w2 ⟨rfl, rfl⟩))
  clear q1 q2
  go_loop [7, 8] (fun m i => ∃ j : Nat, j ≤ v ∧ i = .int .i64 (j : Int) ∧ m = .int .i64 ((2 ^ j : Nat) : Int)) (fun _ i => v - (intOf i).toNat)
  case atStart => exact ⟨0, by omega, rfl, rfl⟩
  case round =>
    obtain ⟨j, hj, rfl, rfl⟩ := hrel
    have hp := pow_lt9 (Nat.le_trans hj hv8)
    by_cases hlt : j < v
    · have i0 : (j : Int) < (v : Int) := by omega
      obtain ⟨P, hP⟩ : ∃ P, P = 2 ^ j := ⟨_, rfl⟩
      have HP := Lib.hid (show 2 ^ (j + 1) = 2 * P by rw [hP, Nat.pow_succ, Nat.mul_comm])
      rw [← hP] at hp ⊢
      clear hP
      go_wp2
      go_round
      case rel => exact ⟨j + 1, by omega, by go_num, by rw [HP.out]; go_num⟩
      case measure => simp [intOf]; omega
    · obtain rfl : j = v := by omega
      have i0 : ¬ (j : Int) < (j : Int) := by omega
      obtain ⟨P, hP⟩ : ∃ P, P = 2 ^ j := ⟨_, rfl⟩
      have hP2 : 2 ≤ P := by
        have : 2 ^ 1 ≤ 2 ^ j := Nat.pow_le_pow_right (by omega) hv1
        omega
      have HVP := Lib.hid (show V = nd P 20 ((P - 1) * U) by rw [hP]; exact HVD.out)
      obtain ⟨X, hX⟩ : ∃ X, X = (P - 1) * U := ⟨_, rfl⟩
      have hXb : X ≤ 255 * 512 := by rw [hX]; exact Nat.mul_le_mul (by omega) hUb
      have HVX := Lib.hid (show V = nd P 20 X by rw [hX]; exact HVP.out)
      have x1 : ((P : Int) - 1) * (U : Int) = (X : Int) := by
        rw [hX, Int.natCast_mul, Int.natCast_sub (by omega)]
        rfl
      have x2 : IntKind.i64.wrap ((P : Int) - 1) = (P : Int) - 1 := by rw [IntKind.wrap_i64]; omega
      have x3 : IntKind.i64.wrap (X : Int) = (X : Int) := by rw [IntKind.wrap_i64]; omega
      have pz : ¬ (P : Int) = 0 := by omega
      rw [← hP] at hp ⊢
      clear hP hX
      go_wp2
      go_loop [10, 11] (fun s x => ∃ k f Y : Nat, k + nd P f Y = V ∧ k + f = 20 ∧ Y < 2 ^ f ∧ s = .int .i64 (k : Int) ∧ x = .int .i64 (Y : Int)) (fun s _ => 20 - (intOf s).toNat)
      case atStart => exact ⟨0, 20, X, by rw [Nat.zero_add]; exact HVX.out.symm, rfl, by omega, rfl, rfl⟩
      case round =>
        obtain ⟨k, f, Y, hk, hf, hY, rfl, rfl⟩ := hrel
        by_cases hy : Y = 0
        · subst hy
          rw [nd_zero, Nat.add_zero] at hk
          subst hk
          have y0 : ¬ (0 : Int) < ((0 : Nat) : Int) := by simp
          have kv : (k : Int) * (j : Int) = ((k * j : Nat) : Int) := by simp
          obtain ⟨KV, hKV⟩ : ∃ KV, KV = k * j := ⟨_, rfl⟩
          rw [← hKV] at kv hV16
          have HKV := Lib.hid hKV
          have l1 : IntKind.i64.wrap (KV : Int) = (KV : Int) := by rw [IntKind.wrap_i64]; omega
          have l2 : IntKind.i64.wrap (16 - (KV : Int)) = 16 - (KV : Int) := by rw [IntKind.wrap_i64]; omega
          have l3 : ((16 - KV : Nat) : Int) = 16 - (KV : Int) := by omega
          have L3 := Lib.hid l3
          clear hKV l3
          go_wp2
          go_ret3
          exact ⟨by rw [← HKV.out, L3.out]; rfl, rfl⟩
        · have yp : (0 : Int) < (Y : Int) := by omega
          obtain ⟨g, rfl⟩ : ∃ g, f = g + 1 := ⟨f - 1, by
            rcases Nat.eq_zero_or_pos f with h | h
            · subst h; simp at hY; omega
            · omega⟩
          rw [nd_step P g Y hy] at hk
          obtain ⟨Z, hZ⟩ : ∃ Z, Z = Y / P := ⟨_, rfl⟩
          have hZ2 : Z < 2 ^ g := by
            rw [hZ, Nat.div_lt_iff_lt_mul (by omega)]
            have h1 : 2 ^ g * 2 ≤ 2 ^ g * P := Nat.mul_le_mul_left _ hP2
            rw [Nat.pow_succ] at hY
            omega
          have z1 : (Y : Int) / (P : Int) = (Z : Int) := by rw [hZ]; simp
          have z2 : (Y : Int).tdiv (P : Int) = (Z : Int) := by rw [Int.tdiv_eq_ediv_of_nonneg (by omega)]; exact z1
          have z0 : ¬ Z > Y := by rw [hZ]; have := Nat.div_le_self Y P; omega
          have hY9 : Y < 2 ^ 20 := Nat.lt_of_lt_of_le hY (Nat.pow_le_pow_right (by omega) (by omega))
          have z3 : IntKind.i64.wrap (Z : Int) = (Z : Int) := by rw [IntKind.wrap_i64]; omega
          rw [← hZ] at hk
          have HK := Lib.hid hk
          have HF := Lib.hid hf
          have HZ2 := Lib.hid hZ2
          have k1 : k < 20 := by omega
          clear hZ hk hf hY hZ2 hY9
          go_wp2
          go_round
          case rel => exact ⟨k + 1, g, Z, by have := HK.out; omega, by have := HF.out; omega, HZ2.out, by go_num, rfl⟩
          case measure => simp [intOf]; omega
theorem rshape_none (n w : Int) (W : World) (h : okS n w = false) :
    Calls Tryd.prog 38 #[.int .i64 n, .int .i64 w] W fun e w' => e = .returned (.tuple #[.int .i64 0, .int .i64 0, .int .i64 0]) ∧ W = w' := by
  by_cases h1 : n < 1
  · have q1 : decide (n < 1) = true := by simpa using h1
    clear h
    go_enter Tryd.func38, Tryd.ntmps38
    go_wp2
    go_ret3
    exact ⟨rfl, rfl⟩
  · by_cases h2 : 64 < n
    · have q1 : decide (n < 1) = false := by simpa using h1
      have q2 : decide (64 < n) = true := by simpa using h2
      clear h
      go_enter Tryd.func38, Tryd.ntmps38
      go_wp2
      go_ret3
      exact ⟨rfl, rfl⟩
    · have q1 : decide (n < 1) = false := by simpa using h1
      have q2 : decide (64 < n) = false := by simpa using h2
      have hm : mayB w = false := by
        cases hc : mayB w with
        | false => rfl
        | true => simp [okS, hc] at h; omega
      have HM := Lib.hid (show ∀ X, Calls Tryd.prog 48 #[.int .i64 w] X fun e w' => e = .returned (.bool false) ∧ X = w' from fun X => by rw [← hm]; exact rmay_any w X)
      clear h hm
      go_enter Tryd.func38, Tryd.ntmps38
      go_wp2_with (go_at_call 48; ((with_reducible refine (HM.out _).mono ?_); rintro e w2 ⟨rfl, rfl⟩))
      go_ret3
      exact ⟨rfl, rfl⟩
theorem rshapeW (n w : Int) (W : World) :
    Calls Tryd.prog 38 #[.int .i64 n, .int .i64 w] W fun e w' => e = .returned (.tuple #[.int .i64 (((shW n w).1 : Nat) : Int), .int .i64 (((shW n w).2.1 : Nat) : Int), .int .i64 (((shW n w).2.2 : Nat) : Int)]) ∧ W = w' := by
  cases hc : okS n w with
  | false =>
    rw [shW, hc, if_neg (by simp)]
    exact rshape_none n w W hc
  | true =>
    obtain ⟨m, v, rfl, rfl, h0, h1, hv⟩ := okS_of hc
    rw [shW, hc, if_pos rfl, Int.toNat_natCast, Int.toNat_natCast]
    exact rshape_any m v W h0 h1 hv
end Go.Proofs.YtccnbepccajdoaaDoor.S7
