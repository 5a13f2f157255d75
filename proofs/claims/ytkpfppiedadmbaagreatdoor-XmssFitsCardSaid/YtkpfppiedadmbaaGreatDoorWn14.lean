/-
  Texts put together: DigS, DigR, DigR2, DigR3, DigR4. No statement is proved here.
-/
import Derived.Test.YtkpfppiedadmbaaGreatDoorWn13
import Derived.RegionTactic
import Derived.Deep.Draws
import Derived.Deep.RegionHeld3

/-
  What the document's own May and Shape of layer 7 do. No statement is proved here.
-/
namespace Go.Proofs.YtkpfppiedadmbaaGreatDoor.S7
set_option linter.unusedSimpArgs false
set_option linter.unusedVariables false
set_option maxRecDepth 1024
open Go.RowKit

theorem rmay_any (w : Int) (W : World) : Calls Tryz.prog 115 #[.int .i64 w] W fun e w' => e = .returned (.bool (mayB w)) ∧ W = w' := by
  by_cases h1 : w = 1
  · subst h1
    go_enter Tryz.func115, Tryz.ntmps115
    go_wp2
    go_ret
    exact ⟨rfl, rfl⟩
  · by_cases h2 : w = 2
    · subst h2
      go_enter Tryz.func115, Tryz.ntmps115
      go_wp2
      go_ret
      exact ⟨rfl, rfl⟩
    · by_cases h4 : w = 4
      · subst h4
        go_enter Tryz.func115, Tryz.ntmps115
        go_wp2
        go_ret
        exact ⟨rfl, rfl⟩
      · have q1 : (w == 1) = false := by simpa using h1
        have q2 : (w == 2) = false := by simpa using h2
        have q4 : (w == 4) = false := by simpa using h4
        have e : mayB w = (w == 8) := by simp [mayB, q1, q2, q4]
        rw [e]
        clear e
        go_enter Tryz.func115, Tryz.ntmps115
        go_wp2
        go_ret
        exact ⟨rfl, rfl⟩
set_option maxHeartbeats 2000000 in
theorem rshape_any (n v : Nat) (W : World) (h0 : 1 ≤ n) (h1 : n ≤ 64) (hv : wid v) :
    Calls Tryz.prog 92 #[.int .i64 (n : Int), .int .i64 (v : Int)] W fun e w' => e = .returned (.tuple #[.int .i64 ((shU n v : Nat) : Int), .int .i64 ((shV n v : Nat) : Int), .int .i64 ((shL n v : Nat) : Int)]) ∧ W = w' := by
  have HM := Lib.hid (show ∀ X, Calls Tryz.prog 115 #[.int .i64 (v : Int)] X fun e w' => e = .returned (.bool true) ∧ X = w' from fun X => by rw [← may_wid hv]; exact rmay_any v X)
  obtain ⟨h8, hv1, hv8⟩ := wid_div hv
  obtain ⟨f1, f2, f3, f4, _⟩ := shape_facts n v hv h0 h1
  obtain ⟨U, hU⟩ : ∃ U, U = shU n v := ⟨_, rfl⟩
  obtain ⟨V, hV⟩ : ∃ V, V = shV n v := ⟨_, rfl⟩
  have hUb : U ≤ 512 := by
    have : n * (8 / v) ≤ n * 8 := Nat.mul_le_mul_left _ (Nat.div_le_self _ _)
    omega
  have hVL : shL n v = 16 - V * v := by rw [hV]; rfl
  have hV16 : V * v ≤ 16 := by rw [hV, Nat.mul_comm]; exact f2
  have hVd : V = nd (2 ^ v) 20 ((2 ^ v - 1) * U) := by rw [hV, hU]; rfl
  have HVD := Lib.hid hVd
  have HVL := Lib.hid hVL
  have u1 : (8 * (n : Int)) / (v : Int) = (U : Int) := by rw [hU]; unfold shU; simp
  have u2 : (8 * (n : Int)).tdiv (v : Int) = (U : Int) := by rw [Int.tdiv_eq_ediv_of_nonneg (by omega)]; exact u1
  rw [← hU, ← hV, HVL.out]
  clear hU hV hVL hVd hv h8 f1 f2 f3 f4
  have q1 : decide ((n : Int) < 1) = false := by simp; omega
  have q2 : decide (64 < (n : Int)) = false := by simp; omega
  have vz : ¬ (v : Int) = 0 := by omega
  have e8 : IntKind.i64.wrap (8 * (n : Int)) = 8 * (n : Int) := by rw [IntKind.wrap_i64]; omega
  have eU : IntKind.i64.wrap (U : Int) = (U : Int) := by rw [IntKind.wrap_i64]; omega
  go_enter Tryz.func92, Tryz.ntmps92
  go_wp2_with (go_at_call 115; ((with_reducible refine (HM.out _).mono ?_); rintro e w2 ⟨rfl, rfl⟩))
  clear q1 q2
  go_loop [7, 8] (fun m i => ∃ j : Nat, j ≤ v ∧ i = .int .i64 (j : Int) ∧ m = .int .i64 ((2 ^ j : Nat) : Int)) (fun _ i => v - (intOf i).toNat)
  case atStart => exact ⟨0, by omega, rfl, rfl⟩
  case round =>
    obtain ⟨j, hj, rfl, rfl⟩ := hrel
    have hp := pow_lt9 (Nat.le_trans hj hv8)
    by_cases hlt : j < v
    · have i0 : (j : Int) < (v : Int) := by omega
      obtain ⟨P, hP⟩ : ∃ P, P = 2 ^ j := ⟨_, rfl⟩
      have HP := Lib.hid (show 2 ^ (j + 1) = 2 * P by rw [hP, Nat.pow_succ, Nat.mul_comm])
      rw [← hP] at hp ⊢
      clear hP
      go_wp2
      go_round
      case rel => exact ⟨j + 1, by omega, by go_num, by rw [HP.out]; go_num⟩
      case measure => simp [intOf]; omega
    · obtain rfl : j = v := by omega
      have i0 : ¬ (j : Int) < (j : Int) := by omega
      obtain ⟨P, hP⟩ : ∃ P, P = 2 ^ j := ⟨_, rfl⟩
      have hP2 : 2 ≤ P := by
        have : 2 ^ 1 ≤ 2 ^ j := Nat.pow_le_pow_right (by omega) hv1
        omega
      have HVP := Lib.hid (show V = nd P 20 ((P - 1) * U) by rw [hP]; exact HVD.out)
      obtain ⟨X, hX⟩ : ∃ X, X = (P - 1) * U := ⟨_, rfl⟩
      have hXb : X ≤ 255 * 512 := by rw [hX]; exact Nat.mul_le_mul (by omega) hUb
      have HVX := Lib.hid (show V = nd P 20 X by rw [hX]; exact HVP.out)
      have x1 : ((P : Int) - 1) * (U : Int) = (X : Int) := by
        rw [hX, Int.natCast_mul, Int.natCast_sub (by omega)]
        rfl
      have x2 : IntKind.i64.wrap ((P : Int) - 1) = (P : Int) - 1 := by rw [IntKind.wrap_i64]; omega
      have x3 : IntKind.i64.wrap (X : Int) = (X : Int) := by rw [IntKind.wrap_i64]; omega
      have pz : ¬ (P : Int) = 0 := by omega
      rw [← hP] at hp ⊢
      clear hP hX
      go_wp2
      go_loop [10, 11] (fun s x => ∃ k f Y : Nat, k + nd P f Y = V ∧ k + f = 20 ∧ Y < 2 ^ f ∧ s = .int .i64 (k : Int) ∧ x = .int .i64 (Y : Int)) (fun s _ => 20 - (intOf s).toNat)
      case atStart => exact ⟨0, 20, X, by rw [Nat.zero_add]; exact HVX.out.symm, rfl, by omega, rfl, rfl⟩
      case round =>
        obtain ⟨k, f, Y, hk, hf, hY, rfl, rfl⟩ := hrel
        by_cases hy : Y = 0
        · subst hy
          rw [nd_zero, Nat.add_zero] at hk
          subst hk
          have y0 : ¬ (0 : Int) < ((0 : Nat) : Int) := by simp
          have kv : (k : Int) * (j : Int) = ((k * j : Nat) : Int) := by simp
          obtain ⟨KV, hKV⟩ : ∃ KV, KV = k * j := ⟨_, rfl⟩
          rw [← hKV] at kv hV16
          have HKV := Lib.hid hKV
          have l1 : IntKind.i64.wrap (KV : Int) = (KV : Int) := by rw [IntKind.wrap_i64]; omega
          have l2 : IntKind.i64.wrap (16 - (KV : Int)) = 16 - (KV : Int) := by rw [IntKind.wrap_i64]; omega
          have l3 : ((16 - KV : Nat) : Int) = 16 - (KV : Int) := by omega
          have L3 := Lib.hid l3
          clear hKV l3
          go_wp2
          go_ret3
          exact ⟨by rw [← HKV.out, L3.out]; rfl, rfl⟩
        · have yp : (0 : Int) < (Y : Int) := by omega
          obtain ⟨g, rfl⟩ : ∃ g, f = g + 1 := ⟨f - 1, by
            rcases Nat.eq_zero_or_pos f with h | h
            · subst h; simp at hY; omega
            · omega⟩
          rw [nd_step P g Y hy] at hk
          obtain ⟨Z, hZ⟩ : ∃ Z, Z = Y / P := ⟨_, rfl⟩
          have hZ2 : Z < 2 ^ g := by
            rw [hZ, Nat.div_lt_iff_lt_mul (by omega)]
            have h1 : 2 ^ g * 2 ≤ 2 ^ g * P := Nat.mul_le_mul_left _ hP2
            rw [Nat.pow_succ] at hY
            omega
          have z1 : (Y : Int) / (P : Int) = (Z : Int) := by rw [hZ]; simp
          have z2 : (Y : Int).tdiv (P : Int) = (Z : Int) := by rw [Int.tdiv_eq_ediv_of_nonneg (by omega)]; exact z1
          have z0 : ¬ Z > Y := by rw [hZ]; have := Nat.div_le_self Y P; omega
          have hY9 : Y < 2 ^ 20 := Nat.lt_of_lt_of_le hY (Nat.pow_le_pow_right (by omega) (by omega))
          have z3 : IntKind.i64.wrap (Z : Int) = (Z : Int) := by rw [IntKind.wrap_i64]; omega
          rw [← hZ] at hk
          have HK := Lib.hid hk
          have HF := Lib.hid hf
          have HZ2 := Lib.hid hZ2
          have k1 : k < 20 := by omega
          clear hZ hk hf hY hZ2 hY9
          go_wp2
          go_round
          case rel => exact ⟨k + 1, g, Z, by have := HK.out; omega, by have := HF.out; omega, HZ2.out, by go_num, rfl⟩
          case measure => simp [intOf]; omega
theorem rshape_none (n w : Int) (W : World) (h : okS n w = false) :
    Calls Tryz.prog 92 #[.int .i64 n, .int .i64 w] W fun e w' => e = .returned (.tuple #[.int .i64 0, .int .i64 0, .int .i64 0]) ∧ W = w' := by
  by_cases h1 : n < 1
  · have q1 : decide (n < 1) = true := by simpa using h1
    clear h
    go_enter Tryz.func92, Tryz.ntmps92
    go_wp2
    go_ret3
    exact ⟨rfl, rfl⟩
  · by_cases h2 : 64 < n
    · have q1 : decide (n < 1) = false := by simpa using h1
      have q2 : decide (64 < n) = true := by simpa using h2
      clear h
      go_enter Tryz.func92, Tryz.ntmps92
      go_wp2
      go_ret3
      exact ⟨rfl, rfl⟩
    · have q1 : decide (n < 1) = false := by simpa using h1
      have q2 : decide (64 < n) = false := by simpa using h2
      have hm : mayB w = false := by
        cases hc : mayB w with
        | false => rfl
        | true => simp [okS, hc] at h; omega
      have HM := Lib.hid (show ∀ X, Calls Tryz.prog 115 #[.int .i64 w] X fun e w' => e = .returned (.bool false) ∧ X = w' from fun X => by rw [← hm]; exact rmay_any w X)
      clear h hm
      go_enter Tryz.func92, Tryz.ntmps92
      go_wp2_with (go_at_call 115; ((with_reducible refine (HM.out _).mono ?_); rintro e w2 ⟨rfl, rfl⟩))
      go_ret3
      exact ⟨rfl, rfl⟩
theorem rshapeW (n w : Int) (W : World) :
    Calls Tryz.prog 92 #[.int .i64 n, .int .i64 w] W fun e w' => e = .returned (.tuple #[.int .i64 (((shW n w).1 : Nat) : Int), .int .i64 (((shW n w).2.1 : Nat) : Int), .int .i64 (((shW n w).2.2 : Nat) : Int)]) ∧ W = w' := by
  cases hc : okS n w with
  | false =>
    rw [shW, hc, if_neg (by simp)]
    exact rshape_none n w W hc
  | true =>
    obtain ⟨m, v, rfl, rfl, h0, h1, hv⟩ := okS_of hc
    rw [shW, hc, if_pos rfl, Int.toNat_natCast, Int.toNat_natCast]
    exact rshape_any m v W h0 h1 hv
end Go.Proofs.YtkpfppiedadmbaaGreatDoor.S7

/-
  What the document's own Of of layer 7 does. No statement is proved here.
-/
namespace Go.Proofs.YtkpfppiedadmbaaGreatDoor.S7
set_option linter.unusedSimpArgs false
set_option linter.unusedVariables false
set_option maxRecDepth 1024
open Go.RowKit

set_option maxHeartbeats 2000000 in
theorem rof_none (A : Option Addr) (n c : Nat) (w : Int) (W : World) (hw : mayB w = false) :
    Calls Tryz.prog 94 #[.slice A n c, .int .i64 w] W fun e w' => e = .returned (.slice none 0 0) ∧ W = w' := by
  have HM := Lib.hid (show ∀ X, Calls Tryz.prog 115 #[.int .i64 w] X fun e w' => e = .returned (.bool false) ∧ X = w' from fun X => by rw [← hw]; exact rmay_any w X)
  clear hw
  go_enter Tryz.func94, Tryz.ntmps94
  go_wp2_with (go_at_call 115; ((with_reducible refine (HM.out _).mono ?_); rintro e w1 ⟨rfl, rfl⟩))
  go_ret
  exact ⟨rfl, rfl⟩
set_option maxHeartbeats 4000000 in
theorem rof_any (A : Option Addr) (n c : Nat) (xs : List UInt8) (v : Nat) (W : World) (hr : Rd W A n c xs) (hv : wid v) (hm : n ≤ 1000000) :
    Calls Tryz.prog 94 #[.slice A n c, .int .i64 (v : Int)] W (NewI W.heap.size W (ofL v xs)) := by
  have HM := Lib.hid (show ∀ X, Calls Tryz.prog 115 #[.int .i64 (v : Int)] X fun e w' => e = .returned (.bool true) ∧ X = w' from fun X => by rw [← may_wid hv]; exact rmay_any v X)
  have HV := Lib.hid hv
  have HR := Lib.hid hr
  have HL := Lib.hid hr.len
  obtain ⟨h8, hv1, hv8⟩ := wid_div hv
  have H8 := Lib.hid h8
  clear hv hr
  have e8 : IntKind.i64.wrap (8 * (n : Int)) = 8 * (n : Int) := by rw [IntKind.wrap_i64]; omega
  clear h8
  go_enter Tryz.func94, Tryz.ntmps94
  go_wp2_with (go_at_call 115; ((with_reducible refine (HM.out _).mono ?_); rintro e w1 ⟨rfl, rfl⟩))
  go_loopw [5, 6, 7, 8, 9] (fun out at_ _ _ _ wr => ∃ k a : Nat, k ≤ n * (8 / v) ∧ a = v * k ∧ at_ = .int .i64 (a : Int) ∧ wr.ownsRow W.heap.size 3 1 out k (iv ((ofL v xs).take k)) ∧ Below W.heap.size W wr) (fun _ at_ _ _ _ _ => 8 * n - (intOf at_).toNat)
  case atStart => exact ⟨0, 0, by omega, by simp, rfl, own_nili _ _, Below.refl _ _⟩
  case round =>
    obtain ⟨k, a, hk, ha, rfl, own, hB⟩ := hrel
    have h8n : v * (n * (8 / v)) = 8 * n := by rw [Nat.mul_left_comm, H8.out, Nat.mul_comm]
    by_cases hlt : a < 8 * n
    · have i0 : (a : Int) < 8 * (n : Int) := by omega
      have hkl : k < n * (8 / v) := by
        apply Classical.byContradiction
        intro hh
        have : v * (n * (8 / v)) ≤ v * k := Nat.mul_le_mul_left _ (by omega)
        omega
      obtain ⟨q, hq⟩ : ∃ q, q = a / 8 := ⟨_, rfl⟩
      obtain ⟨o, ho⟩ : ∃ o, o = a % 8 := ⟨_, rfl⟩
      have hao : a = 8 * q + o := by omega
      have ho8 : o + v ≤ 8 := by
        have hd : a % v = 0 := by rw [ha]; exact Nat.mul_mod_right v k
        rcases HV.out with h | h | h | h <;> subst h <;> omega
      have hov : o % v = 0 := by
        have hd : a % v = 0 := by rw [ha]; exact Nat.mul_mod_right v k
        rcases HV.out with h | h | h | h <;> subst h <;> omega
      have hqn : q < n := by omega
      obtain ⟨x, hx⟩ : ∃ x, x = (xs.getD q 0).toNat := ⟨_, rfl⟩
      have hx256 : x < 256 := by rw [hx]; exact UInt8.toNat_lt _
      have HT := Lib.hid (show (ofL v xs).take (k + 1) = (ofL v xs).take k ++ [x / 2 ^ (8 - o - v) % 2 ^ v] by
        rw [ofL_take v HV.out xs k (by rw [HL.out]; exact hkl), ← ha, ← hq, ← ho, ← hx, bit_all v x o HV.out hov (by omega)])
      have hr := HR.out.below hB
      obtain ⟨b, off, rfl, hbk, hcell⟩ := hr.at_ (by omega)
      have hc := hcell q hqn
      rw [← hx] at hc
      have HA := Lib.hid ha
      have HO := Lib.hid own
      have HBB := Lib.hid hB
      have HAO := Lib.hid hao
      clear hcell hx hq ho ha hov h8n own hB hr hao
      go_wp2
      go_loop [7, 8, 9] (fun d i _ => ∃ j : Nat, j ≤ v ∧ i = .int .i64 (j : Int) ∧ d = .int .i64 ((x / 2 ^ (8 - o - j) % 2 ^ j : Nat) : Int)) (fun _ i _ => v - (intOf i).toNat)
      case atStart => exact ⟨0, by omega, rfl, by simp [Nat.mod_one]⟩
      case round =>
        obtain ⟨j, hj, rfl, rfl⟩ := hrel
        by_cases hlt2 : j < v
        · have i1 : (j : Int) < (v : Int) := by omega
          obtain ⟨D, hD⟩ : ∃ D, D = x / 2 ^ (8 - o - j) % 2 ^ j := ⟨_, rfl⟩
          have hD2 : D < 256 := by
            have h1 : D < 2 ^ j := by rw [hD]; exact Nat.mod_lt _ (Nat.two_pow_pos _)
            have h2 : 2 ^ j ≤ 2 ^ 8 := Nat.pow_le_pow_right (by omega) (by omega)
            omega
          obtain ⟨S, hS⟩ : ∃ S, S = 7 - (o + j) := ⟨_, rfl⟩
          obtain ⟨Y, hY⟩ : ∃ Y, Y = x / 2 ^ S := ⟨_, rfl⟩
          have hYx : Y ≤ x := by rw [hY]; exact Nat.div_le_self _ _
          have HN := Lib.hid (show x / 2 ^ (8 - o - (j + 1)) % 2 ^ (j + 1) = D * 2 + Y % 2 by rw [hD, hY, hS, bit_step x o j (by omega)])
          rw [← hD]
          have hao := HAO.out
          have f1 : IntKind.i64.wrap ((a : Int) + (j : Int)) = (a : Int) + (j : Int) := by rw [IntKind.wrap_i64]; omega
          have f2 : ((a : Int) + (j : Int)) / 8 = (q : Int) := by omega
          have f2' : ((a : Int) + (j : Int)).tdiv 8 = (q : Int) := by rw [Int.tdiv_eq_ediv_of_nonneg (by omega)]; exact f2
          have f3 : ((a : Int) + (j : Int)) % 8 = (o : Int) + (j : Int) := by omega
          have f3' : ((a : Int) + (j : Int)).tmod 8 = (o : Int) + (j : Int) := by rw [Int.tmod_eq_emod_of_nonneg (by omega)]; exact f3
          have f4 : IntKind.i64.wrap (7 - ((o : Int) + (j : Int))) = (S : Int) := by rw [IntKind.wrap_i64]; omega
          have f4' : (7 : Int) - ((o : Int) + (j : Int)) = (S : Int) := by omega
          have f5 : (x : Int) / 2 ^ S = (Y : Int) := by rw [hY]; simp
          have HQ := Lib.hid hqn
          clear hD hS hY hao
          go_wp2
          go_round
          case rel => exact ⟨j + 1, by omega, by go_num, by rw [HN.out]; go_num⟩
          case measure => simp [intOf]; omega
        · obtain rfl : j = v := by omega
          have i1 : ¬ (j : Int) < (j : Int) := by omega
          obtain ⟨D, hD⟩ : ∃ D, D = x / 2 ^ (8 - o - j) % 2 ^ j := ⟨_, rfl⟩
          have HT2 := Lib.hid (show (ofL j xs).take (k + 1) = (ofL j xs).take k ++ [D] by rw [hD]; exact HT.out)
          rw [← hD]
          have g1 : IntKind.i64.wrap ((a : Int) + (j : Int)) = (a : Int) + (j : Int) := by rw [IntKind.wrap_i64]; omega
          have hl := Lib.hid (ri_lit wr #[.int .i64 (D : Int)] [D] rfl (by simp [maxLen]) _ rfl)
          have HAJ := Lib.hid (show a + j = j * (k + 1) by rw [HA.out, Nat.mul_succ])
          have hk1 : k + 1 ≤ n * (8 / j) := by omega
          have hkb : k ≤ 8000000 := by
            have h1 : n * (8 / j) ≤ n * 8 := Nat.mul_le_mul_left _ (Nat.div_le_self _ _)
            omega
          clear hD
          go_wp2_with (at_builtin; refine append_ri rfl (.tmp 46) (.tmp 48) rfl W.heap.size _ k _ rfl (own_alloc HO.out _) _ 1 1 [D] rfl hl.out (by omega) (by have := HBB.out.size; simp; omega) ?_; intro v1 w2 o1 g2; have O1 := Lib.hid o1; have B1 := Lib.hid ((HBB.out.alloc HBB.out.size _).grown g2 (by have := HBB.out.size; simp; omega) (fun g hg => (HO.out.lt g hg).1)); clear o1 g2)
          go_roundw
          case rel => exact ⟨k + 1, a + j, hk1, HAJ.out, by go_num, by rw [HT2.out]; exact O1.out, B1.out⟩
          case measure => simp [intOf]; omega
    · have i0 : ¬ (a : Int) < 8 * (n : Int) := by omega
      have hkn : n * (8 / v) ≤ k := by
        apply Nat.le_of_mul_le_mul_left (c := v) _ (by omega)
        rw [h8n, ← ha]
        omega
      have hf : (ofL v xs).take k = ofL v xs := List.take_of_length_le (by rw [ofL_length, HL.out]; exact hkn)
      rw [hf] at own
      clear ha hf h8n
      go_wp2
      go_ret
      exact NewI.mk own hB
end Go.Proofs.YtkpfppiedadmbaaGreatDoor.S7

/-
  What the document's own calls of layer 7 do, on: Ints, Lack. No statement is proved here.
-/
namespace Go.Proofs.YtkpfppiedadmbaaGreatDoor.S7
set_option linter.unusedSimpArgs false
set_option linter.unusedVariables false
set_option maxRecDepth 1024
open Go.RowKit

theorem lk_next (w : Nat) (xs : List Nat) (j d : Nat) (h : xs[j]? = some d) : lk w (xs.take (j + 1)) = lk w (xs.take j) + (2 ^ w - 1 - d) := by
  rw [List.take_add_one, h, lk_append]
  simp [lk]
set_option maxHeartbeats 2000000 in
theorem rlack_any (A : Option Addr) (n c : Nat) (xs : List UInt8) (v : Nat) (W : World) (hr : Rd W A n c xs) (hv : wid v) (hm : n ≤ 1000000) :
    Calls Tryz.prog 93 #[.slice A n c, .int .i64 (v : Int)] W fun e w' => e = .returned (.int .i64 ((lk v (ofL v xs) : Nat) : Int)) ∧ Below W.heap.size W w' := by
  have HM := Lib.hid (show ∀ X, Calls Tryz.prog 115 #[.int .i64 (v : Int)] X fun e w' => e = .returned (.bool true) ∧ X = w' from fun X => by rw [← may_wid hv]; exact rmay_any v X)
  obtain ⟨ds, hds⟩ : ∃ ds, ds = ofL v xs := ⟨_, rfl⟩
  have HO := Lib.hid (show Calls Tryz.prog 94 #[.slice A n c, .int .i64 (v : Int)] W (NewI W.heap.size W ds) by rw [hds]; exact rof_any A n c xs v W hr hv hm)
  have HB := Lib.hid (show ∀ d ∈ ds, d < 2 ^ v by rw [hds]; exact ofL_lt v xs)
  obtain ⟨h8, hv1, hv8⟩ := wid_div hv
  obtain ⟨T, hT⟩ : ∃ T, T = ds.length := ⟨_, rfl⟩
  have HT := Lib.hid hT
  have hT8 : T ≤ 8000000 := by
    have h1 : ds.length = n * (8 / v) := by rw [hds, ofL_length, hr.len]
    have h2 : n * (8 / v) ≤ n * 8 := Nat.mul_le_mul_left _ (Nat.div_le_self _ _)
    omega
  rw [← hds]
  clear hv hr h8 hds hT
  go_enter Tryz.func93, Tryz.ntmps93
  go_wp2_with (go_at_call 94; ((with_reducible refine HO.out.mono ?_); intro e w1 h1; obtain ⟨A1, c1, rfl, r1, _, b1⟩ := newi_len h1; rw [← HT.out] at r1; rw [← HT.out]; have R1 := Lib.hid r1; have B1 := Lib.hid b1; clear h1 r1 b1))
  go_loopw [6, 7] (fun m i wr => ∃ j : Nat, j ≤ v ∧ i = .int .i64 (j : Int) ∧ m = .int .i64 ((2 ^ j : Nat) : Int) ∧ wr = w1) (fun _ i _ => v - (intOf i).toNat)
  case atStart => exact ⟨0, by omega, rfl, rfl, rfl⟩
  case round =>
    obtain ⟨j, hj, rfl, rfl, rfl⟩ := hrel
    have hp := pow_lt9 (Nat.le_trans hj hv8)
    by_cases hlt : j < v
    · have i0 : (j : Int) < (v : Int) := by omega
      have q0 : decide ((j : Int) < (v : Int)) = true := by simpa using hlt
      obtain ⟨P, hP⟩ : ∃ P, P = 2 ^ j := ⟨_, rfl⟩
      have HP := Lib.hid (show 2 ^ (j + 1) = 2 * P by rw [hP, Nat.pow_succ, Nat.mul_comm])
      rw [← hP] at hp ⊢
      clear hP
      go_wp2_with (go_at_call 115; ((with_reducible refine (HM.out _).mono ?_); rintro e w2 ⟨rfl, rfl⟩))
      go_roundw
      case rel => exact ⟨j + 1, by omega, by go_num, by rw [HP.out]; go_num, by first | trivial | rfl⟩
      case measure => simp [intOf]; omega
    · obtain rfl : j = v := by omega
      have i0 : ¬ (j : Int) < (j : Int) := by omega
      obtain ⟨P, hP⟩ : ∃ P, P = 2 ^ j := ⟨_, rfl⟩
      have HPP := Lib.hid hP
      have hP1 : 1 ≤ P := by rw [hP]; exact Nat.two_pow_pos _
      rw [← hP] at hp ⊢
      clear hP
      go_wp2
      obtain ⟨wo, rfl⟩ : ∃ wo : World, wo = wr := ⟨_, rfl⟩
      go_loop [8, 9] (fun s i => ∃ k : Nat, k ≤ T ∧ i = .int .i64 (k : Int) ∧ s = .int .i64 ((lk j (ds.take k) : Nat) : Int)) (fun _ i => T - (intOf i).toNat)
      case atStart => exact ⟨0, by omega, rfl, by simp [lk]⟩
      case round =>
        obtain ⟨k, hk, rfl, rfl⟩ := hrel
        by_cases hlt2 : k < T
        · have i1 : (k : Int) < (T : Int) := by omega
          obtain ⟨b, off, rfl, hb, hcell⟩ := R1.out.at_ (by omega)
          have hc := hcell k hlt2
          obtain ⟨d, hd⟩ : ∃ d, d = ds.getD k 0 := ⟨_, rfl⟩
          rw [← hd] at hc
          have hk2 : k < ds.length := by rw [← HT.out]; exact hlt2
          have hdk : ds[k]? = some d := by rw [hd]; simp [List.getD, hk2]
          have hdp : d < P := by rw [HPP.out]; exact HB.out d (List.mem_of_getElem? hdk)
          obtain ⟨L, hL⟩ : ∃ L, L = lk j (ds.take k) := ⟨_, rfl⟩
          have hLb : L ≤ 256 * T := by
            have h1 := lk_le j (ds.take k)
            have h2 : (ds.take k).length ≤ T := by rw [List.length_take, ← HT.out]; omega
            have h3 : (2 ^ j - 1) * (ds.take k).length ≤ 256 * T := Nat.mul_le_mul (by rw [← HPP.out]; omega) h2
            omega
          have HN := Lib.hid (show lk j (ds.take (k + 1)) = L + (P - 1 - d) by rw [hL, HPP.out]; exact lk_next j ds k d hdk)
          rw [← hL]
          have f1 : IntKind.i64.wrap ((L : Int) + (P : Int)) = (L : Int) + (P : Int) := by rw [IntKind.wrap_i64]; omega
          have f2 : IntKind.i64.wrap ((L : Int) + (P : Int) - 1) = (L : Int) + (P : Int) - 1 := by rw [IntKind.wrap_i64]; omega
          have f3 : IntKind.i64.wrap ((L : Int) + (P : Int) - 1 - (d : Int)) = (L : Int) + (P : Int) - 1 - (d : Int) := by rw [IntKind.wrap_i64]; omega
          have f4 : ((L + (P - 1 - d) : Nat) : Int) = (L : Int) + (P : Int) - 1 - (d : Int) := by omega
          have F4 := Lib.hid f4
          clear hcell hd hdk hL f4
          go_wp2
          go_round
          case rel => exact ⟨k + 1, by omega, by go_num, by rw [HN.out, F4.out]⟩
          case measure => simp [intOf]; omega
        · obtain rfl : k = T := by omega
          have i1 : ¬ (k : Int) < (k : Int) := by omega
          have ht : ds.take k = ds := List.take_of_length_le (by rw [← HT.out]; exact Nat.le_refl _)
          rw [ht]
          obtain ⟨L, hL⟩ : ∃ L, L = lk j ds := ⟨_, rfl⟩
          rw [← hL]
          have HLL := Lib.hid hL
          clear ht hL
          go_wp2
          go_ret
          exact ⟨by rw [← HLL.out]; rfl, B1.out⟩
end Go.Proofs.YtkpfppiedadmbaaGreatDoor.S7

/-
  What the document's own calls of layer 7 do, on: Lack of no width. No statement is proved here.
-/
namespace Go.Proofs.YtkpfppiedadmbaaGreatDoor.S7
set_option linter.unusedSimpArgs false
set_option linter.unusedVariables false
set_option maxRecDepth 1024
open Go.RowKit

theorem rlack_none (A : Option Addr) (n c : Nat) (w : Int) (W : World) (hw : mayB w = false) :
    Calls Tryz.prog 93 #[.slice A n c, .int .i64 w] W fun e w' => e = .returned (.int .i64 0) ∧ W = w' := by
  have HM := Lib.hid (show ∀ X, Calls Tryz.prog 115 #[.int .i64 w] X fun e w' => e = .returned (.bool false) ∧ X = w' from fun X => by rw [← hw]; exact rmay_any w X)
  have HO := Lib.hid (rof_none A n c w W hw)
  clear hw
  by_cases h0 : 0 < w
  · have q0 : decide (0 < w) = true := by simpa using h0
    go_enter Tryz.func93, Tryz.ntmps93
    go_wp2_with (go_at_call 94; ((with_reducible refine HO.out.mono ?_); rintro e w1 ⟨rfl, rfl⟩))
    go_loopw [6, 7] (fun m i wr => i = .int .i64 0 ∧ wr = W) (fun _ _ _ => 0)
    case atStart => exact ⟨rfl, rfl⟩
    case round =>
      obtain ⟨rfl, rfl⟩ := hrel
      go_wp2_with (go_at_call 115; ((with_reducible refine (HM.out _).mono ?_); rintro e w2 ⟨rfl, rfl⟩))
      obtain ⟨wo, rfl⟩ : ∃ wo : World, wo = wr := ⟨_, rfl⟩
      go_loop [8, 9] (fun s i => i = .int .i64 0 ∧ s = .int .i64 0) (fun _ _ => 0)
      case atStart => exact ⟨rfl, rfl⟩
      case round =>
        obtain ⟨rfl, rfl⟩ := hrel
        go_wp2
        go_ret
        exact ⟨rfl, rfl⟩
  · have q0 : decide (0 < w) = false := by simpa using h0
    go_enter Tryz.func93, Tryz.ntmps93
    go_wp2_with (go_at_call 94; ((with_reducible refine HO.out.mono ?_); rintro e w1 ⟨rfl, rfl⟩))
    go_loopw [6, 7] (fun m i wr => i = .int .i64 0 ∧ wr = W) (fun _ _ _ => 0)
    case atStart => exact ⟨rfl, rfl⟩
    case round =>
      obtain ⟨rfl, rfl⟩ := hrel
      go_wp2
      obtain ⟨wo, rfl⟩ : ∃ wo : World, wo = wr := ⟨_, rfl⟩
      go_loop [8, 9] (fun s i => i = .int .i64 0 ∧ s = .int .i64 0) (fun _ _ => 0)
      case atStart => exact ⟨rfl, rfl⟩
      case round =>
        obtain ⟨rfl, rfl⟩ := hrel
        go_wp2
        go_ret
        exact ⟨rfl, rfl⟩
end Go.Proofs.YtkpfppiedadmbaaGreatDoor.S7

/-
  What the document's own calls of layer 7 do, on: All. No statement is proved here.
-/
namespace Go.Proofs.YtkpfppiedadmbaaGreatDoor.S7
set_option linter.unusedSimpArgs false
set_option linter.unusedVariables false
set_option maxRecDepth 1024
open Go.RowKit

theorem rall_none (A : Option Addr) (n c : Nat) (w : Int) (W : World) (h : okS n w = false) (hm : n ≤ maxLen) :
    Calls Tryz.prog 67 #[.slice A n c, .int .i64 w] W fun e w' => e = .returned (.slice none 0 0) ∧ W = w' := by
  have HS := Lib.hid (fun X => rshape_none n w X h)
  unfold maxLen at hm
  clear h
  go_enter Tryz.func67, Tryz.ntmps67
  go_wp2_with (go_at_call 92; ((with_reducible refine (HS.out _).mono ?_); rintro e w2 ⟨rfl, rfl⟩))
  go_ret
  exact ⟨rfl, rfl⟩
set_option maxHeartbeats 2000000 in
theorem rall_any (A : Option Addr) (n c : Nat) (xs : List UInt8) (v : Nat) (W : World) (hr : Rd W A n c xs) (hv : wid v) (h0 : 1 ≤ n) (h1 : n ≤ 64) :
    Calls Tryz.prog 67 #[.slice A n c, .int .i64 (v : Int)] W (NewI W.heap.size W (allL v xs)) := by
  have hl := hr.len
  obtain ⟨k1, k2, k3⟩ := lack_val v hv xs (by omega) (by omega)
  have hS := fun X => rshape_any n v X h0 h1 hv
  have HLK := Lib.hid (fun X h => rlack_any A n c xs v X h hv (by omega))
  have HOF := Lib.hid (fun X h => rof_any A n c xs v X h hv (by omega))
  obtain ⟨_, _, f3, f4, _⟩ := shape_facts n v hv h0 h1
  have hw8 := wid_div hv
  obtain ⟨U, hU⟩ : ∃ U, U = shU n v := ⟨_, rfl⟩
  obtain ⟨V, hV⟩ : ∃ V, V = shV n v := ⟨_, rfl⟩
  obtain ⟨L, hL⟩ : ∃ L, L = shL n v := ⟨_, rfl⟩
  obtain ⟨X0, hX0⟩ : ∃ X0, X0 = lk v (ofL v xs) := ⟨_, rfl⟩
  have hU1 : 1 ≤ U := by
    rw [hU, f4]
    have : 1 ≤ 8 / v := by rcases hv with h | h | h | h <;> subst h <;> decide
    exact Nat.le_trans this (Nat.le_mul_of_pos_left _ h0)
  obtain ⟨N, hN⟩ : ∃ N, N = X0 * 2 ^ L := ⟨_, rfl⟩
  have hN6 : N < 65536 := by rw [hN, hX0, hL, ← hl]; exact k1
  have HAL := Lib.hid (show allL v xs = ofL v xs ++ (ofL v [UInt8.ofNat (N / 256), UInt8.ofNat N]).take V by rw [allL, hN, hX0, hV, hL, hl])
  have HO2 := Lib.hid (fun X B d (h : Rd X B 2 d [UInt8.ofNat (N / 256), UInt8.ofNat N]) => rof_any B 2 d _ v X h hv (by omega))
  have HL2 := Lib.hid (show V ≤ (ofL v [UInt8.ofNat (N / 256), UInt8.ofNat N]).length by
    rw [ofL_length, hV, ← hl]
    refine Nat.le_trans k3 ?_
    show 16 / v ≤ 2 * (8 / v)
    rcases hv with h | h | h | h <;> subst h <;> decide)
  have hOL : (ofL v xs).length ≤ 1000 := by
    rw [ofL_length, hl]
    have : n * (8 / v) ≤ n * 8 := Nat.mul_le_mul_left _ (Nat.div_le_self _ _)
    omega
  have hV20 : V ≤ 16 := by
    have h9 := k3
    rw [hl, ← hV] at h9
    have : 16 / v ≤ 16 := Nat.div_le_self _ _
    omega
  rw [← hU, ← hV, ← hL] at hS
  have HSS := Lib.hid hS
  have HNN := Lib.hid hN
  have HR := Lib.hid hr
  rw [← hX0] at HLK
  obtain ⟨ds, hds⟩ : ∃ ds, ds = ofL v xs := ⟨_, rfl⟩
  obtain ⟨es, hes⟩ : ∃ es, es = ofL v [UInt8.ofNat (N / 256), UInt8.ofNat N] := ⟨_, rfl⟩
  rw [← hes] at HO2 HL2
  rw [← hds] at HOF hOL
  rw [← hds, ← hes] at HAL
  rw [HAL.out]
  have hLb : L ≤ 16 := by rw [hL]; unfold shL; omega
  clear hS hU hV hL hX0 hN k1 k2 k3 hr hds hes f3 f4 hw8 hl
  have uz : ¬ (U : Int) = 0 := by omega
  go_enter Tryz.func67, Tryz.ntmps67
  go_wp2_with (first
    | (go_at_call 92; ((with_reducible refine (HSS.out _).mono ?_); rintro e w2 ⟨rfl, rfl⟩))
    | (go_at_call 93; ((with_reducible refine (HLK.out _ HR.out).mono ?_); rintro e w1 ⟨rfl, b1⟩; have B1 := Lib.hid b1; clear b1)))
  go_loop [8, 9] (fun x i => ∃ j : Nat, j ≤ L ∧ i = .int .i64 (j : Int) ∧ x = .int .i64 ((X0 * 2 ^ j : Nat) : Int)) (fun _ i => L - (intOf i).toNat)
  case atStart => exact ⟨0, by omega, rfl, by simp⟩
  case round =>
    obtain ⟨j, hj, rfl, rfl⟩ := hrel
    have hle : X0 * 2 ^ j ≤ N := by rw [HNN.out]; exact Nat.mul_le_mul_left _ (Nat.pow_le_pow_right (by omega) hj)
    by_cases hlt : j < L
    · have i0 : (j : Int) < (L : Int) := by omega
      obtain ⟨P, hP⟩ : ∃ P, P = X0 * 2 ^ j := ⟨_, rfl⟩
      have HP := Lib.hid (show X0 * 2 ^ (j + 1) = 2 * P by rw [hP, Nat.pow_succ, ← Nat.mul_assoc, Nat.mul_comm])
      rw [← hP] at hle ⊢
      clear hP
      go_wp2
      go_round
      case rel => exact ⟨j + 1, by omega, by go_num, by rw [HP.out]; go_num⟩
      case measure => simp [intOf]; omega
    · obtain rfl : j = L := by omega
      have i0 : ¬ (j : Int) < (j : Int) := by omega
      rw [← HNN.out]
      clear hle
      obtain ⟨H, hH⟩ : ∃ H, H = N / 256 := ⟨_, rfl⟩
      obtain ⟨G, hG⟩ : ∃ G, G = N % 256 := ⟨_, rfl⟩
      have g1 : (N : Int) / 256 = (H : Int) := by omega
      have g2 : (N : Int).tdiv 256 = (H : Int) := by rw [Int.tdiv_eq_ediv_of_nonneg (by omega)]; exact g1
      have g3 : (N : Int) % 256 = (G : Int) := by omega
      have g4 : (N : Int).tmod 256 = (G : Int) := by rw [Int.tmod_eq_emod_of_nonneg (by omega)]; exact g3
      have g5 : IntKind.u8.wrap (H : Int) = (H : Int) := by rw [IntKind.wrap_u8]; omega
      have g6 : IntKind.u8.wrap (G : Int) = (G : Int) := by rw [IntKind.wrap_u8]; omega
      obtain ⟨wo, hwo⟩ : ∃ wo : World, wo = w1 := ⟨_, rfl⟩
      have HLT := Lib.hid (show Rd (w1.alloc (.cells #[.int .u8 (H : Int), .int .u8 (G : Int)] 5)) (some ⟨w1.heap.size, 0, none⟩) 2 2 [UInt8.ofNat (N / 256), UInt8.ofNat N] from rd_lit8 w1 #[.int .u8 (H : Int), .int .u8 (G : Int)] [UInt8.ofNat (N / 256), UInt8.ofNat N] (by
        have e1 : (UInt8.ofNat (N / 256)).toNat = H := by rw [UInt8.toNat_ofNat']; omega
        have e2 : (UInt8.ofNat N).toNat = G := by rw [UInt8.toNat_ofNat']; omega
        simp [bv, e1, e2]) (by simp [maxLen]) _ rfl)
      clear hH hG hwo
      go_wp2_with (go_at_call 94; ((with_reducible refine (HO2.out _ _ _ HLT.out).mono ?_); intro e w2 h2; obtain ⟨A2, c2, rfl, r2, _, b2⟩ := newi_len h2; have R2 := Lib.hid r2; have B2 := Lib.hid ((B1.out.alloc B1.out.size _).trans (b2.mono (by have := B1.out.size; simp; omega))); clear h2 r2 b2))
      obtain ⟨E, hE⟩ : ∃ E, E = es.length := ⟨_, rfl⟩
      have R2' := Lib.hid (show Ri w2 A2 E c2 es by rw [hE]; exact R2.out)
      have hVE : V ≤ E := by rw [hE]; exact HL2.out
      have hcap := R2'.out.cap
      have hcs := fun X => run_cutIH (A := A2) (n := E) (c := c2) (m := V) (h := (V : Int)) rfl (by omega) X
      have hcs' := fun X => run_cutIHAt (A := A2) (n := E) (c := c2) (m := V) (h := (V : Int)) rfl (by omega) X
      have HRD := Lib.hid (show Rd w2.drew A n c xs from (HR.out.below B2.out).drew)
      have HD := Lib.hid (show Below W.heap.size W w2.drew from B2.out.drew)
      have RD := Lib.hid (show Ri w2.drew A2 E c2 es from R2'.out.drew)
      rw [← hE]
      clear hE hcap
      go_region_held3 (fun _ => True) (trivial) (first
        | (go_at_call 94; ((with_reducible refine (HOF.out _ HRD.out).mono ?_); intro e w3 h3; obtain ⟨A3, c3, rfl, r3, o3, b3⟩ := newi_len h3; have O3 := Lib.hid o3; have B3 := Lib.hid b3; have RE := Lib.hid (RD.out.below b3); clear h3 r3 o3 b3))
        | (refine step_append_ri (by rfl) (.tmp 42) (.tmp 45) (by rfl) w2.drew.heap.size _ ds.length ds (by rfl) O3.out A2 V c2 (es.take V) (by rfl) (RE.out.take hVE) (by omega) B3.out.size ?_; intro v4 w4 o4 g4 _; have O4 := Lib.hid o4; have B4 := Lib.hid (B3.out.grown g4 B3.out.size (fun g hg => (O3.out.lt g hg).1)); clear o4 g4)
        | fail)
      go_wp2
      go_ret
      exact NewI.mk (own_basei O4.out HD.out.size) (HD.out.trans (B4.out.mono HD.out.size))
end Go.Proofs.YtkpfppiedadmbaaGreatDoor.S7
