/-
  The call of the statement DigitsBoth of layer 7.
-/
import Derived.Test.YtfhbnfhmicaklaaDoorDigW
import Derived.Test.YtfhbnfhmicaklaaDoorDigW2
import Derived.RegionTactic
import Derived.Deep.QuietTactic
import Derived.BigQuiet
namespace Go.Proofs.YtfhbnfhmicaklaaDoor.S7
set_option linter.unusedSimpArgs false
set_option linter.unusedVariables false
open Go.RowKit

set_option maxRecDepth 100000 in
set_option maxHeartbeats 4000000 in
theorem digitsBoth_walk (M : DC) (W : World) (hk : M.ok W) (A : Option Addr) (n c : Nat) (xs : List UInt8) (hr : Rd W A n c xs) (A' : Option Addr) (n' c' : Nat) (ys : List UInt8) (hr' : Rd W A' n' c' ys) (q : Int) (wq : (Lit.int .u8 q).wf = true) :
    Calls Tryd.prog 4 #[.slice A n c, .slice A' n' c', .int .u8 q] W fun e w' => e = .returned (.bool true) ∧ Below W.heap.size W w' := by
  have wq' : 0 ≤ q ∧ q ≤ 255 := by simpa [Lit.wf, IntKind.min, IntKind.max, IntKind.signed, IntKind.bits] using wq
  obtain ⟨Q, rfl⟩ := Int.eq_ofNat_of_zero_le wq'.1
  have hQ : Q < 256 := by omega
  clear wq wq'
  obtain ⟨r, hr4⟩ : ∃ r, r = Q % 4 := ⟨_, rfl⟩
  have hr5 : r < 4 := by omega
  have k2 : (Q : Int).tmod 4 = (r : Int) := by rw [Int.tmod_eq_emod_of_nonneg (by omega)]; omega
  have k3 : (Q : Int) % 4 = (r : Int) := by omega
  obtain ⟨v, hv⟩ : ∃ v, v = pkW r := ⟨_, rfl⟩
  have HV := Lib.hid (show wid v by rw [hv]; exact pk_wid r)
  have hpk := pk_load hr5 hv
  clear hr4 hv
  have HK := Lib.hid hk
  have lm : n ≤ maxLen := Nat.le_trans hr.cap hr.max
  have lm' : n' ≤ maxLen := Nat.le_trans hr'.cap hr'.max
  unfold maxLen at lm lm'
  obtain ⟨m, hm⟩ : ∃ m, m = min (min n n') 64 := ⟨_, rfl⟩
  have m1 : m ≤ n := by omega
  have m2 : m ≤ n' := by omega
  have m3 : m ≤ 64 := by omega
  have hmin : ∀ W, (Builtin.min_ #[3, 3, 3] 3 #[.int .i64 (n : Int), .int .i64 (n' : Int), .int .i64 64]).run Tryd.prog W = .ok (.int .i64 (m : Int)) W := fun W => run_min3 _ _ _ _ _ _ _ (by omega) W
  obtain ⟨XS, hXS⟩ : ∃ l, l = xs.take m := ⟨_, rfl⟩
  obtain ⟨YS, hYS⟩ : ∃ l, l = ys.take m := ⟨_, rfl⟩
  have HR := Lib.hid (show Rd W A m c XS by rw [hXS]; exact hr.take m1)
  have HR' := Lib.hid (show Rd W A' m c' YS by rw [hYS]; exact hr'.take m2)
  have hca := hr.cap
  have hca' := hr'.cap
  have C1 := fun W => run_cutBH (A := A) (n := n) (c := c) (m := m) (h := (m : Int)) rfl (by omega) W
  have C1' := fun W => run_cutBHAt (A := A) (n := n) (c := c) (m := m) (h := (m : Int)) rfl (by omega) W
  have C2 := fun W => run_cutBH (A := A') (n := n') (c := c') (m := m) (h := (m : Int)) rfl (by omega) W
  have C2' := fun W => run_cutBHAt (A := A') (n := n') (c := c') (m := m) (h := (m : Int)) rfl (by omega) W
  clear hm hk hr hr' hca hca' hXS hYS
  by_cases h0 : m = 0
  · have z0 : ((m : Int) == 0) = true := by simpa using h0
    clear h0
    go_enter Tryd.func4, Tryd.ntmps4
    go_wp2_with (go_at_call 8; ((with_reducible refine (awake_true M _ HK.out).mono ?_); rintro e w1 ⟨rfl, b1⟩; have B1 := Lib.hid b1; clear b1))
    go_ret
    exact ⟨rfl, B1.out⟩
  · have z0 : ((m : Int) == 0) = false := by simpa using h0
    have m0 : 1 ≤ m := by omega
    obtain ⟨X, hX⟩ : ∃ X, X = allW v XS := ⟨_, rfl⟩
    obtain ⟨Y, hY⟩ : ∃ Y, Y = allW v YS := ⟨_, rfl⟩
    have HA := Lib.hid (show ∀ Z, M.ok Z → Rd Z A m c XS → Calls Tryd.prog 18 #[.slice A m c, .int .i64 (v : Int)] Z (GivesI Z.heap.size Z X) from fun Z g h => by rw [hX]; exact M.all A m c _ v Z g h (by omega))
    have HA' := Lib.hid (show ∀ Z, M.ok Z → Rd Z A' m c' YS → Calls Tryd.prog 18 #[.slice A' m c', .int .i64 (v : Int)] Z (GivesI Z.heap.size Z Y) from fun Z g h => by rw [hY]; exact M.all A' m c' _ v Z g h (by omega))
    have hokS : okS (m : Int) (v : Int) = true := by simp [okS, may_wid HV.out]; omega
    have hlx : XS.length = m := HR.out.len
    have hly : YS.length = m := HR'.out.len
    have eX : X = allL v XS := by rw [hX, allW, hlx, hokS, if_pos rfl, Int.toNat_natCast]
    have eY : Y = allL v YS := by rw [hY, allW, hly, hokS, if_pos rfl, Int.toNat_natCast]
    obtain ⟨T, hT⟩ : ∃ T, T = shU m v + shV m v := ⟨_, rfl⟩
    have lX : X.length = T := by rw [eX, allL_length v HV.out _ (by omega) (by omega), hlx, hT]
    have lY : Y.length = T := by rw [eY, allL_length v HV.out _ (by omega) (by omega), hly, hT]
    have T1 : 1 ≤ T := by have := (shape_facts m v HV.out m0 m3).2.2.1; omega
    have LX := Lib.hid lX
    have LY := Lib.hid lY
    have HS := Lib.hid (show ∀ s, s = eqB XS YS m → ∃ b, ltB X Y T = b ∧ ltB Y X T = b ∧ b = !s from fun s hs => by
      by_cases he : XS = YS
      · refine ⟨false, ?_, ?_, ?_⟩
        · rw [eX, eY, he]; exact ltB_same _ _
        · rw [eX, eY, he]; exact ltB_same _ _
        · rw [hs]; simp [eqB, he]
      · obtain ⟨i, h1, h2⟩ := some_less v HV.out _ _ (hlx.trans hly.symm) (by omega) (by omega) he
        obtain ⟨j, h3, h4⟩ := some_less v HV.out _ _ (hly.trans hlx.symm) (by omega) (by omega) (Ne.symm he)
        rw [hlx, ← hT] at h1
        rw [hly, ← hT] at h3
        refine ⟨true, ?_, ?_, ?_⟩
        · rw [eX, eY]; exact decide_eq_true ⟨i, h1, h2⟩
        · rw [eX, eY]; exact decide_eq_true ⟨j, h3, h4⟩
        · rw [hs, eqB, List.take_of_length_le (by omega), List.take_of_length_le (by omega)]; simp [he])
    clear hX hY hokS hlx hly eX eY hT lX lY h0
    go_enter Tryd.func4, Tryd.ntmps4
    go_wp2_with (first
      | (go_at_call 8; ((with_reducible refine (awake_true M _ HK.out).mono ?_); rintro e w1 ⟨rfl, b1⟩; have B1 := Lib.hid b1; clear b1))
      | (go_at_call 18; ((with_reducible refine (HA.out _ (M.bel HK.out (B1.out.alloc B1.out.size _)) (HR.out.below (B1.out.alloc B1.out.size _))).mono ?_); intro e w2 h2; obtain ⟨A2, c2, rfl, r2, b2⟩ := h2; rw [LX.out] at r2; rw [LX.out]; have R2 := Lib.hid r2; have B2 := Lib.hid ((B1.out.alloc B1.out.size _).trans (b2.mono (by have := B1.out.size; simp; omega))); clear r2 b2))
      | (go_at_call 18; ((with_reducible refine (HA'.out _ (M.bel HK.out B2.out) (HR'.out.below B2.out)).mono ?_); intro e w3 h3; obtain ⟨A3, c3, rfl, r3, b3⟩ := h3; rw [LY.out] at r3; rw [LY.out]; have R3 := Lib.hid r3; have R4 := Lib.hid (R2.out.below b3); have B3 := Lib.hid (B2.out.trans (b3.mono B2.out.size)); clear r3 b3)))
    go_loopw [11, 12] (fun s i wr => ∃ k q : Nat, k ≤ m ∧ i = .int .i64 (k : Int) ∧ s = .bool (eqB XS YS k) ∧ wr = w3.drewN q) (fun _ i _ => m - (intOf i).toNat)
    case atStart => exact ⟨0, 0, by omega, rfl, by rw [eqB_zero], rfl⟩
    case round =>
      obtain ⟨k, q, hk, rfl, rfl, rfl⟩ := hrel
      by_cases hlt : k < m
      · have hki : (k : Int) < (m : Int) := by omega
        have hn := eqB_next XS YS k (by rw [HR.out.len]; exact hlt) (by rw [HR'.out.len]; exact hlt)
        obtain ⟨d1, hd1⟩ : ∃ d, d = (XS.getD k 0).toNat := ⟨_, rfl⟩
        obtain ⟨d2, hd2⟩ : ∃ d, d = (YS.getD k 0).toNat := ⟨_, rfl⟩
        rw [← hd1, ← hd2] at hn
        cases hs : eqB XS YS k with
        | true =>
          have r1 := HR.out.below B3.out
          have r2 := HR'.out.below B3.out
          obtain ⟨b1, o1, rfl, hb1, hc1⟩ := r1.at_ (by omega)
          obtain ⟨b2, o2, rfl, hb2, hc2⟩ := r2.at_ (by omega)
          have g1 := hc1 k hlt
          have g2 := hc2 k hlt
          rw [← hd1] at g1
          rw [← hd2] at g2
          rw [hs, Bool.true_and] at hn
          clear hc1 hc2 hd1 hd2 hs
          by_cases he : d1 = d2
          · have q1 : ((d1 : Int) == (d2 : Int)) = true := by simp [he]
            have HN := Lib.hid (show eqB XS YS (k + 1) = true by rw [hn]; simp [he])
            clear hn he
            go_wp2
            go_quiet (fail)
            go_wp2
            go_roundw
            case rel => exact ⟨k + 1, _, by omega, by go_num, by rw [HN.out], rfl⟩
            case measure => simp [intOf]; omega
          · have q1 : ((d1 : Int) == (d2 : Int)) = false := by simp; omega
            have HN := Lib.hid (show eqB XS YS (k + 1) = false by rw [hn]; simp [he])
            clear hn he
            go_wp2
            go_quiet (fail)
            go_wp2
            go_roundw
            case rel => exact ⟨k + 1, _, by omega, by go_num, by rw [HN.out], rfl⟩
            case measure => simp [intOf]; omega
        | false =>
          rw [hs, Bool.false_and] at hn
          have HN := Lib.hid hn
          clear hn hs hd1 hd2
          go_wp2
          go_quiet (fail)
          go_wp2
          go_roundw
          case rel => exact ⟨k + 1, _, by omega, by go_num, by rw [HN.out], rfl⟩
          case measure => simp [intOf]; omega
      · obtain rfl : k = m := by omega
        go_wp2
        have B4 := Lib.hid (below_drewN B3.out q)
        have HS2 := Lib.hid (HS.out _ rfl)
        have R5 := Lib.hid (show Ri (w3.drewN q) A2 T c2 X from R4.out.below (below_drewN (Below.refl _ _) q))
        have R6 := Lib.hid (show Ri (w3.drewN q) A3 T c3 Y from R3.out.below (below_drewN (Below.refl _ _) q))
        obtain ⟨wb, hwb⟩ : ∃ wb, wb = w3.drewN q := ⟨_, rfl⟩
        obtain ⟨sb, hsb⟩ : ∃ sb, sb = eqB XS YS k := ⟨_, rfl⟩
        rw [← hwb] at B4 R5 R6 ⊢
        rw [← hsb] at HS2 ⊢
        have lT := Nat.le_trans R5.out.cap R5.out.max
        unfold maxLen at lT
        clear hwb hsb HR HR' HA HA' C1 C1' C2 C2' hmin hpk z0 R2 R3 R4 B1 B2 B3 HS k2 k3
        go_loopw [13, 14, 15] (fun l g i wr => ∃ j q : Nat, j ≤ T ∧ i = .int .i64 (j : Int) ∧ l = .bool (ltB X Y j) ∧ g = .bool (ltB Y X j) ∧ wr = wb.drewN q) (fun _ _ i _ => T - (intOf i).toNat)
        case atStart => exact ⟨0, 0, by omega, rfl, by rw [ltB_zero], by rw [ltB_zero], rfl⟩
        case round =>
          obtain ⟨j, q2, hj, rfl, rfl, rfl, rfl⟩ := hrel
          by_cases hlt2 : j < T
          · have i1 : (j : Int) < (T : Int) := by omega
            have hn1 := ltB_next X Y j
            have hn2 := ltB_next Y X j
            obtain ⟨d1, hd1⟩ : ∃ d, d = X.getD j 0 := ⟨_, rfl⟩
            obtain ⟨d2, hd2⟩ : ∃ d, d = Y.getD j 0 := ⟨_, rfl⟩
            obtain ⟨b1, o1, rfl, hb1, hc1⟩ := R5.out.at_ (by omega)
            obtain ⟨b2, o2, rfl, hb2, hc2⟩ := R6.out.at_ (by omega)
            have g1 := hc1 j hlt2
            have g2 := hc2 j hlt2
            rw [← hd1] at g1 hn1 hn2
            rw [← hd2] at g2 hn1 hn2
            clear hc1 hc2 hd1 hd2
            cases hl : ltB X Y j <;> cases hg : ltB Y X j
            all_goals
              rw [hl] at hn1
              rw [hg] at hn2
              simp only [Bool.true_or, Bool.false_or] at hn1 hn2
              have HN1 := Lib.hid hn1
              have HN2 := Lib.hid hn2
              clear hn1 hn2 hl hg
              go_wp2
              go_quiet (fail)
              go_wp2
              go_quiet (fail)
              go_wp2
              go_roundw
              case rel => exact ⟨j + 1, _, by omega, by go_num, by rw [HN1.out], by rw [HN2.out], rfl⟩
              case measure => simp [intOf]; omega
          · obtain rfl : j = T := by omega
            have i1 : ¬ (j : Int) < (j : Int) := by omega
            obtain ⟨b, e1, e2, e3⟩ := HS2.out
            rw [e1, e2]
            have z1 : ((j : Int) != (j : Int)) = false := by simp
            have z2 : ((j : Int) == 0) = false := by simp; omega
            have BF := Lib.hid (below_drewN B4.out q2)
            subst e3
            clear e1 e2
            cases sb
            all_goals
              go_wp2
              go_ret
              exact ⟨rfl, BF.out⟩
end Go.Proofs.YtfhbnfhmicaklaaDoor.S7
