/-
  The call of the statement DigitsShapes of layer 7.
-/
import Derived.Test.YtfhbnfhmicaklaaDoorDigW
import Derived.Test.YtfhbnfhmicaklaaDoorDigW2
import Derived.RegionTactic
namespace Go.Proofs.YtfhbnfhmicaklaaDoor.S7
set_option linter.unusedSimpArgs false
set_option linter.unusedVariables false
open Go.RowKit

set_option maxRecDepth 100000 in
set_option maxHeartbeats 4000000 in
theorem digitsShapes_walk (M : DC) (W : World) (hk : M.ok W) (p : Int) (wp : (Lit.int .u8 p).wf = true) (q : Int) (wq : (Lit.int .u8 q).wf = true) :
    Calls Tryd.prog 6 #[.int .u8 p, .int .u8 q] W fun e w' => e = .returned (.bool true) ∧ Below W.heap.size W w' := by
  have wq' : 0 ≤ q ∧ q ≤ 255 := by simpa [Lit.wf, IntKind.min, IntKind.max, IntKind.signed, IntKind.bits] using wq
  have wp' : 0 ≤ p ∧ p ≤ 255 := by simpa [Lit.wf, IntKind.min, IntKind.max, IntKind.signed, IntKind.bits] using wp
  obtain ⟨Q, rfl⟩ := Int.eq_ofNat_of_zero_le wq'.1
  obtain ⟨P, rfl⟩ := Int.eq_ofNat_of_zero_le wp'.1
  have hQ : Q < 256 := by omega
  have hP : P < 256 := by omega
  clear wq wq' wp wp'
  obtain ⟨r, hr4⟩ : ∃ r, r = Q % 4 := ⟨_, rfl⟩
  have hr5 : r < 4 := by omega
  have k2 : (Q : Int).tmod 4 = (r : Int) := by rw [Int.tmod_eq_emod_of_nonneg (by omega)]; omega
  have k3 : (Q : Int) % 4 = (r : Int) := by omega
  obtain ⟨v, hv⟩ : ∃ v, v = pkW r := ⟨_, rfl⟩
  have HV := Lib.hid (show wid v by rw [hv]; exact pk_wid r)
  have hpk := pk_load hr5 hv
  clear hr4 hv
  obtain ⟨s, hs⟩ : ∃ s, s = P % 64 := ⟨_, rfl⟩
  have k4 : (P : Int).tmod 64 = (s : Int) := by rw [Int.tmod_eq_emod_of_nonneg (by omega)]; omega
  have k5 : (P : Int) % 64 = (s : Int) := by omega
  obtain ⟨k, hk1⟩ : ∃ k, k = s + 1 := ⟨_, rfl⟩
  have k6 : 1 + (s : Int) = (k : Int) := by omega
  have hk0 : 1 ≤ k := by omega
  have hk64 : k ≤ 64 := by omega
  have hs64 : s < 64 := by omega
  have HK := Lib.hid hk
  clear hk hk1 hs
  obtain ⟨h8, hv1, hv8⟩ := wid_div HV.out
  obtain ⟨f1, f2, f3, f4, f5⟩ := shape_facts k v HV.out hk0 hk64
  have hokS : okS (k : Int) (v : Int) = true := by simp [okS, may_wid HV.out]; omega
  obtain ⟨U, hU⟩ : ∃ U, U = shU k v := ⟨_, rfl⟩
  obtain ⟨V, hV⟩ : ∃ V, V = shV k v := ⟨_, rfl⟩
  obtain ⟨L, hL⟩ : ∃ L, L = shL k v := ⟨_, rfl⟩
  have HSH := Lib.hid (show ∀ X, M.ok X → Calls Tryd.prog 9 #[.int .i64 (k : Int), .int .i64 (v : Int)] X fun e w' => e = .returned (.tuple #[.int .i64 (U : Int), .int .i64 (V : Int), .int .i64 (L : Int)]) ∧ Below X.heap.size X w' from fun X g => by
    have h := M.shape k v X g
    rw [shW, hokS, if_pos rfl, Int.toNat_natCast, Int.toNat_natCast, ← hU, ← hV, ← hL] at h
    exact h)
  obtain ⟨Z, hZ⟩ : ∃ Z, Z = allW v (List.replicate k 0) := ⟨_, rfl⟩
  obtain ⟨ZL, hZL⟩ : ∃ z, z = U + V := ⟨_, rfl⟩
  have LZ := Lib.hid (show Z.length = ZL by
    rw [hZL, hZ, allW, List.length_replicate, hokS, if_pos rfl, Int.toNat_natCast, allL_length v HV.out _ (by simp; omega) (by simp; omega), List.length_replicate, hU, hV])
  have HA := Lib.hid (show ∀ X B, M.ok X → Rd X B k k (List.replicate k 0) → Calls Tryd.prog 18 #[.slice B k k, .int .i64 (v : Int)] X (GivesI X.heap.size X Z) from fun X B g h => by rw [hZ]; exact M.all B k k _ v X g h (by omega))
  rw [← hU, ← hV] at f1
  rw [← hV] at f2 f3 f5
  rw [← hU] at f4 f5
  obtain ⟨S, hS⟩ : ∃ S, S = 2 ^ v := ⟨_, rfl⟩
  have hS0 : 2 ≤ S := by rw [hS]; rcases HV.out with h | h | h | h <;> subst h <;> decide
  have hS1 : S ≤ 256 := by rw [hS]; rcases HV.out with h | h | h | h <;> subst h <;> decide
  have s1 : (2 : Int) ^ v = (S : Int) := by rw [hS]; simp
  rw [← hS] at f1 f5
  have hUb : U ≤ 512 := by
    have : k * (8 / v) ≤ 64 * 8 := Nat.mul_le_mul hk64 (Nat.div_le_self _ _)
    omega
  obtain ⟨KK, hKK⟩ : ∃ x, x = 8 * k := ⟨_, rfl⟩
  have u1 : (U : Int) * (v : Int) = (KK : Int) := by
    rw [← Int.natCast_mul, f4, Nat.mul_assoc, Nat.mul_comm (8 / v) v, h8, hKK, Nat.mul_comm]
  have u2 : 8 * (k : Int) = (KK : Int) := by omega
  have u3 : ((KK : Int) != (KK : Int)) = false := by simp
  obtain ⟨MO, hMO⟩ : ∃ x, x = (S - 1) * U := ⟨_, rfl⟩
  have hMOb : MO ≤ 255 * 512 := by rw [hMO]; exact Nat.mul_le_mul (by omega) hUb
  have m1 : ((S : Int) - 1) * (U : Int) = (MO : Int) := by rw [hMO, Int.natCast_mul, Int.natCast_sub (by omega)]; rfl
  obtain ⟨VV, hVV⟩ : ∃ x, x = V * v := ⟨_, rfl⟩
  have hVVb : VV ≤ 16 := by rw [hVV, Nat.mul_comm]; exact f2
  have v1 : (V : Int) * (v : Int) = (VV : Int) := by rw [hVV, Int.natCast_mul]
  obtain ⟨PV, hPV⟩ : ∃ x, x = 2 ^ VV := ⟨_, rfl⟩
  have hPVb : PV ≤ 65536 := by rw [hPV]; exact Nat.le_trans (Nat.pow_le_pow_right (by omega) hVVb) (by decide)
  have p1 : (2 : Int) ^ VV = (PV : Int) := by rw [hPV]; simp
  have hlt : MO < PV := by rw [hMO, hPV, hVV, Nat.mul_comm V v]; exact f1
  have g2 : decide (PV ≤ MO) = false := by simp; omega
  have g1 : decide ((V : Int) < 1) = false := by simp; omega
  have l1 : 16 - (VV : Int) = (L : Int) := by rw [hL, shL, ← hV, ← hVV]; omega
  have l2 : ((L : Int) != (L : Int)) = false := by simp
  have l3 : L ≤ 16 := by rw [hL, shL]; omega
  have hV16 : V ≤ 16 := by
    have : V * 1 ≤ V * v := Nat.mul_le_mul_left _ hv1
    omega
  have z1 : (U : Int) + (V : Int) = (ZL : Int) := by omega
  have z2 : ((ZL : Int) == (ZL : Int)) = true := by simp
  by_cases hV1 : 1 < V
  · have g3 : decide (1 < (V : Int)) = true := by simp; omega
    obtain ⟨VW, hVW⟩ : ∃ x, x = (V - 1) * v := ⟨_, rfl⟩
    have hVWb : VW ≤ 16 := by
      have h1 : (V - 1) * v ≤ V * v := Nat.mul_le_mul_right _ (Nat.sub_le _ _)
      omega
    have v2 : ((V : Int) - 1) * (v : Int) = (VW : Int) := by rw [hVW, Int.natCast_mul, Int.natCast_sub (by omega)]; rfl
    obtain ⟨PW, hPW⟩ : ∃ x, x = 2 ^ VW := ⟨_, rfl⟩
    have hPWb : PW ≤ 65536 := by rw [hPW]; exact Nat.le_trans (Nat.pow_le_pow_right (by omega) hVWb) (by decide)
    have p2 : (2 : Int) ^ VW = (PW : Int) := by rw [hPW]; simp
    have hle : PW ≤ MO := by rw [hMO, hPW, hVW, Nat.mul_comm _ v]; exact f5 hV1
    have g4 : decide (MO < PW) = false := by simp; omega
    clear hU hV hL hZ hZL hS hKK hMO hVV hPV hVW hPW hlt hle h8 f1 f2 f3 f4 f5 hokS hV1
    go_enter Tryd.func6, Tryd.ntmps6
    go_wp2_with (first
      | (go_at_call 8; ((with_reducible refine (awake_true M _ HK.out).mono ?_); rintro e w1 ⟨rfl, b1⟩; have B1 := Lib.hid b1; clear b1))
      | (go_at_call 9; ((with_reducible refine (HSH.out _ (M.bel HK.out (B1.out.alloc B1.out.size _))).mono ?_); rintro e w2 ⟨rfl, b2⟩; have B2 := Lib.hid ((B1.out.alloc B1.out.size _).trans (b2.mono (by have := B1.out.size; simp; omega))); clear b2))
      | (at_make; refine make_zz (by kernel_rfl) _ _ rfl w2.heap.size k rfl rfl rfl rfl (by omega) (Nat.le_refl _) ?_; intro w5 o5 g5; have O5 := Lib.hid o5; have B5 := Lib.hid (B2.out.grown g5 B2.out.size (fun g hg => by cases hg)); clear o5 g5)
      | (go_at_call 18; ((with_reducible refine (HA.out _ (some ⟨w2.heap.size, 0, none⟩) (M.bel HK.out B5.out) (Rd.own O5.out)).mono ?_); intro e w6 h6; obtain ⟨A6, c6, rfl, r6, b6⟩ := h6; rw [LZ.out]; have B6 := Lib.hid (B5.out.trans (b6.mono B5.out.size)); clear r6 b6)))
    go_ret
    exact ⟨rfl, B6.out⟩
  · have g3 : decide (1 < (V : Int)) = false := by simp; omega
    clear hU hV hL hZ hZL hS hKK hMO hVV hPV hlt h8 f1 f2 f3 f4 f5 hokS hV1
    go_enter Tryd.func6, Tryd.ntmps6
    go_wp2_with (first
      | (go_at_call 8; ((with_reducible refine (awake_true M _ HK.out).mono ?_); rintro e w1 ⟨rfl, b1⟩; have B1 := Lib.hid b1; clear b1))
      | (go_at_call 9; ((with_reducible refine (HSH.out _ (M.bel HK.out (B1.out.alloc B1.out.size _))).mono ?_); rintro e w2 ⟨rfl, b2⟩; have B2 := Lib.hid ((B1.out.alloc B1.out.size _).trans (b2.mono (by have := B1.out.size; simp; omega))); clear b2))
      | (at_make; refine make_zz (by kernel_rfl) _ _ rfl w2.heap.size k rfl rfl rfl rfl (by omega) (Nat.le_refl _) ?_; intro w5 o5 g5; have O5 := Lib.hid o5; have B5 := Lib.hid (B2.out.grown g5 B2.out.size (fun g hg => by cases hg)); clear o5 g5)
      | (go_at_call 18; ((with_reducible refine (HA.out _ (some ⟨w2.heap.size, 0, none⟩) (M.bel HK.out B5.out) (Rd.own O5.out)).mono ?_); intro e w6 h6; obtain ⟨A6, c6, rfl, r6, b6⟩ := h6; rw [LZ.out]; have B6 := Lib.hid (B5.out.trans (b6.mono B5.out.size)); clear r6 b6)))
    go_ret
    exact ⟨rfl, B6.out⟩
end Go.Proofs.YtfhbnfhmicaklaaDoor.S7
