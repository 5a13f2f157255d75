/-
  The call of the statement DigitsBack of layer 7.
-/
import Derived.Test.YtfhbnfhmicaklaaDoorDigW
import Derived.Test.YtfhbnfhmicaklaaDoorDigW2
import Derived.Test.YtfhbnfhmicaklaaDoorDigP
import Derived.RegionTactic
import Derived.Outline
namespace Go.Proofs.YtfhbnfhmicaklaaDoor.S7
set_option linter.unusedSimpArgs false
set_option linter.unusedVariables false
open Go.RowKit

set_option maxRecDepth 100000 in
set_option maxHeartbeats 4000000 in
theorem digitsBack_walk (M : DC) (W : World) (hk : M.ok W) (A : Option Addr) (n c : Nat) (xs : List UInt8) (hr : Rd W A n c xs) (q : Int) (wq : (Lit.int .u8 q).wf = true) :
    Calls Tryd.prog 5 #[.slice A n c, .int .u8 q] W fun e w' => e = .returned (.bool true) ∧ Below W.heap.size W w' := by
  have wq' : 0 ≤ q ∧ q ≤ 255 := by simpa [Lit.wf, IntKind.min, IntKind.max, IntKind.signed, IntKind.bits] using wq
  obtain ⟨Q, rfl⟩ := Int.eq_ofNat_of_zero_le wq'.1
  have hQ : Q < 256 := by omega
  clear wq wq'
  obtain ⟨r, hr4⟩ : ∃ r, r = Q % 4 := ⟨_, rfl⟩
  have hr5 : r < 4 := by omega
  have k2 : (Q : Int).tmod 4 = (r : Int) := by rw [Int.tmod_eq_emod_of_nonneg (by omega)]; omega
  have k3 : (Q : Int) % 4 = (r : Int) := by omega
  obtain ⟨v, hv⟩ : ∃ v, v = pkW r := ⟨_, rfl⟩
  have HV := Lib.hid (show wid v by rw [hv]; exact pk_wid r)
  have hpk := pk_load hr5 hv
  clear hr4 hv
  have HK := Lib.hid hk
  have lm : n ≤ maxLen := Nat.le_trans hr.cap hr.max
  unfold maxLen at lm
  have HR := Lib.hid hr
  have HL := Lib.hid hr.len
  clear hk hr
  by_cases hn : n ≤ 2000
  · have i0 : ¬ 2000 < (n : Int) := by omega
    obtain ⟨h8, hv1, hv8⟩ := wid_div HV.out
    obtain ⟨E, hE⟩ : ∃ E, E = 8 / v := ⟨_, rfl⟩
    have hEb : 1 ≤ E ∧ E ≤ 8 := by rw [hE]; rcases HV.out with h | h | h | h <;> subst h <;> decide
    obtain ⟨D, hD⟩ : ∃ D, D = ofL v xs := ⟨_, rfl⟩
    obtain ⟨T, hT⟩ : ∃ T, T = n * E := ⟨_, rfl⟩
    have hTb : T ≤ 16000 := by rw [hT]; exact Nat.mul_le_mul hn hEb.2
    have LD := Lib.hid (show D.length = T by rw [hD, ofL_length, HL.out, hT, hE])
    obtain ⟨K, hK⟩ : ∃ K, K = lk v D := ⟨_, rfl⟩
    have HO := Lib.hid (show ∀ Z, M.ok Z → Rd Z A n c xs → Calls Tryd.prog 14 #[.slice A n c, .int .i64 (v : Int)] Z (GivesI Z.heap.size Z D) from fun Z g h => by
      have h9 := M.of A n c xs v Z g h (by omega)
      rw [ofW, may_wid HV.out, if_pos rfl, Int.toNat_natCast, ← hD] at h9
      exact h9)
    have HLK := Lib.hid (show ∀ Z, M.ok Z → Rd Z A n c xs → Calls Tryd.prog 16 #[.slice A n c, .int .i64 (v : Int)] Z fun e w' => e = .returned (.int .i64 (K : Int)) ∧ Below Z.heap.size Z w' from fun Z g h => by
      have h9 := M.lack A n c xs v Z g h (by omega)
      rw [lackW, may_wid HV.out, if_pos rfl, Int.toNat_natCast, ← hD, ← hK] at h9
      exact h9)
    have vz : ¬ (v : Int) = 0 := by omega
    have e1 : (8 : Int).tdiv (v : Int) = (E : Int) := by rw [Int.tdiv_eq_ediv_of_nonneg (by omega), hE]; simp
    have e2 : (8 : Int) / (v : Int) = (E : Int) := by rw [hE]; simp
    have e3 : (E : Int) * (n : Int) = (T : Int) := by rw [hT, Int.natCast_mul, Int.mul_comm]
    have e4 : IntKind.i64.wrap (T : Int) = (T : Int) := by rw [IntKind.wrap_i64]; omega
    have e5 : IntKind.i64.wrap (E : Int) = (E : Int) := by rw [IntKind.wrap_i64]; omega
    have z1 : ((T : Int) != (T : Int)) = false := by simp
    have HPOS := Lib.hid (fun i k (hi : i < n) (hk : k < E) => ofL_pos v HV.out xs i k (by rw [HL.out]; exact hi) (by rw [← hE]; exact hk))
    rw [← hE, ← hD] at HPOS
    have HE := Lib.hid hE
    have HT := Lib.hid hT
    have HKK := Lib.hid hK
    have HDD := Lib.hid (show ∀ d ∈ D, d < 2 ^ v by rw [hD]; exact ofL_lt v xs)
    clear hE hD hT hK h8
    go_enter Tryd.func5, Tryd.ntmps5
    go_wp2_with (first
      | (go_at_call 8; ((with_reducible refine (awake_true M _ HK.out).mono ?_); rintro e w1 ⟨rfl, b1⟩; have B1 := Lib.hid b1; clear b1))
      | (go_at_call 14; ((with_reducible refine (HO.out _ (M.bel HK.out (B1.out.alloc B1.out.size _)) (HR.out.below (B1.out.alloc B1.out.size _))).mono ?_); intro e w2 h2; obtain ⟨A2, c2, rfl, r2, b2⟩ := h2; rw [LD.out] at r2; rw [LD.out]; have R2 := Lib.hid r2; have B2 := Lib.hid ((B1.out.alloc B1.out.size _).trans (b2.mono (by have := B1.out.size; simp; omega))); clear r2 b2)))
    clear e1 e2 e3 e4 e5 z1 vz k2 k3 hpk
    go_loop [8, 9, 10, 11, 12] (fun l i _ _ _ => ∃ j : Nat, j ≤ n ∧ i = .int .i64 (j : Int) ∧ l = .int .i64 ((lk v (D.take (j * E)) : Nat) : Int)) (fun _ i _ _ _ => n - (intOf i).toNat)
    case atStart => exact ⟨0, by omega, rfl, by simp [lk]⟩
    case round =>
      obtain ⟨j, hj, rfl, rfl⟩ := hrel
      by_cases hlt : j < n
      · have i1 : (j : Int) < (n : Int) := by omega
        obtain ⟨P, hP⟩ : ∃ P, P = j * E := ⟨_, rfl⟩
        have hPT : P + E ≤ T := by
          rw [HT.out, hP, ← Nat.succ_mul]
          exact Nat.mul_le_mul_right _ hlt
        obtain ⟨x, hx⟩ : ∃ x, x = (xs.getD j 0).toNat := ⟨_, rfl⟩
        have hx256 : x < 256 := by rw [hx]; exact UInt8.toNat_lt _
        have HPJ := Lib.hid (fun k hk => HPOS.out j k hlt hk)
        rw [← hP, ← hx] at HPJ
        have f1 : (j : Int) * (E : Int) = (P : Int) := by rw [hP, Int.natCast_mul]
        have f2 : IntKind.i64.wrap (P : Int) = (P : Int) := by rw [IntKind.wrap_i64]; omega
        have HP := Lib.hid hP
        rw [← hP]
        clear hP
        go_wp2
        go_loop [8, 10, 11, 12] (fun l u k _ => ∃ k' : Nat, k' ≤ E ∧ k = .int .i64 (k' : Int) ∧ u = .int .i64 ((val (2 ^ v) ((ofB v x).take k') : Nat) : Int) ∧ l = .int .i64 ((lk v (D.take (P + k')) : Nat) : Int)) (fun _ _ k _ => E - (intOf k).toNat)
        case atStart => exact ⟨0, by omega, rfl, by simp [val], rfl⟩
        case round =>
          obtain ⟨k, hk, rfl, rfl, rfl⟩ := hrel
          by_cases hlt2 : k < E
          · have i2 : (k : Int) < (E : Int) := by omega
            have hd := HPJ.out k hlt2
            obtain ⟨d, hdd⟩ : ∃ d, d = dg v x k := ⟨_, rfl⟩
            rw [← hdd] at hd
            have hd2 : d < 2 ^ v := HDD.out d (List.mem_of_getElem? hd)
            obtain ⟨U, hU⟩ : ∃ U, U = val (2 ^ v) ((ofB v x).take k) := ⟨_, rfl⟩
            have hUb : U ≤ x := by rw [hU]; exact val_le v x k HV.out hx256 (by rw [← HE.out]; exact hk)
            obtain ⟨L, hL⟩ : ∃ L, L = lk v (D.take (P + k)) := ⟨_, rfl⟩
            have hLb : L ≤ 255 * 16000 := by
              have := lk_bound v HV.out D (P + k)
              rw [LD.out, ← hL] at this
              omega
            have HU := Lib.hid (show val (2 ^ v) ((ofB v x).take (k + 1)) = U * 2 ^ v + d by rw [ofB_take v x k (by rw [← HE.out]; exact hlt2), val_snoc, ← hU, hdd])
            have HLL := Lib.hid (show lk v (D.take (P + (k + 1))) = L + (2 ^ v - 1 - d) by rw [hL]; exact lk_step v D (P + k) d hd)
            obtain ⟨S, hS⟩ : ∃ S, S = 2 ^ v := ⟨_, rfl⟩
            have hS0 : 2 ≤ S := by rw [hS]; rcases HV.out with h | h | h | h <;> subst h <;> decide
            have hS1 : S ≤ 256 := by rw [hS]; rcases HV.out with h | h | h | h <;> subst h <;> decide
            have s1 : (2 : Int) ^ v = (S : Int) := by rw [hS]; simp
            obtain ⟨US, hUS⟩ : ∃ US, US = U * S := ⟨_, rfl⟩
            have hUS1 : US ≤ 65280 := by rw [hUS]; exact Nat.le_trans (Nat.mul_le_mul (Nat.le_trans hUb (by omega)) hS1) (by decide : 255 * 256 ≤ 65280)
            have s2 : (U : Int) * (S : Int) = (US : Int) := by rw [hUS, Int.natCast_mul]
            have d0 : ¬ (d : Int) < 0 := by omega
            obtain ⟨b, off, rfl, hb, hcell⟩ := R2.out.at_ (by omega)
            have hc := hcell (P + k) (by omega)
            rw [show D.getD (P + k) 0 = d by simp [List.getD, hd]] at hc
            rw [← hU, ← hL]
            rw [← hS] at hd2 HU HLL
            rw [← hUS] at HU
            have HSS := Lib.hid hS
            have F4 := Lib.hid (show ((L + (S - 1 - d) : Nat) : Int) = (L : Int) + (S : Int) - 1 - (d : Int) by omega)
            clear hU hL hd hdd hcell hS hUS
            go_wp2
            go_round
            case rel => exact ⟨k + 1, by omega, by go_num, by rw [← HSS.out, HU.out]; go_num, by rw [HLL.out, F4.out]⟩
            case measure => simp [intOf]; omega
          · obtain rfl : k = E := by omega
            have i2 : ¬ (k : Int) < (k : Int) := by omega
            have ht : (ofB v x).take k = ofB v x := List.take_of_length_le (by rw [ofB_length, ← HE.out]; exact Nat.le_refl _)
            rw [ht, val_byte v x HV.out hx256]
            have hr9 := HR.out.below B2.out
            obtain ⟨b, off, rfl, hb, hcell⟩ := hr9.at_ (by omega)
            have hc := hcell j hlt
            rw [← hx] at hc
            have z3 : ((x : Int) != (x : Int)) = false := by simp
            clear hcell ht hx
            have HP2 := Lib.hid (show P + k = (j + 1) * k by rw [HP.out, Nat.succ_mul])
            obtain ⟨L, hL⟩ : ∃ L, L = lk v (D.take (P + k)) := ⟨_, rfl⟩
            have HLL := Lib.hid (show lk v (D.take ((j + 1) * k)) = L by rw [hL, HP2.out])
            rw [← hL]
            clear hL
            go_wp2
            go_round
            case rel => exact ⟨j + 1, by omega, by go_num, by rw [HLL.out]⟩
            case measure => simp [intOf]; omega
      · obtain rfl : j = n := by omega
        have i1 : ¬ (j : Int) < (j : Int) := by omega
        have ht : D.take (j * E) = D := List.take_of_length_le (by rw [LD.out, HT.out]; exact Nat.le_refl _)
        rw [ht, ← HKK.out]
        have z3 : ((K : Int) == (K : Int)) = true := by simp
        clear ht
        go_wp2_with (go_at_call 16; ((with_reducible refine (HLK.out _ (M.bel HK.out B2.out) (HR.out.below B2.out)).mono ?_); rintro e w3 ⟨rfl, b3⟩; have B3 := Lib.hid (B2.out.trans (b3.mono B2.out.size)); clear b3))
        go_ret
        exact ⟨rfl, B3.out⟩
  · have i0 : 2000 < (n : Int) := by omega
    go_enter Tryd.func5, Tryd.ntmps5
    go_wp2_with (go_at_call 8; ((with_reducible refine (awake_true M _ HK.out).mono ?_); rintro e w1 ⟨rfl, b1⟩; have B1 := Lib.hid b1; clear b1))
    go_ret
    exact ⟨rfl, B1.out⟩
end Go.Proofs.YtfhbnfhmicaklaaDoor.S7
