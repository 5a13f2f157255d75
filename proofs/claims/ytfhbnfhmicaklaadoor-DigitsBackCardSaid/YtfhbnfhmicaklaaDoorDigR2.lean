/-
  What the document's own calls of layer 7 do, on: Ints, Lack. No statement is proved here.
-/
import Derived.Test.YtfhbnfhmicaklaaDoorDigR
import Derived.RegionTactic
import Derived.Deep.Draws
namespace Go.Proofs.YtfhbnfhmicaklaaDoor.S7
set_option linter.unusedSimpArgs false
set_option linter.unusedVariables false
open Go.RowKit

set_option maxHeartbeats 1000000 in
theorem rints_true (A A' : Option Addr) (n c c' : Nat) (xs : List Nat) (w : World) (h1 : Ri w A n c xs) (h2 : Ri w A' n c' xs) :
    Calls Tryd.prog 13 #[.slice A n c, .slice A' n c'] w fun e w' => e = .returned (.bool true) ∧ Below w.heap.size w w' := by
  have l1 : n ≤ maxLen := Nat.le_trans h1.cap h1.max
  unfold maxLen at l1
  go_enter Tryd.func13, Tryd.ntmps13
  go_wp2
  go_loopw [5] (fun i wr => ∃ k q : Nat, k ≤ n ∧ i = .int .i64 (k : Int) ∧ wr = w.drewN q) (fun i _ => n - (intOf i).toNat)
  case atStart => exact ⟨0, 0, Nat.zero_le _, rfl, rfl⟩
  case round =>
    obtain ⟨k, q, hk, rfl, rfl⟩ := hrel
    by_cases hlt : k < n
    · obtain ⟨b1, o1, rfl, hb1, hc1⟩ := h1.at_ (by omega)
      obtain ⟨b2, o2, rfl, hb2, hc2⟩ := h2.at_ (by omega)
      have g1 := hc1 k hlt
      have g2 := hc2 k hlt
      have hki : (k : Int) < n := by omega
      obtain ⟨d, hd⟩ : ∃ d, d = xs.getD k 0 := ⟨_, rfl⟩
      rw [← hd] at g1 g2
      clear hc1 hc2 hd
      go_wp2
      go_region
      go_wp2
      go_roundw
      case rel => exact ⟨k + 1, q + 1, by omega, by go_num, rfl⟩
      case measure => simp [intOf]; omega
    · obtain rfl : k = n := by omega
      go_wp2
      go_ret
      exact ⟨rfl, ⟨rfl, rfl, rfl, Nat.le_refl _, fun _ _ => rfl⟩⟩
theorem lk_next (w : Nat) (xs : List Nat) (j d : Nat) (h : xs[j]? = some d) : lk w (xs.take (j + 1)) = lk w (xs.take j) + (2 ^ w - 1 - d) := by
  rw [List.take_add_one, h, lk_append]
  simp [lk]
set_option maxHeartbeats 2000000 in
theorem rlack_any (A : Option Addr) (n c : Nat) (xs : List UInt8) (v : Nat) (W : World) (hr : Rd W A n c xs) (hv : wid v) (hm : n ≤ 1000000) :
    Calls Tryd.prog 17 #[.slice A n c, .int .i64 (v : Int)] W fun e w' => e = .returned (.int .i64 ((lk v (ofL v xs) : Nat) : Int)) ∧ Below W.heap.size W w' := by
  have HM := Lib.hid (show ∀ X, Calls Tryd.prog 12 #[.int .i64 (v : Int)] X fun e w' => e = .returned (.bool true) ∧ X = w' from fun X => by rw [← may_wid hv]; exact rmay_any v X)
  obtain ⟨ds, hds⟩ : ∃ ds, ds = ofL v xs := ⟨_, rfl⟩
  have HO := Lib.hid (show Calls Tryd.prog 15 #[.slice A n c, .int .i64 (v : Int)] W (NewI W.heap.size W ds) by rw [hds]; exact rof_any A n c xs v W hr hv hm)
  have HB := Lib.hid (show ∀ d ∈ ds, d < 2 ^ v by rw [hds]; exact ofL_lt v xs)
  obtain ⟨h8, hv1, hv8⟩ := wid_div hv
  obtain ⟨T, hT⟩ : ∃ T, T = ds.length := ⟨_, rfl⟩
  have HT := Lib.hid hT
  have hT8 : T ≤ 8000000 := by
    have h1 : ds.length = n * (8 / v) := by rw [hds, ofL_length, hr.len]
    have h2 : n * (8 / v) ≤ n * 8 := Nat.mul_le_mul_left _ (Nat.div_le_self _ _)
    omega
  rw [← hds]
  clear hv hr h8 hds hT
  go_enter Tryd.func17, Tryd.ntmps17
  go_wp2_with (go_at_call 15; ((with_reducible refine HO.out.mono ?_); intro e w1 h1; obtain ⟨A1, c1, rfl, r1, _, b1⟩ := newi_len h1; rw [← HT.out] at r1; rw [← HT.out]; have R1 := Lib.hid r1; have B1 := Lib.hid b1; clear h1 r1 b1))
  go_loopw [6, 7] (fun m i wr => ∃ j : Nat, j ≤ v ∧ i = .int .i64 (j : Int) ∧ m = .int .i64 ((2 ^ j : Nat) : Int) ∧ wr = w1) (fun _ i _ => v - (intOf i).toNat)
  case atStart => exact ⟨0, by omega, rfl, rfl, rfl⟩
  case round =>
    obtain ⟨j, hj, rfl, rfl, rfl⟩ := hrel
    have hp := pow_lt9 (Nat.le_trans hj hv8)
    by_cases hlt : j < v
    · have i0 : (j : Int) < (v : Int) := by omega
      have q0 : decide ((j : Int) < (v : Int)) = true := by simpa using hlt
      obtain ⟨P, hP⟩ : ∃ P, P = 2 ^ j := ⟨_, rfl⟩
      have HP := Lib.hid (show 2 ^ (j + 1) = 2 * P by rw [hP, Nat.pow_succ, Nat.mul_comm])
      rw [← hP] at hp ⊢
      clear hP
      go_wp2_with (go_at_call 12; ((with_reducible refine (HM.out _).mono ?_); rintro e w2 ⟨rfl, rfl⟩))
      go_roundw
      case rel => exact ⟨j + 1, by omega, by go_num, by rw [HP.out]; go_num, by first | trivial | rfl⟩
      case measure => simp [intOf]; omega
    · obtain rfl : j = v := by omega
      have i0 : ¬ (j : Int) < (j : Int) := by omega
      obtain ⟨P, hP⟩ : ∃ P, P = 2 ^ j := ⟨_, rfl⟩
      have HPP := Lib.hid hP
      have hP1 : 1 ≤ P := by rw [hP]; exact Nat.two_pow_pos _
      rw [← hP] at hp ⊢
      clear hP
      go_wp2
      obtain ⟨wo, rfl⟩ : ∃ wo : World, wo = wr := ⟨_, rfl⟩
      go_loop [8, 9] (fun s i => ∃ k : Nat, k ≤ T ∧ i = .int .i64 (k : Int) ∧ s = .int .i64 ((lk j (ds.take k) : Nat) : Int)) (fun _ i => T - (intOf i).toNat)
      case atStart => exact ⟨0, by omega, rfl, by simp [lk]⟩
      case round =>
        obtain ⟨k, hk, rfl, rfl⟩ := hrel
        by_cases hlt2 : k < T
        · have i1 : (k : Int) < (T : Int) := by omega
          obtain ⟨b, off, rfl, hb, hcell⟩ := R1.out.at_ (by omega)
          have hc := hcell k hlt2
          obtain ⟨d, hd⟩ : ∃ d, d = ds.getD k 0 := ⟨_, rfl⟩
          rw [← hd] at hc
          have hk2 : k < ds.length := by rw [← HT.out]; exact hlt2
          have hdk : ds[k]? = some d := by rw [hd]; simp [List.getD, hk2]
          have hdp : d < P := by rw [HPP.out]; exact HB.out d (List.mem_of_getElem? hdk)
          obtain ⟨L, hL⟩ : ∃ L, L = lk j (ds.take k) := ⟨_, rfl⟩
          have hLb : L ≤ 256 * T := by
            have h1 := lk_le j (ds.take k)
            have h2 : (ds.take k).length ≤ T := by rw [List.length_take, ← HT.out]; omega
            have h3 : (2 ^ j - 1) * (ds.take k).length ≤ 256 * T := Nat.mul_le_mul (by rw [← HPP.out]; omega) h2
            omega
          have HN := Lib.hid (show lk j (ds.take (k + 1)) = L + (P - 1 - d) by rw [hL, HPP.out]; exact lk_next j ds k d hdk)
          rw [← hL]
          have f1 : IntKind.i64.wrap ((L : Int) + (P : Int)) = (L : Int) + (P : Int) := by rw [IntKind.wrap_i64]; omega
          have f2 : IntKind.i64.wrap ((L : Int) + (P : Int) - 1) = (L : Int) + (P : Int) - 1 := by rw [IntKind.wrap_i64]; omega
          have f3 : IntKind.i64.wrap ((L : Int) + (P : Int) - 1 - (d : Int)) = (L : Int) + (P : Int) - 1 - (d : Int) := by rw [IntKind.wrap_i64]; omega
          have f4 : ((L + (P - 1 - d) : Nat) : Int) = (L : Int) + (P : Int) - 1 - (d : Int) := by omega
          have F4 := Lib.hid f4
          clear hcell hd hdk hL f4
          go_wp2
          go_round
          case rel => exact ⟨k + 1, by omega, by go_num, by rw [HN.out, F4.out]⟩
          case measure => simp [intOf]; omega
        · obtain rfl : k = T := by omega
          have i1 : ¬ (k : Int) < (k : Int) := by omega
          have ht : ds.take k = ds := List.take_of_length_le (by rw [← HT.out]; exact Nat.le_refl _)
          rw [ht]
          obtain ⟨L, hL⟩ : ∃ L, L = lk j ds := ⟨_, rfl⟩
          rw [← hL]
          have HLL := Lib.hid hL
          clear ht hL
          go_wp2
          go_ret
          exact ⟨by rw [← HLL.out]; rfl, B1.out⟩
end Go.Proofs.YtfhbnfhmicaklaaDoor.S7
