/-
  What the document's own Of of layer 7 does. No statement is proved here.
-/
import Derived.Test.YtfhbnfhmicaklaaDoorDigS
namespace Go.Proofs.YtfhbnfhmicaklaaDoor.S7
set_option linter.unusedSimpArgs false
set_option linter.unusedVariables false
open Go.RowKit

set_option maxHeartbeats 2000000 in
theorem rof_none (A : Option Addr) (n c : Nat) (w : Int) (W : World) (hw : mayB w = false) :
    Calls Tryd.prog 15 #[.slice A n c, .int .i64 w] W fun e w' => e = .returned (.slice none 0 0) ∧ W = w' := by
  have HM := Lib.hid (show ∀ X, Calls Tryd.prog 12 #[.int .i64 w] X fun e w' => e = .returned (.bool false) ∧ X = w' from fun X => by rw [← hw]; exact rmay_any w X)
  clear hw
  go_enter Tryd.func15, Tryd.ntmps15
  go_wp2_with (go_at_call 12; ((with_reducible refine (HM.out _).mono ?_); rintro e w1 ⟨rfl, rfl⟩))
  go_ret
  exact ⟨rfl, rfl⟩
set_option maxHeartbeats 4000000 in
theorem rof_any (A : Option Addr) (n c : Nat) (xs : List UInt8) (v : Nat) (W : World) (hr : Rd W A n c xs) (hv : wid v) (hm : n ≤ 1000000) :
    Calls Tryd.prog 15 #[.slice A n c, .int .i64 (v : Int)] W (NewI W.heap.size W (ofL v xs)) := by
  have HM := Lib.hid (show ∀ X, Calls Tryd.prog 12 #[.int .i64 (v : Int)] X fun e w' => e = .returned (.bool true) ∧ X = w' from fun X => by rw [← may_wid hv]; exact rmay_any v X)
  have HV := Lib.hid hv
  have HR := Lib.hid hr
  have HL := Lib.hid hr.len
  obtain ⟨h8, hv1, hv8⟩ := wid_div hv
  have H8 := Lib.hid h8
  clear hv hr
  have e8 : IntKind.i64.wrap (8 * (n : Int)) = 8 * (n : Int) := by rw [IntKind.wrap_i64]; omega
  clear h8
  go_enter Tryd.func15, Tryd.ntmps15
  go_wp2_with (go_at_call 12; ((with_reducible refine (HM.out _).mono ?_); rintro e w1 ⟨rfl, rfl⟩))
  go_loopw [5, 6, 7, 8, 9] (fun out at_ _ _ _ wr => ∃ k a : Nat, k ≤ n * (8 / v) ∧ a = v * k ∧ at_ = .int .i64 (a : Int) ∧ wr.ownsRow W.heap.size 3 1 out k (iv ((ofL v xs).take k)) ∧ Below W.heap.size W wr) (fun _ at_ _ _ _ _ => 8 * n - (intOf at_).toNat)
  case atStart => exact ⟨0, 0, by omega, by simp, rfl, own_nili _ _, Below.refl _ _⟩
  case round =>
    obtain ⟨k, a, hk, ha, rfl, own, hB⟩ := hrel
    have h8n : v * (n * (8 / v)) = 8 * n := by rw [Nat.mul_left_comm, H8.out, Nat.mul_comm]
    by_cases hlt : a < 8 * n
    · have i0 : (a : Int) < 8 * (n : Int) := by omega
      have hkl : k < n * (8 / v) := by
        apply Classical.byContradiction
        intro hh
        have : v * (n * (8 / v)) ≤ v * k := Nat.mul_le_mul_left _ (by omega)
        omega
      obtain ⟨q, hq⟩ : ∃ q, q = a / 8 := ⟨_, rfl⟩
      obtain ⟨o, ho⟩ : ∃ o, o = a % 8 := ⟨_, rfl⟩
      have hao : a = 8 * q + o := by omega
      have ho8 : o + v ≤ 8 := by
        have hd : a % v = 0 := by rw [ha]; exact Nat.mul_mod_right v k
        rcases HV.out with h | h | h | h <;> subst h <;> omega
      have hov : o % v = 0 := by
        have hd : a % v = 0 := by rw [ha]; exact Nat.mul_mod_right v k
        rcases HV.out with h | h | h | h <;> subst h <;> omega
      have hqn : q < n := by omega
      obtain ⟨x, hx⟩ : ∃ x, x = (xs.getD q 0).toNat := ⟨_, rfl⟩
      have hx256 : x < 256 := by rw [hx]; exact UInt8.toNat_lt _
      have HT := Lib.hid (show (ofL v xs).take (k + 1) = (ofL v xs).take k ++ [x / 2 ^ (8 - o - v) % 2 ^ v] by
        rw [ofL_take v HV.out xs k (by rw [HL.out]; exact hkl), ← ha, ← hq, ← ho, ← hx, bit_all v x o HV.out hov (by omega)])
      have hr := HR.out.below hB
      obtain ⟨b, off, rfl, hbk, hcell⟩ := hr.at_ (by omega)
      have hc := hcell q hqn
      rw [← hx] at hc
      have HA := Lib.hid ha
      have HO := Lib.hid own
      have HBB := Lib.hid hB
      have HAO := Lib.hid hao
      clear hcell hx hq ho ha hov h8n own hB hr hao
      go_wp2
      go_loop [7, 8, 9] (fun d i _ => ∃ j : Nat, j ≤ v ∧ i = .int .i64 (j : Int) ∧ d = .int .i64 ((x / 2 ^ (8 - o - j) % 2 ^ j : Nat) : Int)) (fun _ i _ => v - (intOf i).toNat)
      case atStart => exact ⟨0, by omega, rfl, by simp [Nat.mod_one]⟩
      case round =>
        obtain ⟨j, hj, rfl, rfl⟩ := hrel
        by_cases hlt2 : j < v
        · have i1 : (j : Int) < (v : Int) := by omega
          obtain ⟨D, hD⟩ : ∃ D, D = x / 2 ^ (8 - o - j) % 2 ^ j := ⟨_, rfl⟩
          have hD2 : D < 256 := by
            have h1 : D < 2 ^ j := by rw [hD]; exact Nat.mod_lt _ (Nat.two_pow_pos _)
            have h2 : 2 ^ j ≤ 2 ^ 8 := Nat.pow_le_pow_right (by omega) (by omega)
            omega
          obtain ⟨S, hS⟩ : ∃ S, S = 7 - (o + j) := ⟨_, rfl⟩
          obtain ⟨Y, hY⟩ : ∃ Y, Y = x / 2 ^ S := ⟨_, rfl⟩
          have hYx : Y ≤ x := by rw [hY]; exact Nat.div_le_self _ _
          have HN := Lib.hid (show x / 2 ^ (8 - o - (j + 1)) % 2 ^ (j + 1) = D * 2 + Y % 2 by rw [hD, hY, hS, bit_step x o j (by omega)])
          rw [← hD]
          have hao := HAO.out
          have f1 : IntKind.i64.wrap ((a : Int) + (j : Int)) = (a : Int) + (j : Int) := by rw [IntKind.wrap_i64]; omega
          have f2 : ((a : Int) + (j : Int)) / 8 = (q : Int) := by omega
          have f2' : ((a : Int) + (j : Int)).tdiv 8 = (q : Int) := by rw [Int.tdiv_eq_ediv_of_nonneg (by omega)]; exact f2
          have f3 : ((a : Int) + (j : Int)) % 8 = (o : Int) + (j : Int) := by omega
          have f3' : ((a : Int) + (j : Int)).tmod 8 = (o : Int) + (j : Int) := by rw [Int.tmod_eq_emod_of_nonneg (by omega)]; exact f3
          have f4 : IntKind.i64.wrap (7 - ((o : Int) + (j : Int))) = (S : Int) := by rw [IntKind.wrap_i64]; omega
          have f4' : (7 : Int) - ((o : Int) + (j : Int)) = (S : Int) := by omega
          have f5 : (x : Int) / 2 ^ S = (Y : Int) := by rw [hY]; simp
          have HQ := Lib.hid hqn
          clear hD hS hY hao
          go_wp2
          go_round
          case rel => exact ⟨j + 1, by omega, by go_num, by rw [HN.out]; go_num⟩
          case measure => simp [intOf]; omega
        · obtain rfl : j = v := by omega
          have i1 : ¬ (j : Int) < (j : Int) := by omega
          obtain ⟨D, hD⟩ : ∃ D, D = x / 2 ^ (8 - o - j) % 2 ^ j := ⟨_, rfl⟩
          have HT2 := Lib.hid (show (ofL j xs).take (k + 1) = (ofL j xs).take k ++ [D] by rw [hD]; exact HT.out)
          rw [← hD]
          have g1 : IntKind.i64.wrap ((a : Int) + (j : Int)) = (a : Int) + (j : Int) := by rw [IntKind.wrap_i64]; omega
          have hl := Lib.hid (ri_lit wr #[.int .i64 (D : Int)] [D] rfl (by simp [maxLen]) _ rfl)
          have HAJ := Lib.hid (show a + j = j * (k + 1) by rw [HA.out, Nat.mul_succ])
          have hk1 : k + 1 ≤ n * (8 / j) := by omega
          have hkb : k ≤ 8000000 := by
            have h1 : n * (8 / j) ≤ n * 8 := Nat.mul_le_mul_left _ (Nat.div_le_self _ _)
            omega
          clear hD
          go_wp2_with (at_builtin; refine append_ri rfl (.tmp 46) (.tmp 48) rfl W.heap.size _ k _ rfl (own_alloc HO.out _) _ 1 1 [D] rfl hl.out (by omega) (by have := HBB.out.size; simp; omega) ?_; intro v1 w2 o1 g2; have O1 := Lib.hid o1; have B1 := Lib.hid ((HBB.out.alloc HBB.out.size _).grown g2 (by have := HBB.out.size; simp; omega) (fun g hg => (HO.out.lt g hg).1)); clear o1 g2)
          go_roundw
          case rel => exact ⟨k + 1, a + j, hk1, HAJ.out, by go_num, by rw [HT2.out]; exact O1.out, B1.out⟩
          case measure => simp [intOf]; omega
    · have i0 : ¬ (a : Int) < 8 * (n : Int) := by omega
      have hkn : n * (8 / v) ≤ k := by
        apply Nat.le_of_mul_le_mul_left (c := v) _ (by omega)
        rw [h8n, ← ha]
        omega
      have hf : (ofL v xs).take k = ofL v xs := List.take_of_length_le (by rw [ofL_length, HL.out]; exact hkn)
      rw [hf] at own
      clear ha hf h8n
      go_wp2
      go_ret
      exact NewI.mk own hB
end Go.Proofs.YtfhbnfhmicaklaaDoor.S7
