/-
  Rounding to nearest, ties to even: which rung a number has. Plain facts, of no program.
-/
import Derived.Test.YtkanckphkmilkaaFl2
namespace Go.Proofs.Ytkanckphkmilkaa.F
set_option linter.unusedSimpArgs false
set_option linter.unusedVariables false
open Ieee

theorem val_at (e k : Nat) (h1 : k ≤ 2 * 4503599627370496) (h2 : e = 0 ∨ 4503599627370496 ≤ k) : val (e * 4503599627370496 + k) = k * 2 ^ e := by
  unfold val
  rcases Nat.lt_or_ge k 4503599627370496 with h | h
  · obtain rfl : e = 0 := by omega
    rw [if_pos (by omega)]
    simp
  · rw [if_neg (by omega)]
    rcases Nat.lt_or_ge k (2 * 4503599627370496) with h3 | h3
    · rw [show (e * 4503599627370496 + k) % 4503599627370496 = k - 4503599627370496 by omega, show (e * 4503599627370496 + k) / 4503599627370496 - 1 = e by omega, show 4503599627370496 + (k - 4503599627370496) = k by omega]
    · obtain rfl : k = 2 * 4503599627370496 := by omega
      rw [show (e * 4503599627370496 + 2 * 4503599627370496) % 4503599627370496 = 0 by omega, show (e * 4503599627370496 + 2 * 4503599627370496) / 4503599627370496 - 1 = e + 1 by omega, Nat.pow_succ]
      omega
/-- Twice the middle between a rung and the one below. -/
def thr (r : Nat) : Nat := val (r - 1) + val r
theorem thr_lt {r : Nat} (h : 1 ≤ r) : thr r < 2 * val r := by
  have := val_mono (r := r - 1) (s := r) (by omega)
  unfold thr; omega
theorem val_le {r s : Nat} (h : r ≤ s) : val r ≤ val s := by
  rcases Nat.eq_or_lt_of_le h with h | h
  · rw [h]; exact Nat.le_refl _
  · exact Nat.le_of_lt (val_mono h)
/-- Cut to the nearest, ties to even. -/
theorem cut_even (s : Bool) (n d k : Nat) (hk : 1 ≤ k) : k ≤ Toward.even.cut s n d ↔ ((2 * k - 1) * 2 ^ d < 2 * n ∨ ((2 * k - 1) * 2 ^ d = 2 * n ∧ k % 2 = 0)) := by
  unfold Toward.cut
  dsimp only
  rcases Nat.lt_or_ge (n.log2 + 2) d with hd | hd
  · -- all is dropped
    have hn : n < 2 ^ (n.log2 + 1) := Nat.lt_log2_self
    have hp : 2 ^ (n.log2 + 2) ≤ 2 ^ d := Nat.pow_le_pow_right (by omega) (by omega)
    have hp2 : 2 ^ (n.log2 + 2) = 2 ^ (n.log2 + 1) * 2 := Nat.pow_succ ..
    have hm : (2 * k - 1) * 2 ^ d ≥ 2 ^ d := Nat.le_mul_of_pos_left _ (by omega)
    rw [Nat.min_eq_right (by omega), Nat.shiftLeft_eq, Nat.one_mul, Nat.div_eq_of_lt (by omega), Nat.mod_eq_of_lt (by omega), decide_eq_false (by omega)]
    have he : (2 ^ (n.log2 + 2) == 2 * n) = false := by
      rw [beq_eq_false_iff_ne]; omega
    rw [he]
    simp
    omega
  · rw [Nat.min_eq_left hd, Nat.shiftLeft_eq, Nat.one_mul]
    have hg : 0 < 2 ^ d := Nat.two_pow_pos _
    generalize 2 ^ d = g at hg ⊢
    have hr := Nat.mod_lt n hg
    have hn := Nat.div_add_mod n g
    generalize n / g = low at hn ⊢
    generalize n % g = rest at hr hn ⊢
    have hmul : g * low = low * g := Nat.mul_comm _ _
    rcases Nat.lt_trichotomy k (low + 1) with h | h | h
    · -- below
      have h1 : (2 * k - 1) * g < 2 * n := by
        have h2 : (2 * k - 1) * g + g ≤ 2 * (low * g) := by
          have : (2 * k - 1 + 1) * g ≤ (2 * low) * g := Nat.mul_le_mul_right _ (by omega)
          rw [Nat.add_mul, Nat.one_mul, Nat.mul_assoc] at this
          exact this
        omega
      constructor
      · intro _; exact .inl h1
      · intro _; omega
    · subst h
      have h2 : (2 * (low + 1) - 1) * g = 2 * (low * g) + g := by
        rw [show 2 * (low + 1) - 1 = 2 * low + 1 by omega, Nat.add_mul, Nat.one_mul, Nat.mul_assoc]
      rw [h2]
      constructor
      · intro h
        have h3 : (decide (g < 2 * rest) || (g == 2 * rest && low % 2 == 1)) = true := by
          cases hq : (decide (g < 2 * rest) || (g == 2 * rest && low % 2 == 1)) with
          | true => rfl
          | false =>
            exfalso
            rw [hq] at h
            simp only [Bool.toNat_false] at h
            omega
        simp only [Bool.or_eq_true, Bool.and_eq_true, decide_eq_true_eq, beq_iff_eq] at h3
        rcases h3 with h3 | h3
        · left; omega
        · right; omega
      · intro h
        have h3 : (decide (g < 2 * rest) || (g == 2 * rest && low % 2 == 1)) = true := by
          simp only [Bool.or_eq_true, Bool.and_eq_true, decide_eq_true_eq, beq_iff_eq]
          omega
        rw [h3]
        simp
    · -- above
      have h1 : ¬ ((2 * k - 1) * g < 2 * n) ∧ ¬ ((2 * k - 1) * g = 2 * n) := by
        have h2 : 2 * (low * g) + 3 * g ≤ (2 * k - 1) * g := by
          have : (2 * low + 3) * g ≤ (2 * k - 1) * g := Nat.mul_le_mul_right _ (by omega)
          rw [Nat.add_mul, Nat.mul_assoc] at this
          exact this
        omega
      constructor
      · intro h2
        have : (decide (g < 2 * rest) || (g == 2 * rest && low % 2 == 1)).toNat ≤ 1 := by cases (decide (g < 2 * rest) || (g == 2 * rest && low % 2 == 1)) <;> simp
        omega
      · rintro (h2 | h2)
        · exact absurd h2 h1.1
        · exact absurd h2.1 h1.2
theorem nearest_eq (s : Bool) (mag : Nat) (place : Int) (hm : mag ≠ 0) : ∃ e d n : Nat, e = (max (place + mag.log2 - 52) (-1074) + 1074).toNat ∧ double.nearest s mag place = mk s (min (e * 4503599627370496 + Toward.even.cut s n d) 9218868437227405312) ∧
    (∀ c : Nat, 0 ≤ place + 1074 + c → mag * 2 ^ (place + 1074 + c).toNat * 2 ^ d = n * 2 ^ (e + c)) ∧ n < 2 * 4503599627370496 * 2 ^ d ∧ (0 < e → 4503599627370496 * 2 ^ d ≤ n) := by
  have l1 : 2 ^ mag.log2 ≤ mag := Nat.log2_self_le hm
  have l2 : mag < 2 ^ (mag.log2 + 1) := Nat.lt_log2_self
  have hBB : 4503599627370496 = 2 ^ 52 := by decide
  have hB2 : 2 * 4503599627370496 = 2 ^ 53 := by decide
  obtain ⟨last, hl⟩ : ∃ last, last = max (place + mag.log2 - 52) (-1074 : Int) := ⟨_, rfl⟩
  refine ⟨(last + 1074).toNat, (last - place).toNat, mag <<< (place - last).toNat, by rw [hl], ?_, ?_, ?_, ?_⟩
  · unfold Format.nearest
    rw [if_neg hm]
    simp only [d_bi, d_ir, d_lp, mk_word, show (double.fractionBits : Int) = 52 from rfl, ← hl]
    rw [show last - (-1074 : Int) = last + 1074 by omega]
  · intro c hc
    rw [Nat.shiftLeft_eq, Nat.mul_assoc, Nat.mul_assoc, ← Nat.pow_add, ← Nat.pow_add]
    congr 2
    omega
  · rw [Nat.shiftLeft_eq, hB2, ← Nat.pow_add]
    calc mag * 2 ^ (place - last).toNat < 2 ^ (mag.log2 + 1) * 2 ^ (place - last).toNat := Nat.mul_lt_mul_of_pos_right l2 (Nat.two_pow_pos _)
      _ = 2 ^ (mag.log2 + 1 + (place - last).toNat) := (Nat.pow_add ..).symm
      _ ≤ 2 ^ (53 + (last - place).toNat) := Nat.pow_le_pow_right (by omega) (by omega)
  · intro he
    rw [Nat.shiftLeft_eq, hBB, ← Nat.pow_add]
    calc 2 ^ (52 + (last - place).toNat) ≤ 2 ^ (mag.log2 + (place - last).toNat) := Nat.pow_le_pow_right (by omega) (by omega)
      _ = 2 ^ mag.log2 * 2 ^ (place - last).toNat := Nat.pow_add ..
      _ ≤ mag * 2 ^ (place - last).toNat := Nat.mul_le_mul_right _ l1
theorem cut_top {n d kept : Nat} (hlt : n < 2 * 4503599627370496 * 2 ^ d) (hcut : ∀ k, 1 ≤ k → (k ≤ kept ↔ ((2 * k - 1) * 2 ^ d < 2 * n ∨ ((2 * k - 1) * 2 ^ d = 2 * n ∧ k % 2 = 0)))) : kept ≤ 2 * 4503599627370496 := by
  rcases Nat.lt_or_ge (2 * 4503599627370496) kept with h | h
  · exfalso
    have h1 : (2 * (2 * 4503599627370496 + 1) - 1) * 2 ^ d ≤ 2 * n := by
      rcases (hcut (2 * 4503599627370496 + 1) (Nat.le_add_left 1 _)).1 (Nat.succ_le_of_lt h) with h1 | h1
      · exact Nat.le_of_lt h1
      · exact Nat.le_of_eq h1.1
    clear hcut h
    simp only [Nat.reduceMul, Nat.reduceAdd, Nat.reduceSub] at h1 hlt
    generalize 2 ^ d = g at h1 hlt
    omega
  · exact h
theorem cut_low {n d kept : Nat} (hB : 4503599627370496 * 2 ^ d ≤ n) (hcut : ∀ k, 1 ≤ k → (k ≤ kept ↔ ((2 * k - 1) * 2 ^ d < 2 * n ∨ ((2 * k - 1) * 2 ^ d = 2 * n ∧ k % 2 = 0)))) : 4503599627370496 ≤ kept := by
  refine (hcut 4503599627370496 (by decide)).2 (.inl ?_)
  clear hcut
  have hd : 0 < 2 ^ d := Nat.two_pow_pos _
  simp only [Nat.reduceMul, Nat.reduceSub]
  generalize 2 ^ d = g at hB hd ⊢
  omega
theorem q_cases (e q : Nat) (h : 1 ≤ q) : (q ≤ e * 4503599627370496 + 4503599627370496 ∧ 0 < e) ∨ (∃ k, q = e * 4503599627370496 + k ∧ 1 ≤ k ∧ k ≤ 2 * 4503599627370496 ∧ (e = 0 ∨ 4503599627370496 < k)) ∨ e * 4503599627370496 + 2 * 4503599627370496 < q := by
  by_cases h1 : e * 4503599627370496 + 2 * 4503599627370496 < q
  · exact .inr (.inr h1)
  · by_cases h2 : 0 < e ∧ q ≤ e * 4503599627370496 + 4503599627370496
    · exact .inl ⟨h2.2, h2.1⟩
    · refine .inr (.inl ⟨q - e * 4503599627370496, ?_, ?_, ?_, ?_⟩) <;> omega
theorem par_at (e k : Nat) : (e * 4503599627370496 + k) % 2 = k % 2 := by omega
/-- Above which numbers a rung is reached. -/
theorem nearest_rung (s : Bool) (mag : Nat) (place : Int) (hm : mag ≠ 0) : ∃ e r : Nat, e = (max (place + mag.log2 - 52) (-1074) + 1074).toNat ∧ r ≤ 9218868437227405312 ∧ double.nearest s mag place = mk s r ∧
    (∀ q, 1 ≤ q → q ≤ 9218868437227405312 → ∀ c : Nat, 0 ≤ place + 1074 + c → (q ≤ r ↔ (thr q * 2 ^ c < 2 * (mag * 2 ^ (place + 1074 + c).toNat) ∨ (thr q * 2 ^ c = 2 * (mag * 2 ^ (place + 1074 + c).toNat) ∧ q % 2 = 0)))) := by
  obtain ⟨e, d, n, he, hn, hA, hlt, hge⟩ := nearest_eq s mag place hm
  refine ⟨e, _, he, Nat.min_le_right _ _, hn, fun q q1 q2 c hc => ?_⟩
  have hA := hA c hc
  generalize mag * 2 ^ (place + 1074 + c).toNat = A at hA ⊢
  have hd : 0 < 2 ^ d := Nat.two_pow_pos _
  have hc2 : 0 < 2 ^ c := Nat.two_pow_pos _
  have hec : 2 ^ (e + c) = 2 ^ e * 2 ^ c := Nat.pow_add ..
  have hpe : 0 < 2 ^ (e + c) := Nat.two_pow_pos _
  have hcut := fun k hk => cut_even s n d k hk
  generalize Toward.even.cut s n d = kept at hcut ⊢
  have hk2 : kept ≤ 2 * 4503599627370496 := cut_top hlt hcut
  have hA2 : A < 2 * 4503599627370496 * 2 ^ (e + c) := by
    have h1 : A * 2 ^ d < 2 * 4503599627370496 * 2 ^ (e + c) * 2 ^ d := by
      rw [hA]
      calc n * 2 ^ (e + c) < 2 * 4503599627370496 * 2 ^ d * 2 ^ (e + c) := Nat.mul_lt_mul_of_pos_right hlt hpe
        _ = 2 * 4503599627370496 * 2 ^ (e + c) * 2 ^ d := by rw [Nat.mul_assoc, Nat.mul_comm (2 ^ d), ← Nat.mul_assoc]
    exact Nat.lt_of_mul_lt_mul_right h1
  have hmin : q ≤ min (e * 4503599627370496 + kept) 9218868437227405312 ↔ q ≤ e * 4503599627370496 + kept := ⟨fun h => Nat.le_trans h (Nat.min_le_left _ _), fun h => Nat.le_min.2 ⟨h, q2⟩⟩
  rw [hmin]
  clear hmin
  rcases q_cases e q q1 with ⟨hq, he0⟩ | ⟨k, rfl, hk1, hk3, hkk⟩ | hq
  · -- below this binade
    have hB := hge he0
    have hkB : 4503599627370496 ≤ kept := cut_low hB hcut
    have hA1 : 4503599627370496 * 2 ^ (e + c) ≤ A := by
      have h1 : 4503599627370496 * 2 ^ (e + c) * 2 ^ d ≤ A * 2 ^ d := by
        rw [hA]
        calc 4503599627370496 * 2 ^ (e + c) * 2 ^ d = 4503599627370496 * 2 ^ d * 2 ^ (e + c) := by rw [Nat.mul_assoc, Nat.mul_comm (2 ^ (e + c)), ← Nat.mul_assoc]
          _ ≤ n * 2 ^ (e + c) := Nat.mul_le_mul_right _ hB
      exact Nat.le_of_mul_le_mul_right h1 hd
    have hT : thr q * 2 ^ c < 2 * A := by
      have h2 : val q ≤ 4503599627370496 * 2 ^ e := by
        have := val_le hq
        rwa [val_at e 4503599627370496 (by decide) (.inr (Nat.le_refl _))] at this
      have h3 : thr q * 2 ^ c < 2 * (4503599627370496 * 2 ^ e) * 2 ^ c := Nat.mul_lt_mul_of_pos_right (Nat.lt_of_lt_of_le (thr_lt q1) (Nat.mul_le_mul_left 2 h2)) hc2
      rw [Nat.mul_assoc, Nat.mul_assoc, ← hec] at h3
      exact Nat.lt_of_lt_of_le h3 (Nat.mul_le_mul_left 2 hA1)
    exact ⟨fun _ => .inl hT, fun _ => Nat.le_trans hq (Nat.add_le_add_left hkB _)⟩
  · have hv1 : val (e * 4503599627370496 + k) = k * 2 ^ e := val_at e k hk3 (hkk.imp id Nat.le_of_lt)
    have hv2 : val (e * 4503599627370496 + k - 1) = (k - 1) * 2 ^ e := by
      rw [Nat.add_sub_assoc hk1]
      exact val_at e (k - 1) (Nat.le_trans (Nat.sub_le _ _) hk3) (hkk.imp id Nat.le_sub_one_of_lt)
    have hT : thr (e * 4503599627370496 + k) * 2 ^ c = (2 * k - 1) * 2 ^ (e + c) := by
      unfold thr
      rw [hv1, hv2, ← Nat.add_mul, hec, Nat.mul_assoc]
      clear hv1 hv2 hA2 hA hlt hge hcut hn he
      congr 1
      omega
    have hcm : ∀ x : Nat, x * 2 ^ d * 2 ^ (e + c) = x * 2 ^ (e + c) * 2 ^ d := fun x => by rw [Nat.mul_assoc, Nat.mul_comm (2 ^ d), ← Nat.mul_assoc]
    have h2A : 2 * A * 2 ^ d = 2 * n * 2 ^ (e + c) := by rw [Nat.mul_assoc, hA, Nat.mul_assoc]
    rw [hT]
    have hlt' : (2 * k - 1) * 2 ^ (e + c) < 2 * A ↔ (2 * k - 1) * 2 ^ d < 2 * n := by
      constructor
      · intro h
        have h1 := Nat.mul_lt_mul_of_pos_right h hd
        rw [h2A, ← hcm] at h1
        exact Nat.lt_of_mul_lt_mul_right h1
      · intro h
        have h1 := Nat.mul_lt_mul_of_pos_right h hpe
        rw [← h2A, hcm] at h1
        exact Nat.lt_of_mul_lt_mul_right h1
    have heq' : (2 * k - 1) * 2 ^ (e + c) = 2 * A ↔ (2 * k - 1) * 2 ^ d = 2 * n := by
      constructor
      · intro h
        refine Nat.eq_of_mul_eq_mul_right hpe ?_
        rw [hcm, h, h2A]
      · intro h
        refine Nat.eq_of_mul_eq_mul_right hd ?_
        rw [← hcm, h, h2A]
    rw [hlt', heq', par_at e k]
    exact ⟨fun h => (hcut k hk1).1 (Nat.le_of_add_le_add_left h), fun h => Nat.add_le_add_left ((hcut k hk1).2 h) _⟩
  · -- above this binade
    have hT : 2 * A < thr q * 2 ^ c := by
      have h1 : 2 * 4503599627370496 * 2 ^ e ≤ val (q - 1) := by
        have := val_le (r := e * 4503599627370496 + 2 * 4503599627370496) (s := q - 1) (Nat.le_sub_one_of_lt hq)
        rwa [val_at e (2 * 4503599627370496) (Nat.le_refl _) (.inr (by decide))] at this
      have h2 := val_le (r := q - 1) (s := q) (Nat.sub_le _ _)
      have h3 : 2 * (2 * 4503599627370496 * 2 ^ e) * 2 ^ c ≤ thr q * 2 ^ c := by
        refine Nat.mul_le_mul_right _ ?_
        unfold thr
        rw [Nat.two_mul]
        exact Nat.add_le_add h1 (Nat.le_trans h1 h2)
      rw [Nat.mul_assoc, Nat.mul_assoc, ← hec] at h3
      exact Nat.lt_of_lt_of_le (Nat.mul_lt_mul_of_pos_left hA2 (by decide)) h3
    refine ⟨fun h => ?_, ?_⟩
    · exact absurd (Nat.le_trans h (Nat.add_le_add_left hk2 _)) (Nat.not_le_of_lt hq)
    · rintro (h | h)
      · exact absurd h (Nat.lt_asymm hT)
      · exact absurd h.1.symm (Nat.ne_of_lt hT)
end Go.Proofs.Ytkanckphkmilkaa.F
