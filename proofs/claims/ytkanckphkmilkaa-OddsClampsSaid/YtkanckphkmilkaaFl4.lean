/-
  Dividing, rounded: it goes by the exact quotient, so it never falls where the dividend rises. Whole numbers as floating ones. Plain facts, of no program.
-/
import Derived.Test.YtkanckphkmilkaaFl3
namespace Go.Proofs.Ytkanckphkmilkaa.F
set_option linter.unusedSimpArgs false
set_option linter.unusedVariables false
open Ieee

theorem q_form (q : Nat) (h : 1 ≤ q) : ∃ e k, q = e * 4503599627370496 + k ∧ 1 ≤ k ∧ k ≤ 2 * 4503599627370496 ∧ (e = 0 ∨ 4503599627370496 < k) := by
  rcases Nat.lt_or_ge (2 * 4503599627370496) q with h1 | h1
  · refine ⟨(q - 1) / 4503599627370496 - 1, q - ((q - 1) / 4503599627370496 - 1) * 4503599627370496, ?_, ?_, ?_, ?_⟩ <;> omega
  · exact ⟨0, q, by omega, h, h1, .inl rfl⟩
theorem thr_form {e k : Nat} (hk1 : 1 ≤ k) (hk3 : k ≤ 2 * 4503599627370496) (hkk : e = 0 ∨ 4503599627370496 < k) : thr (e * 4503599627370496 + k) = (2 * k - 1) * 2 ^ e := by
  have hv1 : val (e * 4503599627370496 + k) = k * 2 ^ e := val_at e k hk3 (hkk.imp id Nat.le_of_lt)
  have hv2 : val (e * 4503599627370496 + k - 1) = (k - 1) * 2 ^ e := by
    rw [Nat.add_sub_assoc hk1]
    exact val_at e (k - 1) (Nat.le_trans (Nat.sub_le _ _) hk3) (hkk.imp id Nat.le_sub_one_of_lt)
  unfold thr
  rw [hv1, hv2, ← Nat.add_mul]
  congr 1
  clear hv1 hv2
  omega
/-- The quotient to a digit more than is needed, the last one told by what is left over, stands to every even number as the exact quotient does. -/
theorem sticky {n dv : Nat} (hn : 0 < n) (t : Nat) : (2 * t < 2 * (dv / n) + (dv % n != 0).toNat ↔ t * n < dv) ∧ (2 * t = 2 * (dv / n) + (dv % n != 0).toNat ↔ t * n = dv) := by
  have hd := Nat.div_add_mod dv n
  have hr := Nat.mod_lt dv hn
  generalize dv / n = D at hd ⊢
  generalize dv % n = R at hd hr ⊢
  subst hd
  rw [Nat.mul_comm n D]
  have hlo : t < D → t * n + n ≤ D * n := fun h => by rw [← Nat.succ_mul]; exact Nat.mul_le_mul_right _ h
  have hhi : D < t → D * n + n ≤ t * n := fun h => by rw [← Nat.succ_mul]; exact Nat.mul_le_mul_right _ h
  have hme : t = D → t * n = D * n := fun h => by rw [h]
  by_cases hR : R = 0
  · have hst : (R != 0).toNat = 0 := by simp [hR]
    rw [hst]
    subst hR
    rcases Nat.lt_trichotomy t D with h | h | h
    · have := hlo h; clear hlo hhi hme; constructor <;> constructor <;> intro <;> omega
    · have := hme h; clear hlo hhi hme; constructor <;> constructor <;> intro <;> omega
    · have := hhi h; clear hlo hhi hme; constructor <;> constructor <;> intro <;> omega
  · have hst : (R != 0).toNat = 1 := by simp [hR]
    rw [hst]
    rcases Nat.lt_trichotomy t D with h | h | h
    · have := hlo h; clear hlo hhi hme; constructor <;> constructor <;> intro <;> omega
    · have := hme h; clear hlo hhi hme; constructor <;> constructor <;> intro <;> omega
    · have := hhi h; clear hlo hhi hme; constructor <;> constructor <;> intro <;> omega
theorem div_thr {x y E : Nat} (hE : E = 1074) (hx : rg x < 9218868437227405312) (hx0 : rg x ≠ 0) (hy : rg y < 9218868437227405312) (hy0 : rg y ≠ 0) : ∃ r, r ≤ 9218868437227405312 ∧ double.div x y = some (mk (sg x ^^ sg y) r) ∧
    ∀ q, 1 ≤ q → q ≤ 9218868437227405312 → (q ≤ r ↔ (thr q * val (rg y) < 2 * (val (rg x) * 2 ^ E) ∨ (thr q * val (rg y) = 2 * (val (rg x) * 2 ^ E) ∧ q % 2 = 0))) := by
  obtain ⟨m, p, e1, lp, v1⟩ := read_fin hx
  obtain ⟨n, j, e2, lj, v2⟩ := read_fin hy
  have hm : ¬ m = 0 := fun h => hx0 ((mag_zero v1).1 h)
  have hn : ¬ n = 0 := fun h => hy0 ((mag_zero v2).1 h)
  have hn0 : 0 < n := Nat.pos_of_ne_zero hn
  obtain ⟨more, hmore⟩ : ∃ more, more = double.fractionBits + 2 + n.log2 - m.log2 := ⟨_, rfl⟩
  have hmore' : 54 + n.log2 ≤ more + m.log2 := by
    have : double.fractionBits = 52 := rfl
    omega
  obtain ⟨dv, hdv⟩ : ∃ dv, dv = m * 2 ^ more := ⟨_, rfl⟩
  obtain ⟨mag, hmag⟩ : ∃ mag, mag = 2 * (dv / n) + (dv % n != 0).toNat := ⟨_, rfl⟩
  have hst := fun t => sticky (dv := dv) hn0 t
  rw [← hmag] at hst
  have hbig : 2 ^ 53 * n ≤ dv := by
    have h1 : n < 2 ^ (n.log2 + 1) := Nat.lt_log2_self
    have h2 : 2 ^ m.log2 ≤ m := Nat.log2_self_le hm
    calc 2 ^ 53 * n ≤ 2 ^ 53 * 2 ^ (n.log2 + 1) := Nat.mul_le_mul_left _ (Nat.le_of_lt h1)
      _ = 2 ^ (53 + (n.log2 + 1)) := (Nat.pow_add ..).symm
      _ ≤ 2 ^ (m.log2 + more) := Nat.pow_le_pow_right (by omega) (by omega)
      _ = 2 ^ m.log2 * 2 ^ more := Nat.pow_add ..
      _ ≤ dv := by rw [hdv]; exact Nat.mul_le_mul_right _ h2
  have hmag54 : 2 ^ 54 ≤ mag := by
    rcases Nat.lt_or_ge mag (2 ^ 54) with h | h
    · exfalso
      have h1 : ¬ 2 * 2 ^ 53 < mag := by
        have : 2 * 2 ^ 53 = 2 ^ 54 := by decide
        omega
      have h2 : ¬ 2 * 2 ^ 53 = mag := by
        have : 2 * 2 ^ 53 = 2 ^ 54 := by decide
        omega
      have h3 : ¬ 2 ^ 53 * n < dv := fun h => h1 ((hst _).1.2 h)
      have h4 : ¬ 2 ^ 53 * n = dv := fun h => h2 ((hst _).2.2 h)
      omega
    · exact h
  have hmag0 : mag ≠ 0 := by
    have : 0 < 2 ^ 54 := Nat.two_pow_pos _
    omega
  have hlog : 54 ≤ mag.log2 := (Nat.le_log2 hmag0).2 hmag54
  obtain ⟨place, hplace⟩ : ∃ place : Int, place = p - j - (more : Int) - 1 := ⟨_, rfl⟩
  obtain ⟨e, r, he, hr, hnear, hthr⟩ := nearest_rung (sg x ^^ sg y) mag place hmag0
  refine ⟨r, hr, ?_, ?_⟩
  · unfold Format.div
    rw [e1, e2]
    simp only [Datum.quotient, if_neg hn, Option.map_some, ← hmore, Nat.shiftLeft_eq, ← hdv, ← hmag, ← hplace]
    exact congrArg some hnear
  · intro q q1 q2
    obtain ⟨J, hJ⟩ : ∃ J : Nat, J = (j - (-1074)).toNat := ⟨_, rfl⟩
    obtain ⟨P, hP⟩ : ∃ P : Nat, P = (p - (-1074)).toNat := ⟨_, rfl⟩
    obtain ⟨c, hc⟩ : ∃ c : Nat, c = J + more + 1 := ⟨_, rfl⟩
    obtain ⟨s, hs⟩ : ∃ s : Nat, s = P + E := ⟨_, rfl⟩
    have hsc : (place + 1074 + c).toNat = s := by omega
    have h9 := hthr q q1 q2 c (by omega)
    rw [hsc] at h9
    rw [h9]
    clear h9 hthr hnear
    rw [← hJ] at v2
    rw [← hP] at v1
    -- the exact numbers, both sides times 2 ^ (more + 1)
    have hl : thr q * val (rg y) * 2 ^ (more + 1) = thr q * 2 ^ c * n := by
      rw [← v2, hc, Nat.mul_assoc, Nat.mul_assoc, Nat.mul_assoc, Nat.mul_comm (2 ^ (J + more + 1)) n, show J + more + 1 = J + (more + 1) by omega, Nat.pow_add 2 J]
    have hr2 : 2 * (val (rg x) * 2 ^ E) * 2 ^ (more + 1) = 2 * (2 * dv * 2 ^ s) := by
      have : m * 2 ^ P * 2 ^ E * 2 ^ (more + 1) = 2 * (m * 2 ^ more) * 2 ^ s := by
        rw [Nat.mul_comm 2, Nat.mul_assoc m, Nat.mul_assoc m, ← Nat.pow_add, ← Nat.pow_add, Nat.mul_assoc m, ← Nat.pow_succ, Nat.mul_assoc m, ← Nat.pow_add]
        congr 2
        omega
      rw [← v1, hdv, Nat.mul_assoc 2, this]
    have hpm : 0 < 2 ^ (more + 1) := Nat.two_pow_pos _
    have hlt : thr q * val (rg y) < 2 * (val (rg x) * 2 ^ E) ↔ thr q * 2 ^ c * n < 2 * (2 * dv * 2 ^ s) := by
      rw [← hl, ← hr2]
      exact ⟨fun h => Nat.mul_lt_mul_of_pos_right h hpm, fun h => Nat.lt_of_mul_lt_mul_right h⟩
    have heq : thr q * val (rg y) = 2 * (val (rg x) * 2 ^ E) ↔ thr q * 2 ^ c * n = 2 * (2 * dv * 2 ^ s) := by
      rw [← hl, ← hr2]
      exact ⟨fun h => by rw [h], fun h => Nat.eq_of_mul_eq_mul_right hpm h⟩
    rw [hlt, heq]
    clear hlt heq hl hr2 hpm v1 v2
    obtain ⟨f, k, rfl, k1, k2, k3⟩ := q_form q q1
    rw [thr_form k1 k2 k3]
    have hps : 0 < 2 ^ s := Nat.two_pow_pos _
    rcases Nat.lt_or_ge f e with hf | hf
    · -- a lower binade
      have hl1 : (2 * k - 1) * 2 ^ f < 2 * (4503599627370496 * 2 ^ e) := by
        have h1 : (2 * k - 1) * 2 ^ f < 2 * (2 * 4503599627370496) * 2 ^ f := Nat.mul_lt_mul_of_pos_right (by clear hst; omega) (Nat.two_pow_pos _)
        have h2 : 2 ^ f * 2 ≤ 2 ^ e := by
          rw [← Nat.pow_succ]
          exact Nat.pow_le_pow_right (by decide) hf
        calc (2 * k - 1) * 2 ^ f < 2 * (2 * 4503599627370496) * 2 ^ f := h1
          _ = 2 * (4503599627370496 * (2 ^ f * 2)) := by rw [Nat.mul_comm 2 4503599627370496, Nat.mul_assoc, Nat.mul_assoc, Nat.mul_comm 2 (2 ^ f)]
          _ ≤ 2 * (4503599627370496 * 2 ^ e) := Nat.mul_le_mul_left _ (Nat.mul_le_mul_left _ h2)
      have hb : 4503599627370496 * 2 ^ e * 2 ^ c = 2 ^ mag.log2 * 2 ^ s := by
        rw [show 4503599627370496 = 2 ^ 52 by decide, ← Nat.pow_add, ← Nat.pow_add, ← Nat.pow_add]
        congr 1
        omega
      have hl2 : (2 * k - 1) * 2 ^ f * 2 ^ c < 2 * (2 ^ mag.log2 * 2 ^ s) := by
        rw [← hb, ← Nat.mul_assoc]
        exact Nat.mul_lt_mul_of_pos_right hl1 (Nat.two_pow_pos _)
      have hA : (2 * k - 1) * 2 ^ f * 2 ^ c < 2 * (mag * 2 ^ s) :=
        Nat.lt_of_lt_of_le hl2 (Nat.mul_le_mul_left _ (Nat.mul_le_mul_right _ (Nat.log2_self_le hmag0)))
      have hB : (2 * k - 1) * 2 ^ f * 2 ^ c * n < 2 * (2 * dv * 2 ^ s) := by
        obtain ⟨l, hl⟩ : ∃ l, mag.log2 = l + 1 := ⟨mag.log2 - 1, by omega⟩
        have h1 : 2 * 2 ^ l ≤ mag := by
          have := Nat.log2_self_le hmag0
          rw [hl, Nat.pow_succ, Nat.mul_comm] at this
          exact this
        have h2 : 2 ^ l * n ≤ dv := by
          rcases Nat.eq_or_lt_of_le h1 with h | h
          · exact Nat.le_of_eq ((hst _).2.1 h)
          · exact Nat.le_of_lt ((hst _).1.1 h)
        calc (2 * k - 1) * 2 ^ f * 2 ^ c * n < 2 * (2 ^ mag.log2 * 2 ^ s) * n := Nat.mul_lt_mul_of_pos_right hl2 hn0
          _ = 2 * (2 * (2 ^ l * n) * 2 ^ s) := by rw [hl, Nat.pow_succ, Nat.mul_comm (2 ^ l) 2, Nat.mul_assoc, Nat.mul_assoc, Nat.mul_assoc, Nat.mul_assoc, Nat.mul_assoc, Nat.mul_comm (2 ^ s) n]
          _ ≤ 2 * (2 * dv * 2 ^ s) := Nat.mul_le_mul_left _ (Nat.mul_le_mul_right _ (Nat.mul_le_mul_left _ h2))
      exact ⟨fun _ => .inl hB, fun _ => .inl hA⟩
    · -- this binade, or a higher one: an even number of units
      obtain ⟨t, ht⟩ : ∃ t, (2 * k - 1) * 2 ^ f * 2 ^ c = 2 * (2 * t * 2 ^ s) := by
        obtain ⟨u, hu⟩ : ∃ u, f + c = s + 2 + u := ⟨f + c - (s + 2), by omega⟩
        refine ⟨(2 * k - 1) * 2 ^ u, ?_⟩
        rw [Nat.mul_assoc, ← Nat.pow_add, hu, Nat.pow_add, Nat.pow_add]
        rw [show (2 : Nat) ^ 2 = 2 * 2 from rfl]
        simp only [Nat.mul_assoc, Nat.mul_left_comm, Nat.mul_comm]
      rw [ht]
      have c1 : 2 * (2 * t * 2 ^ s) < 2 * (mag * 2 ^ s) ↔ 2 * t < mag :=
        ⟨fun h => Nat.lt_of_mul_lt_mul_right (Nat.lt_of_mul_lt_mul_left h), fun h => Nat.mul_lt_mul_of_pos_left (Nat.mul_lt_mul_of_pos_right h hps) (by decide)⟩
      have c2 : 2 * (2 * t * 2 ^ s) = 2 * (mag * 2 ^ s) ↔ 2 * t = mag :=
        ⟨fun h => Nat.eq_of_mul_eq_mul_right hps (Nat.eq_of_mul_eq_mul_left (by decide) h), fun h => by rw [h]⟩
      have c5 : 2 * (2 * t * 2 ^ s) * n = 2 * (2 * (t * n) * 2 ^ s) := by
        simp only [Nat.mul_assoc, Nat.mul_left_comm, Nat.mul_comm]
      have c3 : 2 * (2 * (t * n) * 2 ^ s) < 2 * (2 * dv * 2 ^ s) ↔ t * n < dv :=
        ⟨fun h => Nat.lt_of_mul_lt_mul_left (Nat.lt_of_mul_lt_mul_right (Nat.lt_of_mul_lt_mul_left h)), fun h => Nat.mul_lt_mul_of_pos_left (Nat.mul_lt_mul_of_pos_right (Nat.mul_lt_mul_of_pos_left h (by decide)) hps) (by decide)⟩
      have c4 : 2 * (2 * (t * n) * 2 ^ s) = 2 * (2 * dv * 2 ^ s) ↔ t * n = dv :=
        ⟨fun h => Nat.eq_of_mul_eq_mul_left (by decide) (Nat.eq_of_mul_eq_mul_right hps (Nat.eq_of_mul_eq_mul_left (by decide) h)), fun h => by rw [h]⟩
      rw [c5, c1, c2, c3, c4, (hst t).1, (hst t).2]
end Go.Proofs.Ytkanckphkmilkaa.F
