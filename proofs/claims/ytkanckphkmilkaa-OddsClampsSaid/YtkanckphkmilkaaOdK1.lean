/-
  What the calls of the landed package odds do: Share, Kind, late, Compare, within. No statement is proved here.
-/
import Derived.Test.YtkanckphkmilkaaOdN
namespace Go.Proofs.Ytkanckphkmilkaa.F
set_option linter.unusedSimpArgs false
set_option linter.unusedVariables false
open Go.RowKit

theorem share_any (a b : Nat) (W : World) : Calls Try.prog 17 #[.float .f64 a, .float .f64 b] W fun e w' => ∃ r, e = .returned (.float .f64 r) ∧ Quo a b r ∧ Below W.heap.size W w' := by
  rcases quo_run (P := Try.prog) 22 a b with ⟨s, hs, hrun⟩ | ⟨hs, hrun⟩
  · have HS := Lib.hid hs
    clear hs
    go_enter Try.func17, Try.ntmps17
    go_wp2
    go_ret
    exact ⟨_, rfl, HS.out, Below.refl _ _⟩
  · have HS := Lib.hid hs
    clear hs
    go_enter Try.func17, Try.ntmps17
    go_wp2
    go_ret
    exact ⟨_, rfl, HS.out _ (nanOf_nan _) (nanOf_lt _), (Below.refl _ _).drew⟩
theorem lt_min (a : Nat) : (FloatKind.f64.format.order a 18442240474082181119 == some .lt) = infB true a := by
  show (Ieee.double.order a 18442240474082181119 == some .lt) = _
  rw [ord_lt, show isN 18442240474082181119 = false by decide, show key 18442240474082181119 = -9218868437227405311 by decide]
  unfold infB key isN
  by_cases h : sg a = true
  · rw [h]
    by_cases h2 : rg a = 9218868437227405312
    · rw [h2]; decide
    · rw [decide_eq_false h2]
      by_cases h3 : 9218868437227405312 < rg a
      · rw [decide_eq_true h3]; rfl
      · rw [decide_eq_false h3]
        simp; omega
  · rw [Bool.not_eq_true] at h
    rw [h]; first | (simp; done) | (simp; omega)
theorem ne_zero (a : Nat) : (FloatKind.f64.format.order a 0 != some .eq) = (isN a || decide (rg a ≠ 0)) := by
  show (Ieee.double.order a 0 != some .eq) = _
  rw [ord_ne, show isN 0 = false by decide, show key 0 = 0 by decide]
  simp only [Bool.or_false, ne_eq, decide_not, decide_eq_decide.2 key_zero]
theorem kind_any (a : Nat) (W : World) : Calls Try.prog 12 #[.float .f64 a] W fun e w' => e = .returned (.int .i64 (kindW a : Int)) ∧ Below W.heap.size W w' := by
  have HN := Lib.hid (fun X => isnan_any a X)
  have HS := Lib.hid (fun X => signbit_any a X)
  have h1 := gt_max a
  have h2 := lt_min a
  have h3 := ne_zero a
  cases hn : isN a with
  | true =>
    rw [show kindW a = 5 from kind_nan.2 hn]
    rw [hn] at HN
    clear h1 h2 h3 hn HS
    go_enter Try.func12, Try.ntmps12
    go_wp2_with (first
      | (go_at_call 26; ((with_reducible refine (HN.out _).mono ?_); rintro e w1 ⟨rfl, rfl⟩)))
    go_ret
    exact ⟨rfl, Below.refl _ _⟩
  | false =>
    rw [hn] at HN h3
    rw [Bool.false_or] at h3
    obtain ⟨k, hk⟩ : ∃ k, k = kindW a := ⟨_, rfl⟩
    rw [← hk]
    unfold kindW at hk
    rw [hn, if_neg (by simp)] at hk
    unfold infB at h1 h2
    clear hn
    by_cases hi : rg a = 9218868437227405312
    · rw [if_neg (by omega), if_pos hi] at hk
      rw [decide_eq_true hi, Bool.true_and] at h1 h2
      cases hs : sg a with
      | true =>
        rw [hs] at h1 h2 hk HS
        rw [if_pos rfl] at hk
        subst hk
        clear hs hi h3
        go_enter Try.func12, Try.ntmps12
        go_wp2_with (first
          | (go_at_call 26; ((with_reducible refine (HN.out _).mono ?_); rintro e w1 ⟨rfl, rfl⟩)))
        go_ret
        exact ⟨rfl, Below.refl _ _⟩
      | false =>
        rw [hs] at h1 h2 hk HS
        rw [if_neg (by simp)] at hk
        subst hk
        clear hs hi h3 h2
        go_enter Try.func12, Try.ntmps12
        go_wp2_with (first
          | (go_at_call 26; ((with_reducible refine (HN.out _).mono ?_); rintro e w1 ⟨rfl, rfl⟩)))
        go_ret
        exact ⟨rfl, Below.refl _ _⟩
    · rw [decide_eq_false hi, Bool.false_and] at h1 h2
      by_cases h0 : rg a = 0
      · rw [if_pos h0] at hk
        rw [decide_eq_false (by omega)] at h3
        cases hs : sg a with
        | true =>
          rw [hs] at hk HS
          rw [if_pos rfl] at hk
          subst hk
          clear hs hi h0
          go_enter Try.func12, Try.ntmps12
          go_wp2_with (first
            | (go_at_call 26; ((with_reducible refine (HN.out _).mono ?_); rintro e w1 ⟨rfl, rfl⟩))
            | (go_at_call 27; ((with_reducible refine (HS.out _).mono ?_); rintro e w1 ⟨rfl, rfl⟩)))
          go_ret
          exact ⟨rfl, Below.refl _ _⟩
        | false =>
          rw [hs] at hk HS
          rw [if_neg (by simp)] at hk
          subst hk
          clear hs hi h0
          go_enter Try.func12, Try.ntmps12
          go_wp2_with (first
            | (go_at_call 26; ((with_reducible refine (HN.out _).mono ?_); rintro e w1 ⟨rfl, rfl⟩))
            | (go_at_call 27; ((with_reducible refine (HS.out _).mono ?_); rintro e w1 ⟨rfl, rfl⟩)))
          go_ret
          exact ⟨rfl, Below.refl _ _⟩
      · rw [if_neg h0, if_neg hi] at hk
        rw [decide_eq_true (by omega)] at h3
        subst hk
        clear hi h0 HS
        go_enter Try.func12, Try.ntmps12
        go_wp2_with (first
          | (go_at_call 26; ((with_reducible refine (HN.out _).mono ?_); rintro e w1 ⟨rfl, rfl⟩)))
        go_ret
        exact ⟨rfl, Below.refl _ _⟩
/-- What late tells. -/
def lateW (a : Nat) : Int := if kindW a = 2 then -1 else if kindW a = 5 then 1 else 0
theorem late_any (a : Nat) (W : World) : Calls Try.prog 29 #[.float .f64 a] W fun e w' => e = .returned (.int .i64 (lateW a)) ∧ Below W.heap.size W w' := by
  have HK := Lib.hid (fun X => kind_any a X)
  unfold lateW
  obtain ⟨k, hk⟩ : ∃ k, k = kindW a := ⟨_, rfl⟩
  rw [← hk] at HK ⊢
  clear hk
  by_cases h2 : k = 2
  · subst h2
    rw [if_pos rfl]
    go_enter Try.func29, Try.ntmps29
    go_wp2_with (go_at_call 12; ((with_reducible refine (HK.out _).mono ?_); rintro e w1 ⟨rfl, b1⟩; have B1 := Lib.hid b1; clear b1))
    go_ret
    exact ⟨rfl, B1.out⟩
  · rw [if_neg h2]
    have y2 : ((k : Int) == 2) = false := by simp; omega
    by_cases h5 : k = 5
    · subst h5
      rw [if_pos rfl]
      go_enter Try.func29, Try.ntmps29
      go_wp2_with (go_at_call 12; ((with_reducible refine (HK.out _).mono ?_); rintro e w1 ⟨rfl, b1⟩; have B1 := Lib.hid b1; clear b1))
      go_ret
      exact ⟨rfl, B1.out⟩
    · rw [if_neg h5]
      have y5 : ((k : Int) == 5) = false := by simp; omega
      have z2 : ¬ (k : Int) = 2 := by omega
      have z5 : ¬ (k : Int) = 5 := by omega
      clear h2 h5
      go_enter Try.func29, Try.ntmps29
      go_wp2_with (go_at_call 12; ((with_reducible refine (HK.out _).mono ?_); rintro e w1 ⟨rfl, b1⟩; have B1 := Lib.hid b1; clear b1))
      go_ret
      exact ⟨rfl, B1.out⟩
theorem isnani_any (a : Int) (W : World) : Calls Try.prog 39 #[.int .i64 a] W fun e w' => e = .returned (.bool false) ∧ w' = W := by
  go_enter Try.func39, Try.ntmps39
  go_wp2
  go_ret
  exact ⟨by first | rfl | simp, rfl⟩
/-- Two whole numbers, held against one another. -/
def icmp (a b : Int) : Int := if a < b then -1 else if b < a then 1 else 0
theorem cmpi_any (a b : Int) (W : World) : Calls Try.prog 28 #[.int .i64 a, .int .i64 b] W fun e w' => e = .returned (.int .i64 (icmp a b)) ∧ w' = W := by
  have HA := Lib.hid (fun X => isnani_any a X)
  have HB := Lib.hid (fun X => isnani_any b X)
  obtain ⟨r, hr⟩ : ∃ r, r = icmp a b := ⟨_, rfl⟩
  rw [← hr]
  unfold icmp at hr
  by_cases h : a < b
  · rw [if_pos h] at hr
    subst hr
    go_enter Try.func28, Try.ntmps28
    go_wp2_with (first
      | (go_at_call 39; ((with_reducible refine (HA.out _).mono ?_); rintro e w1 ⟨rfl, rfl⟩))
      | (go_at_call 39; ((with_reducible refine (HB.out _).mono ?_); rintro e w1 ⟨rfl, rfl⟩)))
    go_ret
    exact ⟨rfl, rfl⟩
  · rw [if_neg h] at hr
    by_cases h' : b < a
    · rw [if_pos h'] at hr
      subst hr
      go_enter Try.func28, Try.ntmps28
      go_wp2_with (first
        | (go_at_call 39; ((with_reducible refine (HA.out _).mono ?_); rintro e w1 ⟨rfl, rfl⟩))
        | (go_at_call 39; ((with_reducible refine (HB.out _).mono ?_); rintro e w1 ⟨rfl, rfl⟩)))
      go_ret
      exact ⟨rfl, rfl⟩
    · rw [if_neg h'] at hr
      subst hr
      go_enter Try.func28, Try.ntmps28
      go_wp2_with (first
        | (go_at_call 39; ((with_reducible refine (HA.out _).mono ?_); rintro e w1 ⟨rfl, rfl⟩))
        | (go_at_call 39; ((with_reducible refine (HB.out _).mono ?_); rintro e w1 ⟨rfl, rfl⟩)))
      go_ret
      exact ⟨rfl, rfl⟩
/-- Where < and > tell nothing, late tells how two numbers stand. -/
theorem late_cmp {a b : Nat} (h1 : isN a = false → isN b = false → key a = key b) : icmp (lateW a) (lateW b) = cmpW a b := by
  cases ha : isN a with
  | true =>
    have ka : lateW a = 1 := by unfold lateW; rw [kind_nan.2 ha]; decide
    have oa : okey a = 9218868437227405322 := by unfold okey; rw [ha]; rfl
    cases hb : isN b with
    | true =>
      have kb : lateW b = 1 := by unfold lateW; rw [kind_nan.2 hb]; decide
      have ob : okey b = 9218868437227405322 := by unfold okey; rw [hb]; rfl
      unfold cmpW; rw [ka, kb, oa, ob]; decide
    | false =>
      have kb : lateW b ≤ 0 := by
        have : kindW b ≠ 5 := fun e => by rw [kind_nan.1 e] at hb; cases hb
        unfold lateW; split <;> first | omega | (rw [if_neg this]; omega)
      have ob : okey b < 9218868437227405322 := by
        have := rg_le hb
        unfold okey; rw [hb]; simp only [Bool.false_eq_true, if_false]; split <;> omega
      have : icmp (lateW a) (lateW b) = 1 := by unfold icmp; rw [if_neg (by omega), if_pos (by omega)]
      rw [this]; unfold cmpW; rw [if_neg (by omega), if_neg (by omega)]
  | false =>
    have oa : okey a < 9218868437227405322 := by
      have := rg_le ha
      unfold okey; rw [ha]; simp only [Bool.false_eq_true, if_false]; split <;> omega
    have ka : lateW a ≤ 0 := by
      have : kindW a ≠ 5 := fun e => by rw [kind_nan.1 e] at ha; cases ha
      unfold lateW; split <;> first | omega | (rw [if_neg this]; omega)
    cases hb : isN b with
    | true =>
      have kb : lateW b = 1 := by unfold lateW; rw [kind_nan.2 hb]; decide
      have ob : okey b = 9218868437227405322 := by unfold okey; rw [hb]; rfl
      have : icmp (lateW a) (lateW b) = -1 := by unfold icmp; rw [if_pos (by omega)]
      rw [this]; unfold cmpW; rw [if_pos (by omega)]
    | false =>
      have hk := h1 ha hb
      have na : kindW a ≠ 5 := fun e => by rw [kind_nan.1 e] at ha; cases ha
      have nb : kindW b ≠ 5 := fun e => by rw [kind_nan.1 e] at hb; cases hb
      have la : lateW a = if kindW a = 2 then -1 else 0 := by unfold lateW; rw [if_neg na]
      have lb : lateW b = if kindW b = 2 then -1 else 0 := by unfold lateW; rw [if_neg nb]
      have k1 := okey_lt ha hb
      have k2 := okey_lt hb ha
      have z : kindW a = 2 → ¬ kindW b = 2 → kindW b = 1 := fun e f => by
        have ra : rg a = 0 := by
          unfold kindW at e; rw [ha, if_neg (by simp)] at e
          by_cases h : rg a = 0
          · exact h
          · rw [if_neg h] at e; revert e; repeat' split
            all_goals simp
        have rb : rg b = 0 := by
          have := key_zero.2 ra
          exact key_zero.1 (by omega)
        unfold kindW at f ⊢
        rw [hb, if_neg (by simp), if_pos rb] at f ⊢
        cases hs : sg b <;> rw [hs] at f <;> first | rfl | exact absurd rfl f
      have z' : kindW b = 2 → ¬ kindW a = 2 → kindW a = 1 := fun e f => by
        have rb : rg b = 0 := by
          unfold kindW at e; rw [hb, if_neg (by simp)] at e
          by_cases h : rg b = 0
          · exact h
          · rw [if_neg h] at e; revert e; repeat' split
            all_goals simp
        have ra : rg a = 0 := by
          have := key_zero.2 rb
          exact key_zero.1 (by omega)
        unfold kindW at f ⊢
        rw [ha, if_neg (by simp), if_pos ra] at f ⊢
        cases hs : sg a <;> rw [hs] at f <;> first | rfl | exact absurd rfl f
      unfold icmp cmpW
      rw [la, lb]
      by_cases e1 : kindW a = 2 <;> by_cases e2 : kindW b = 2
      · rw [if_pos e1, if_pos e2, if_neg (by omega), if_neg (by omega), if_neg (fun h => by rcases k1.1 h with h | h <;> omega), if_pos (by
          have : ¬ okey a < okey b := fun h => by rcases k1.1 h with h | h <;> omega
          have : ¬ okey b < okey a := fun h => by rcases k2.1 h with h | h <;> omega
          omega)]
      · rw [if_pos e1, if_neg e2, if_pos (by omega), if_pos (k1.2 (.inr ⟨e1, z e1 e2⟩))]
      · have := k2.2 (.inr ⟨e2, z' e2 e1⟩)
        rw [if_neg e1, if_pos e2, if_neg (by omega), if_pos (by omega), if_neg (by omega), if_neg (by omega)]
      · rw [if_neg e1, if_neg e2, if_neg (by omega), if_neg (by omega), if_neg (fun h => by rcases k1.1 h with h | h <;> omega), if_pos (by
          have : ¬ okey a < okey b := fun h => by rcases k1.1 h with h | h <;> omega
          have : ¬ okey b < okey a := fun h => by rcases k2.1 h with h | h <;> omega
          omega)]
theorem compare_any (a b : Nat) (W : World) : Calls Try.prog 14 #[.float .f64 a, .float .f64 b] W fun e w' => e = .returned (.int .i64 (cmpW a b)) ∧ Below W.heap.size W w' := by
  have HA := Lib.hid (fun X => late_any a X)
  have HB := Lib.hid (fun X => late_any b X)
  have HC := Lib.hid (fun X => cmpi_any (lateW a) (lateW b) X)
  have hlt : (FloatKind.f64.format.order a b == some .lt) = _ := ord_lt a b
  have hgt : (FloatKind.f64.format.order a b == some .gt) = _ := ord_gt a b
  obtain ⟨r, hr⟩ : ∃ r, r = cmpW a b := ⟨_, rfl⟩
  rw [← hr]
  by_cases h1 : isN a = false ∧ isN b = false ∧ key a < key b
  · obtain ⟨ha, hb, h⟩ := h1
    obtain rfl : r = -1 := by rw [hr, cmpW, if_pos ((okey_lt ha hb).2 (.inl h))]
    rw [ha, hb, decide_eq_true h] at hlt
    simp only [Bool.not_false, Bool.and_self] at hlt
    clear hgt HA HB HC hr ha hb h
    go_enter Try.func14, Try.ntmps14
    go_wp2
    go_ret
    exact ⟨rfl, Below.refl _ _⟩
  · by_cases h2 : isN a = false ∧ isN b = false ∧ key b < key a
    · obtain ⟨ha, hb, h⟩ := h2
      have hk := (okey_lt hb ha).2 (.inl h)
      obtain rfl : r = 1 := by rw [hr, cmpW, if_neg (by omega), if_neg (by omega)]
      rw [ha, hb, decide_eq_true h] at hgt
      rw [ha, hb, decide_eq_false (by omega)] at hlt
      simp only [Bool.not_false, Bool.and_self, Bool.and_false] at hlt hgt
      clear HA HB HC hr ha hb h hk h1
      go_enter Try.func14, Try.ntmps14
      go_wp2
      go_ret
      exact ⟨rfl, Below.refl _ _⟩
    · have h3 : isN a = false → isN b = false → key a = key b := fun ha hb => by
        have q1 : ¬ key a < key b := fun h => h1 ⟨ha, hb, h⟩
        have q2 : ¬ key b < key a := fun h => h2 ⟨ha, hb, h⟩
        omega
      rw [late_cmp h3, ← hr] at HC
      have l0 : (!isN a && !isN b && decide (key a < key b)) = false := by
        cases ha : isN a <;> cases hb : isN b <;> simp
        have := h3 ha hb; omega
      have g0 : (!isN a && !isN b && decide (key b < key a)) = false := by
        cases ha : isN a <;> cases hb : isN b <;> simp
        have := h3 ha hb; omega
      rw [l0] at hlt
      rw [g0] at hgt
      generalize lateW a = x at HA HC
      generalize lateW b = y at HB HC
      clear h1 h2 h3 l0 g0 hr
      go_enter Try.func14, Try.ntmps14
      go_wp2_with (first
        | (go_at_call 29; ((with_reducible refine (HA.out _).mono ?_); rintro e w1 ⟨rfl, b1⟩; have B1 := Lib.hid b1; clear b1))
        | (go_at_call 29; ((with_reducible refine (HB.out _).mono ?_); rintro e w2 ⟨rfl, b2⟩; have B2 := Lib.hid (B1.out.trans (b2.mono B1.out.size)); clear b2))
        | (go_at_call 28; ((with_reducible refine (HC.out _).mono ?_); rintro e w3 ⟨rfl, rfl⟩)))
      go_ret
      exact ⟨rfl, B2.out⟩
end Go.Proofs.Ytkanckphkmilkaa.F
