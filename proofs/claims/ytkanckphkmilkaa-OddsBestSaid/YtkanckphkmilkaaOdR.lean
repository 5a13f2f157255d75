/-
  What the document's own answers of layer 23 do: Kind, Compare, Same, Nan, Left, Days. No statement is proved here.
-/
import Derived.Test.YtkanckphkmilkaaOdC
namespace Go.Proofs.Ytkanckphkmilkaa.F
set_option linter.unusedSimpArgs false
set_option linter.unusedVariables false
open Go.RowKit

theorem rkind_any (a : Nat) (W : World) : Calls Try.prog 13 #[.float .f64 a] W fun e w' => e = .returned (.int .i64 (kindW a : Int)) ∧ Below W.heap.size W w' := by
  have hne : (FloatKind.f64.format.order a a != some .eq) = isN a := by
    show (Ieee.double.order a a != some .eq) = _
    rw [ord_ne]; cases isN a <;> simp
  have hz : (FloatKind.f64.format.order a 0 == some .eq) = (!isN a && decide (rg a = 0)) := by
    show (Ieee.double.order a 0 == some .eq) = _
    rw [ord_eq]
    have h0 : isN 0 = false := by decide
    have hk : key 0 = 0 := by decide
    rw [h0, hk]
    simp only [Bool.not_false, Bool.and_true, decide_eq_decide.2 key_zero]
  cases hn : isN a with
  | true =>
    rw [show kindW a = 5 from kind_nan.2 hn]
    rw [hn] at hne
    clear hz hn
    go_enter Try.func13, Try.ntmps13
    go_wp2
    go_ret
    exact ⟨rfl, Below.refl _ _⟩
  | false =>
    rw [hn] at hne hz
    rcases not_nan hn with hf | hi
    · by_cases h0 : rg a = 0
      · -- a zero
        have hd := div_by_zero (x := one) (y := a) (by decide) (by decide) h0
        have hs1 : sg one = false := by decide
        rw [hs1, Bool.false_xor] at hd
        have hrun := fun W => run_quo (P := Try.prog) (t := 22) hd W
        rw [decide_eq_true h0] at hz
        have hlt : (FloatKind.f64.format.order (mk (sg a) 9218868437227405312) 0 == some .lt) = sg a := by
          show (Ieee.double.order _ 0 == some .lt) = _
          cases sg a <;> decide
        have hk : kindW a = if sg a then 2 else 1 := by
          unfold kindW
          rw [hn, if_neg (by simp), if_pos h0]
        rw [hk]
        clear hk hd hs1 hn hf h0
        cases hs : sg a with
        | true =>
          rw [hs] at hrun hlt
          clear hs
          generalize mk true 9218868437227405312 = r at hrun hlt
          go_enter Try.func13, Try.ntmps13
          go_wp2
          go_ret
          exact ⟨rfl, Below.refl _ _⟩
        | false =>
          rw [hs] at hrun hlt
          clear hs
          generalize mk false 9218868437227405312 = r at hrun hlt
          go_enter Try.func13, Try.ntmps13
          go_wp2
          go_ret
          exact ⟨rfl, Below.refl _ _⟩
      · -- neither
        have hrun := fun W => run_sub (P := Try.prog) (t := 22) (sub_self' hf) W
        have h00 : (FloatKind.f64.format.order 0 0 != some .eq) = false := by decide
        rw [decide_eq_false h0] at hz
        have hk : kindW a = 0 := by
          unfold kindW
          rw [hn, if_neg (by simp), if_neg h0, if_neg (by omega)]
        rw [hk]
        clear hk hn hf h0
        go_enter Try.func13, Try.ntmps13
        go_wp2
        go_ret
        exact ⟨rfl, Below.refl _ _⟩
    · -- infinite
      have hrun := fun W => run_sub_nan (P := Try.prog) (t := 22) (sub_infs hi) W
      have h00 : ∀ t, (FloatKind.f64.format.order (nanOf t) 0 != some .eq) = true := fun t => by
        show (Ieee.double.order _ 0 != some .eq) = _
        rw [ord_ne, nanOf_nan]; rfl
      rw [decide_eq_false (show ¬ rg a = 0 by omega)] at hz
      have hgt : (FloatKind.f64.format.order a 0 == some .gt) = !sg a := by
        show (Ieee.double.order a 0 == some .gt) = _
        rw [ord_gt, hn, show isN 0 = false by decide, show key 0 = 0 by decide]
        unfold key
        rw [hi]
        cases sg a <;> decide
      have hk : kindW a = if sg a then 4 else 3 := by
        unfold kindW
        rw [hn, if_neg (by simp), if_neg (by omega), if_pos hi]
      rw [hk]
      clear hk hn hi
      cases hs : sg a with
      | true =>
        rw [hs] at hgt
        clear hs
        go_enter Try.func13, Try.ntmps13
        go_wp2
        go_ret
        exact ⟨rfl, (Below.refl _ _).drew⟩
      | false =>
        rw [hs] at hgt
        clear hs
        go_enter Try.func13, Try.ntmps13
        go_wp2
        go_ret
        exact ⟨rfl, (Below.refl _ _).drew⟩
theorem rnan_any (W : World) : Calls Try.prog 36 #[] W fun e w' => ∃ r, e = .returned (.float .f64 r) ∧ isN r = true ∧ r < 18446744073709551616 ∧ Below W.heap.size W w' := by
  have hrun := fun W => run_quo_nan (P := Try.prog) (t := 22) (div_zeros (x := 0) (y := 0) rfl rfl) W
  go_enter Try.func36, Try.ntmps36
  go_wp2
  go_ret
  exact ⟨_, rfl, nanOf_nan _, nanOf_lt _, (Below.refl _ _).drew⟩
theorem kind_le (a : Nat) : kindW a ≤ 5 := by
  unfold kindW
  split
  · omega
  · split
    · split <;> omega
    · split
      · split <;> omega
      · omega
set_option maxHeartbeats 1000000 in
theorem rcompare_any (a b : Nat) (W : World) : Calls Try.prog 15 #[.float .f64 a, .float .f64 b] W fun e w' => e = .returned (.int .i64 (cmpW a b)) ∧ Below W.heap.size W w' := by
  have HA := Lib.hid (fun X => rkind_any a X)
  have HB := Lib.hid (fun X => rkind_any b X)
  have ha5 : kindW a = 5 ↔ isN a = true := kind_nan
  have hb5 : kindW b = 5 ↔ isN b = true := kind_nan
  obtain ⟨x, hx⟩ : ∃ x, x = kindW a := ⟨_, rfl⟩
  obtain ⟨y, hy⟩ : ∃ y, y = kindW b := ⟨_, rfl⟩
  rw [← hx] at HA ha5
  rw [← hy] at HB hb5
  have hx9 : x ≤ 5 := by rw [hx]; exact kind_le a
  have hy9 : y ≤ 5 := by rw [hy]; exact kind_le b
  by_cases h1 : x = 5
  · by_cases h2 : y = 5
    · have hc : cmpW a b = 0 := cmpW_eq.2 (by simp [okey, ha5.1 h1, hb5.1 h2])
      rw [hc]
      clear hc ha5 hb5 hx hy
      subst h1 h2
      go_enter Try.func15, Try.ntmps15
      go_wp2_with (first
        | (go_at_call 13; ((with_reducible refine (HA.out _).mono ?_); rintro e w1 ⟨rfl, b1⟩; have B1 := Lib.hid b1; clear b1))
        | (go_at_call 13; ((with_reducible refine (HB.out _).mono ?_); rintro e w2 ⟨rfl, b2⟩; have B2 := Lib.hid (B1.out.trans (b2.mono B1.out.size)); clear b2)))
      go_ret
      exact ⟨rfl, B2.out⟩
    · have hbn : isN b = false := by cases h : isN b with
        | true => exact absurd (hb5.2 h) h2
        | false => rfl
      have hc : cmpW a b = 1 := by
        have h3 := ha5.1 h1
        have h4 := rg_le hbn
        have h5 : okey b < okey a := by
          unfold okey
          rw [h3, hbn]
          simp
          split <;> omega
        unfold cmpW
        rw [if_neg (by omega), if_neg (by omega)]
      rw [hc]
      clear hc ha5 hb5 hx hy hbn
      subst h1
      have y1 : ¬ (5 : Int) = (y : Int) := by omega
      have y2 : ¬ (y : Int) = 5 := by omega
      go_enter Try.func15, Try.ntmps15
      go_wp2_with (first
        | (go_at_call 13; ((with_reducible refine (HA.out _).mono ?_); rintro e w1 ⟨rfl, b1⟩; have B1 := Lib.hid b1; clear b1))
        | (go_at_call 13; ((with_reducible refine (HB.out _).mono ?_); rintro e w2 ⟨rfl, b2⟩; have B2 := Lib.hid (B1.out.trans (b2.mono B1.out.size)); clear b2)))
      go_ret
      exact ⟨rfl, B2.out⟩
  · have han : isN a = false := by cases h : isN a with
      | true => exact absurd (ha5.2 h) h1
      | false => rfl
    by_cases h2 : y = 5
    · have hc : cmpW a b = -1 := by
        have h3 := hb5.1 h2
        have h4 := rg_le han
        have h5 : okey a < okey b := by
          unfold okey
          rw [h3, han]
          simp
          split <;> omega
        unfold cmpW
        rw [if_pos h5]
      rw [hc]
      clear hc ha5 hb5 hx hy han
      subst h2
      have y1 : ¬ (x : Int) = 5 := by omega
      go_enter Try.func15, Try.ntmps15
      go_wp2_with (first
        | (go_at_call 13; ((with_reducible refine (HA.out _).mono ?_); rintro e w1 ⟨rfl, b1⟩; have B1 := Lib.hid b1; clear b1))
        | (go_at_call 13; ((with_reducible refine (HB.out _).mono ?_); rintro e w2 ⟨rfl, b2⟩; have B2 := Lib.hid (B1.out.trans (b2.mono B1.out.size)); clear b2)))
      go_ret
      exact ⟨rfl, B2.out⟩
    · have hbn : isN b = false := by cases h : isN b with
        | true => exact absurd (hb5.2 h) h2
        | false => rfl
      have k1 := okey_lt han hbn
      have k2 := okey_lt hbn han
      rw [← hx, ← hy] at k1 k2
      have hlt : (FloatKind.f64.format.order a b == some .lt) = decide (key a < key b) := by
        show (Ieee.double.order a b == some .lt) = _
        rw [ord_lt, han, hbn]; rfl
      have hgt : (FloatKind.f64.format.order a b == some .gt) = decide (key b < key a) := by
        show (Ieee.double.order a b == some .gt) = _
        rw [ord_gt, han, hbn]; rfl
      obtain ⟨R, hR⟩ : ∃ R, R = cmpW a b := ⟨_, rfl⟩
      have r1 : okey a < okey b → R = -1 := fun h => by rw [hR, cmpW, if_pos h]
      have r2 : ¬ okey a < okey b → okey b < okey a → R = 1 := fun h h' => by rw [hR, cmpW, if_neg h, if_neg (by omega)]
      have r3 : ¬ okey a < okey b → ¬ okey b < okey a → R = 0 := fun h h' => by rw [hR, cmpW, if_neg h, if_pos (by omega)]
      rw [k1] at r1 r2 r3
      rw [k2] at r2 r3
      have x5 : ¬ (x : Int) = 5 := by omega
      have y5 : ¬ (y : Int) = 5 := by omega
      have e1 : ((x : Int) == 5) = false := by simp; omega
      have e2 : ((y : Int) == 5) = false := by simp; omega
      rw [← hR]
      clear hR ha5 hb5 hx hy han hbn k1 k2 h1 h2
      by_cases l : key a < key b
      · obtain rfl := r1 (.inl l)
        rw [decide_eq_true l] at hlt
        clear r1 r2 r3 hgt l
        go_enter Try.func15, Try.ntmps15
        go_wp2_with (first
          | (go_at_call 13; ((with_reducible refine (HA.out _).mono ?_); rintro e w1 ⟨rfl, b1⟩; have B1 := Lib.hid b1; clear b1))
          | (go_at_call 13; ((with_reducible refine (HB.out _).mono ?_); rintro e w2 ⟨rfl, b2⟩; have B2 := Lib.hid (B1.out.trans (b2.mono B1.out.size)); clear b2)))
        go_ret
        exact ⟨rfl, B2.out⟩
      · by_cases m : x = 2 ∧ y = 1
        · obtain rfl := r1 (.inr m)
          obtain ⟨rfl, rfl⟩ := m
          rw [decide_eq_false l] at hlt
          clear r1 r2 r3 hgt l
          go_enter Try.func15, Try.ntmps15
          go_wp2_with (first
            | (go_at_call 13; ((with_reducible refine (HA.out _).mono ?_); rintro e w1 ⟨rfl, b1⟩; have B1 := Lib.hid b1; clear b1))
            | (go_at_call 13; ((with_reducible refine (HB.out _).mono ?_); rintro e w2 ⟨rfl, b2⟩; have B2 := Lib.hid (B1.out.trans (b2.mono B1.out.size)); clear b2)))
          go_ret
          exact ⟨rfl, B2.out⟩
        · have nn : ¬ (key a < key b ∨ (x = 2 ∧ y = 1)) := fun h => h.elim l m
          rw [decide_eq_false l] at hlt
          have m1 : ¬ ((x : Int) = 2 ∧ (y : Int) = 1) := fun h => m ⟨by omega, by omega⟩
          by_cases g : key b < key a
          · obtain rfl := r2 nn (.inl g)
            rw [decide_eq_true g] at hgt
            clear r1 r2 r3 nn l g m
            by_cases x2 : x = 2
            · subst x2
              have y1 : ((y : Int) == 1) = false := by simp at m1 ⊢; omega
              clear m1
              go_enter Try.func15, Try.ntmps15
              go_wp2_with (first
                | (go_at_call 13; ((with_reducible refine (HA.out _).mono ?_); rintro e w1 ⟨rfl, b1⟩; have B1 := Lib.hid b1; clear b1))
                | (go_at_call 13; ((with_reducible refine (HB.out _).mono ?_); rintro e w2 ⟨rfl, b2⟩; have B2 := Lib.hid (B1.out.trans (b2.mono B1.out.size)); clear b2)))
              go_ret
              exact ⟨rfl, B2.out⟩
            · have x3 : ((x : Int) == 2) = false := by simp; omega
              clear m1 x2
              go_enter Try.func15, Try.ntmps15
              go_wp2_with (first
                | (go_at_call 13; ((with_reducible refine (HA.out _).mono ?_); rintro e w1 ⟨rfl, b1⟩; have B1 := Lib.hid b1; clear b1))
                | (go_at_call 13; ((with_reducible refine (HB.out _).mono ?_); rintro e w2 ⟨rfl, b2⟩; have B2 := Lib.hid (B1.out.trans (b2.mono B1.out.size)); clear b2)))
              go_ret
              exact ⟨rfl, B2.out⟩
          · rw [decide_eq_false g] at hgt
            have nl : (x : Int) = 2 → ((y : Int) == 1) = false := fun h => by simp; omega
            by_cases q : y = 2 ∧ x = 1
            · obtain rfl := r2 nn (.inr q)
              obtain ⟨rfl, rfl⟩ := q
              clear r1 r2 r3 nn l g m m1 nl
              go_enter Try.func15, Try.ntmps15
              go_wp2_with (first
                | (go_at_call 13; ((with_reducible refine (HA.out _).mono ?_); rintro e w1 ⟨rfl, b1⟩; have B1 := Lib.hid b1; clear b1))
                | (go_at_call 13; ((with_reducible refine (HB.out _).mono ?_); rintro e w2 ⟨rfl, b2⟩; have B2 := Lib.hid (B1.out.trans (b2.mono B1.out.size)); clear b2)))
              go_ret
              exact ⟨rfl, B2.out⟩
            · obtain rfl := r3 nn (fun h => h.elim g q)
              clear r1 r2 r3 nn l g
              by_cases x2 : x = 2
              · subst x2
                have y1 : ((y : Int) == 1) = false := nl rfl
                clear m1 nl q m
                go_enter Try.func15, Try.ntmps15
                go_wp2_with (first
                  | (go_at_call 13; ((with_reducible refine (HA.out _).mono ?_); rintro e w1 ⟨rfl, b1⟩; have B1 := Lib.hid b1; clear b1))
                  | (go_at_call 13; ((with_reducible refine (HB.out _).mono ?_); rintro e w2 ⟨rfl, b2⟩; have B2 := Lib.hid (B1.out.trans (b2.mono B1.out.size)); clear b2)))
                go_ret
                exact ⟨rfl, B2.out⟩
              · have x3 : ((x : Int) == 2) = false := by simp; omega
                by_cases x1 : x = 1
                · subst x1
                  have y3 : ((y : Int) == 2) = false := by simp; omega
                  clear m1 nl q m x2
                  go_enter Try.func15, Try.ntmps15
                  go_wp2_with (first
                    | (go_at_call 13; ((with_reducible refine (HA.out _).mono ?_); rintro e w1 ⟨rfl, b1⟩; have B1 := Lib.hid b1; clear b1))
                    | (go_at_call 13; ((with_reducible refine (HB.out _).mono ?_); rintro e w2 ⟨rfl, b2⟩; have B2 := Lib.hid (B1.out.trans (b2.mono B1.out.size)); clear b2)))
                  go_ret
                  exact ⟨rfl, B2.out⟩
                · have x4 : ((x : Int) == 1) = false := by simp; omega
                  clear m1 nl q m x2
                  go_enter Try.func15, Try.ntmps15
                  go_wp2_with (first
                    | (go_at_call 13; ((with_reducible refine (HA.out _).mono ?_); rintro e w1 ⟨rfl, b1⟩; have B1 := Lib.hid b1; clear b1))
                    | (go_at_call 13; ((with_reducible refine (HB.out _).mono ?_); rintro e w2 ⟨rfl, b2⟩; have B2 := Lib.hid (B1.out.trans (b2.mono B1.out.size)); clear b2)))
                  go_ret
                  exact ⟨rfl, B2.out⟩
theorem rsame_any (a b : Nat) (W : World) : Calls Try.prog 16 #[.float .f64 a, .float .f64 b] W fun e w' => e = .returned (.bool (decide (cmpW a b = 0))) ∧ Below W.heap.size W w' := by
  have HC := Lib.hid (fun X => rcompare_any a b X)
  obtain ⟨r, hr⟩ : ∃ r, r = cmpW a b := ⟨_, rfl⟩
  rw [← hr] at HC ⊢
  clear hr
  cases hq : decide (r = 0) with
  | true =>
    have : r = 0 := by simpa using hq
    subst this
    clear hq
    go_enter Try.func16, Try.ntmps16
    go_wp2_with (go_at_call 15; ((with_reducible refine (HC.out _).mono ?_); rintro e w1 ⟨rfl, b1⟩; have B1 := Lib.hid b1; clear b1))
    go_ret
    exact ⟨rfl, B1.out⟩
  | false =>
    have e0 : (r == 0) = false := by simpa using hq
    clear hq
    go_enter Try.func16, Try.ntmps16
    go_wp2_with (go_at_call 15; ((with_reducible refine (HC.out _).mono ?_); rintro e w1 ⟨rfl, b1⟩; have B1 := Lib.hid b1; clear b1))
    go_ret
    exact ⟨by first | rfl | simp [e0], B1.out⟩
theorem one_bel (w : World) (o : Obj) : Below w.heap.size w (w.alloc o) := (Below.refl _ _).alloc (Nat.le_refl _) o
theorem rleft_any (t b r x : Nat) (q : Bool) (W : World) (ht : t < 18446744073709551616) (hx : x < 18446744073709551616) : Calls Try.prog 23 #[cntV t b r x q] W fun e w' => ∃ s, e = .returned (.float .f64 s) ∧ LeftIs t x s ∧ Below W.heap.size W w' := by
  unfold cntV
  by_cases h : x ≤ t
  · obtain ⟨d, hd⟩ : ∃ d, d = t - x := ⟨_, rfl⟩
    have k1 : (t : Int) - (x : Int) = (d : Int) := by omega
    have f1 : floatOfInt .f64 (d : Int) = fI d := floatOf d
    have f2 : floatOfInt .f64 (t : Int) = fI t := floatOf t
    have hd2 : d < 18446744073709551616 := by omega
    have hL : ∀ s, Quo (fI d) (fI t) s → LeftIs t x s := fun s hs => by rw [LeftIs, if_pos h, ← hd]; exact hs
    have HL := Lib.hid hL
    clear hd hL
    rcases quo_run (P := Try.prog) 22 (fI d) (fI t) with ⟨s, hs, hrun⟩ | ⟨hs, hrun⟩
    · have HS := Lib.hid hs
      clear hs
      go_enter Try.func23, Try.ntmps23
      go_wp2
      go_ret
      exact ⟨_, rfl, HL.out _ HS.out, one_bel _ _⟩
    · have HS := Lib.hid hs
      clear hs
      go_enter Try.func23, Try.ntmps23
      go_wp2
      go_ret
      exact ⟨_, rfl, HL.out _ (HS.out _ (nanOf_nan _) (nanOf_lt _)), (one_bel _ _).drew⟩
  · have HN := Lib.hid (fun X => rnan_any X)
    have h' : t < x := by omega
    have hL : ∀ s, isN s = true → s < 18446744073709551616 → LeftIs t x s := fun s h1 h2 => by rw [LeftIs, if_neg h]; exact ⟨h1, h2⟩
    have HL := Lib.hid hL
    clear hL h
    go_enter Try.func23, Try.ntmps23
    go_wp2_with (go_at_call 36; ((with_reducible refine (HN.out _).mono ?_); rintro e w1 ⟨s, rfl, n1, n2, b1⟩; have B1 := Lib.hid b1; have HS := Lib.hid (HL.out s n1 n2); clear b1 n1 n2))
    go_ret
    exact ⟨s, rfl, HS.out, (one_bel _ _).trans (B1.out.mono (by simp))⟩
theorem rdays_any (t b r x : Nat) (q : Bool) (y : Nat) (W : World) (ht : t < 18446744073709551616) (hx : x < 18446744073709551616) : Calls Try.prog 25 #[cntV t b r x q, .float .f64 y] W fun e w' => ∃ s, e = .returned (.float .f64 s) ∧ DaysIs t x y s ∧ Below W.heap.size W w' := by
  unfold cntV
  by_cases h : x ≤ t
  · obtain ⟨d, hd⟩ : ∃ d, d = t - x := ⟨_, rfl⟩
    have k1 : (t : Int) - (x : Int) = (d : Int) := by omega
    have f1 : floatOfInt .f64 (d : Int) = fI d := floatOf d
    have hd2 : d < 18446744073709551616 := by omega
    have hL : ∀ s, Quo (fI d) y s → DaysIs t x y s := fun s hs => by rw [DaysIs, if_pos h, ← hd]; exact hs
    have HL := Lib.hid hL
    clear hd hL
    rcases quo_run (P := Try.prog) 22 (fI d) y with ⟨s, hs, hrun⟩ | ⟨hs, hrun⟩
    · have HS := Lib.hid hs
      clear hs
      go_enter Try.func25, Try.ntmps25
      go_wp2
      go_ret
      exact ⟨_, rfl, HL.out _ HS.out, one_bel _ _⟩
    · have HS := Lib.hid hs
      clear hs
      go_enter Try.func25, Try.ntmps25
      go_wp2
      go_ret
      exact ⟨_, rfl, HL.out _ (HS.out _ (nanOf_nan _) (nanOf_lt _)), (one_bel _ _).drew⟩
  · have HN := Lib.hid (fun X => rnan_any X)
    have h' : t < x := by omega
    have hL : ∀ s, isN s = true → s < 18446744073709551616 → DaysIs t x y s := fun s h1 h2 => by rw [DaysIs, if_neg h]; exact ⟨h1, h2⟩
    have HL := Lib.hid hL
    clear hL h
    go_enter Try.func25, Try.ntmps25
    go_wp2_with (go_at_call 36; ((with_reducible refine (HN.out _).mono ?_); rintro e w1 ⟨s, rfl, n1, n2, b1⟩; have B1 := Lib.hid b1; have HS := Lib.hid (HL.out s n1 n2); clear b1 n1 n2))
    go_ret
    exact ⟨s, rfl, HS.out, (one_bel _ _).trans (B1.out.mono (by simp))⟩
end Go.Proofs.Ytkanckphkmilkaa.F
