/-
  What the calls of the landed package odds do: within, Best, Mean. No statement is proved here.
-/
import Derived.Test.YtkanckphkmilkaaOdK1
import Derived.Test.YtkanckphkmilkaaFl7
import Derived.Test.YtkanckphkmilkaaSteady
import Derived.RegionTactic
import Derived.Outline
import Derived.Deep.Cut
namespace Go.Proofs.Ytkanckphkmilkaa.F
set_option linter.unusedSimpArgs false
set_option linter.unusedVariables false
open Go.RowKit

theorem within_any (x l h : Nat) (W : World) : Calls Try.prog 33 #[.float .f64 x, .float .f64 l, .float .f64 h] W fun e w' => e = .returned (.float .f64 (if okey x < okey l then l else if okey h < okey x then h else x)) ∧ Below W.heap.size W w' := by
  have HL := Lib.hid (fun X => compare_any x l X)
  have HH := Lib.hid (fun X => compare_any x h X)
  obtain ⟨c, hc⟩ : ∃ c, c = cmpW x l := ⟨_, rfl⟩
  obtain ⟨d, hd⟩ : ∃ d, d = cmpW x h := ⟨_, rfl⟩
  rw [← hc] at HL
  rw [← hd] at HH
  by_cases c0 : c < 0
  · rw [if_pos (cmpW_lt.1 (by omega))]
    clear hc hd HH
    go_enter Try.func33, Try.ntmps33
    go_wp2_with (first
      | (go_at_call 14; ((with_reducible refine (HL.out _).mono ?_); rintro e w1 ⟨rfl, b1⟩; have B1 := Lib.hid b1; clear b1)))
    go_ret
    exact ⟨rfl, B1.out⟩
  · rw [if_neg (fun e => c0 (by have := cmpW_lt.2 e; omega))]
    by_cases d0 : 0 < d
    · rw [if_pos (cmpW_gt.1 (by omega))]
      clear hc hd
      go_enter Try.func33, Try.ntmps33
      go_wp2_with (first
        | (go_at_call 14; ((with_reducible refine (HL.out _).mono ?_); rintro e w1 ⟨rfl, b1⟩; have B1 := Lib.hid b1; clear b1))
        | (go_at_call 14; ((with_reducible refine (HH.out _).mono ?_); rintro e w2 ⟨rfl, b2⟩; have B2 := Lib.hid (B1.out.trans (b2.mono B1.out.size)); clear b2)))
      go_ret
      exact ⟨rfl, B2.out⟩
    · rw [if_neg (fun e => d0 (by have := cmpW_gt.2 e; omega))]
      clear hc hd
      go_enter Try.func33, Try.ntmps33
      go_wp2_with (first
        | (go_at_call 14; ((with_reducible refine (HL.out _).mono ?_); rintro e w1 ⟨rfl, b1⟩; have B1 := Lib.hid b1; clear b1))
        | (go_at_call 14; ((with_reducible refine (HH.out _).mono ?_); rintro e w2 ⟨rfl, b2⟩; have B2 := Lib.hid (B1.out.trans (b2.mono B1.out.size)); clear b2)))
      go_ret
      exact ⟨rfl, B2.out⟩
/-- What the loop of Best has found in the first m numbers. -/
def BestTo (xs : List Nat) (m : Nat) (v : Int) : Prop :=
  (∃ k : Nat, v = (k : Int) ∧ k < m ∧ isN (xs.getD k 0) = false ∧ ∀ j, j < m → isN (xs.getD j 0) = false → okey (xs.getD j 0) ≤ okey (xs.getD k 0) ∧ (j < k → okey (xs.getD j 0) < okey (xs.getD k 0))) ∨ (v = -1 ∧ ∀ j, j < m → isN (xs.getD j 0) = true)
theorem bestTo_zero (xs : List Nat) : BestTo xs 0 (-1) := .inr ⟨rfl, fun j h => absurd h (by omega)⟩
theorem bestTo_all {xs : List Nat} {v : Int} (h : BestTo xs xs.length v) : BestIs xs v := by
  rcases h with ⟨k, h1, h2, h3, h4⟩ | h
  · exact .inl ⟨k, h1, h2, h3, h4⟩
  · exact .inr h
theorem bestTo_nan {xs : List Nat} {m : Nat} {v : Int} (h : BestTo xs m v) (hn : isN (xs.getD m 0) = true) : BestTo xs (m + 1) v := by
  rcases h with ⟨k, h1, h2, h3, h4⟩ | ⟨h1, h2⟩
  · refine .inl ⟨k, h1, by omega, h3, fun j hj hj2 => ?_⟩
    rcases Nat.lt_or_ge j m with q | q
    · exact h4 j q hj2
    · obtain rfl : j = m := by omega
      rw [hn] at hj2; cases hj2
  · refine .inr ⟨h1, fun j hj => ?_⟩
    rcases Nat.lt_or_ge j m with q | q
    · exact h2 j q
    · obtain rfl : j = m := by omega
      exact hn
theorem bestTo_first {xs : List Nat} {m : Nat} (h : BestTo xs m (-1)) (hn : isN (xs.getD m 0) = false) : BestTo xs (m + 1) m := by
  rcases h with ⟨k, h1, _⟩ | ⟨_, h2⟩
  · omega
  · refine .inl ⟨m, rfl, by omega, hn, fun j hj hj2 => ?_⟩
    rcases Nat.lt_or_ge j m with q | q
    · rw [h2 j q] at hj2; cases hj2
    · obtain rfl : j = m := by omega
      exact ⟨Int.le_refl _, fun h => by omega⟩
theorem bestTo_less {xs : List Nat} {m k : Nat} (h : BestTo xs m k) (hc : ¬ 0 < cmpW (xs.getD m 0) (xs.getD k 0)) : BestTo xs (m + 1) k := by
  have hc' : ¬ okey (xs.getD k 0) < okey (xs.getD m 0) := fun e => hc (cmpW_gt.2 e)
  rcases h with ⟨k', h1, h2, h3, h4⟩ | ⟨h1, h2⟩
  · obtain rfl : k' = k := by omega
    refine .inl ⟨k', rfl, by omega, h3, fun j hj hj2 => ?_⟩
    rcases Nat.lt_or_ge j m with q | q
    · exact h4 j q hj2
    · obtain rfl : j = m := by omega
      exact ⟨by omega, fun h => by omega⟩
  · omega
theorem bestTo_more {xs : List Nat} {m k : Nat} (h : BestTo xs m k) (hn : isN (xs.getD m 0) = false) (hc : 0 < cmpW (xs.getD m 0) (xs.getD k 0)) : BestTo xs (m + 1) m := by
  have hc' := cmpW_gt.1 hc
  rcases h with ⟨k', h1, h2, h3, h4⟩ | ⟨h1, h2⟩
  · obtain rfl : k' = k := by omega
    refine .inl ⟨m, rfl, by omega, hn, fun j hj hj2 => ?_⟩
    rcases Nat.lt_or_ge j m with q | q
    · have := (h4 j q hj2).1
      exact ⟨by omega, fun _ => by omega⟩
    · obtain rfl : j = m := by omega
      exact ⟨Int.le_refl _, fun h => by omega⟩
  · omega
theorem bestTo_at {xs : List Nat} {m k : Nat} (h : BestTo xs m k) : k < m := by
  rcases h with ⟨k', h1, h2, _⟩ | ⟨h1, _⟩ <;> omega
set_option maxRecDepth 100000 in
set_option maxHeartbeats 8000000 in
theorem best_any (A : Option Addr) (n c : Nat) (xs : List Nat) (W : World) (hr : Rf W A n c xs) (hn : n ≤ 100000) :
    Calls Try.prog 18 #[.slice A n c] W fun e w' => ∃ v, e = .returned (.int .i64 v) ∧ BestIs xs v ∧ Below W.heap.size W w' := by
  have hl := hr.len
  go_enter Try.func18, Try.ntmps18
  go_wp2
  go_loopw [3, 8] (fun v3 v8 wr => ∃ (i : Nat) (v : Int), i ≤ n ∧ v3 = .int .i64 v ∧ v8 = .int .i64 (i : Int) ∧ Below W.heap.size W wr ∧ Hid (BestTo xs i v)) (fun _ v8 _ => n - (intOf v8).toNat)
  case atStart => exact ⟨0, -1, Nat.zero_le _, rfl, rfl, Below.refl _ _, Lib.hid (bestTo_zero xs)⟩
  case round =>
    obtain ⟨i, v, hi, rfl, rfl, hbel, hbest⟩ := hrel
    obtain ⟨wo, rfl⟩ : ∃ wo : World, wo = wr := ⟨_, rfl⟩
    by_cases hlt : i < n
    · obtain ⟨b0, off, rfl, hlt0, hcell⟩ := hr.at_ (by omega)
      have ci := hcell i hlt
      obtain ⟨xi, hxi⟩ : ∃ x, xs.getD i 0 = x := ⟨_, rfl⟩
      rw [hxi] at ci
      have ci1 := (hbel.cell (p := ⟨b0, off + i, none⟩) hlt0).trans ci
      have HK := Lib.hid (fun X => kind_any xi X)
      cases hni : isN xi with
      | true =>
        rw [show kindW xi = 5 from kind_nan.2 hni] at HK
        have HB := Lib.hid (bestTo_nan hbest.out (by rw [hxi]; exact hni))
        clear hcell hxi hni hbest
        go_wp2_with (go_at_call 12; ((with_reducible refine (HK.out _).mono ?_); rintro e w1 ⟨rfl, b1⟩; have B1 := Lib.hid (hbel.trans (b1.mono hbel.size)); clear b1))
        go_roundw
        case rel => exact ⟨i + 1, v, by omega, rfl, by go_num, B1.out, HB⟩
        case measure => simp [intOf]; omega
      | false =>
        obtain ⟨q, hq⟩ : ∃ q, q = kindW xi := ⟨_, rfl⟩
        have q5 : ¬ (q : Int) = 5 := fun e => by
          have : kindW xi = 5 := by omega
          rw [kind_nan.1 this] at hni; cases hni
        have q6 : ((q : Int) != 5) = true := by simpa using q5
        rw [← hq] at HK
        rcases (show v = -1 ∨ ∃ k : Nat, v = (k : Int) from by
          rcases hbest.out with ⟨k, h1, _⟩ | ⟨h1, _⟩
          · exact .inr ⟨k, h1⟩
          · exact .inl h1) with rfl | ⟨k, rfl⟩
        · have HB := Lib.hid (bestTo_first hbest.out (by rw [hxi]; exact hni))
          clear hcell hxi hni hbest hq
          go_wp2_with (go_at_call 12; ((with_reducible refine (HK.out _).mono ?_); rintro e w1 ⟨rfl, b1⟩; have B1 := Lib.hid (hbel.trans (b1.mono hbel.size)); clear b1))
          go_roundw
          case rel => exact ⟨i + 1, (i : Int), by omega, rfl, by go_num, B1.out, HB⟩
          case measure => simp [intOf]; omega
        · have hk := bestTo_at hbest.out
          have ck := hcell k (by omega)
          obtain ⟨xk, hxk⟩ : ∃ x, xs.getD k 0 = x := ⟨_, rfl⟩
          rw [hxk] at ck
          have hk2 : k < n := by omega
          have HC := Lib.hid (fun X => compare_any xi xk X)
          obtain ⟨r, hr0⟩ : ∃ r, r = cmpW xi xk := ⟨_, rfl⟩
          rw [← hr0] at HC
          by_cases r0 : 0 < r
          · have HB := Lib.hid (bestTo_more hbest.out (by rw [hxi]; exact hni) (by rw [hxi, hxk]; omega))
            clear hcell hxi hni hbest hq hxk hr0
            go_wp2_with (first
              | (go_at_call 12; ((with_reducible refine (HK.out _).mono ?_); rintro e w1 ⟨rfl, b1⟩; have B1 := Lib.hid (hbel.trans (b1.mono hbel.size)); clear b1; have ck1 := (B1.out.cell (p := ⟨b0, off + k, none⟩) hlt0).trans ck))
              | (go_at_call 14; ((with_reducible refine (HC.out _).mono ?_); rintro e w2 ⟨rfl, b2⟩; have B2 := Lib.hid (B1.out.trans (b2.mono B1.out.size)); clear b2)))
            go_roundw
            case rel => exact ⟨i + 1, (i : Int), by omega, rfl, by go_num, B2.out, HB⟩
            case measure => simp [intOf]; omega
          · have HB := Lib.hid (bestTo_less hbest.out (by rw [hxi, hxk]; omega))
            clear hcell hxi hni hbest hq hxk hr0
            go_wp2_with (first
              | (go_at_call 12; ((with_reducible refine (HK.out _).mono ?_); rintro e w1 ⟨rfl, b1⟩; have B1 := Lib.hid (hbel.trans (b1.mono hbel.size)); clear b1; have ck1 := (B1.out.cell (p := ⟨b0, off + k, none⟩) hlt0).trans ck))
              | (go_at_call 14; ((with_reducible refine (HC.out _).mono ?_); rintro e w2 ⟨rfl, b2⟩; have B2 := Lib.hid (B1.out.trans (b2.mono B1.out.size)); clear b2)))
            go_roundw
            case rel => exact ⟨i + 1, (k : Int), by omega, rfl, by go_num, B2.out, HB⟩
            case measure => simp [intOf]; omega
    · obtain rfl : i = n := by omega
      have HV := Lib.hid (bestTo_all (xs := xs) (by rw [hl]; exact hbest.out))
      go_wp2
      go_ret
      exact ⟨_, rfl, HV.out, hbel⟩
set_option maxRecDepth 100000 in
set_option maxHeartbeats 8000000 in
theorem mean_any (A : Option Addr) (n c : Nat) (xs : List Nat) (W : World) (hr : Rf W A n c xs) (hn : n ≤ 100000) :
    Calls Try.prog 20 #[.slice A n c] W fun e w' => ∃ r, e = .returned (.float .f64 r) ∧ MeanIs xs r ∧ Below W.heap.size W w' := by
  have hl := hr.len
  go_enter Try.func20, Try.ntmps20
  go_wp2
  go_loopw [3, 8] (fun v3 v8 wr => ∃ (i s : Nat), i ≤ n ∧ v3 = .float .f64 s ∧ v8 = .int .i64 (i : Int) ∧ Below W.heap.size W wr ∧ Hid (SumF 0 (xs.take i) s)) (fun _ v8 _ => n - (intOf v8).toNat)
  case atStart => exact ⟨0, 0, Nat.zero_le _, rfl, rfl, Below.refl _ _, Lib.hid (by simp [SumF])⟩
  case round =>
    obtain ⟨i, s, hi, rfl, rfl, hbel, hsum⟩ := hrel
    obtain ⟨wo, rfl⟩ : ∃ wo : World, wo = wr := ⟨_, rfl⟩
    by_cases hlt : i < n
    · obtain ⟨b0, off, rfl, hlt0, hcell⟩ := hr.at_ (by omega)
      have ci := hcell i hlt
      obtain ⟨xi, hxi⟩ : ∃ x, xs.getD i 0 = x := ⟨_, rfl⟩
      rw [hxi] at ci
      have ci1 := (hbel.cell (p := ⟨b0, off + i, none⟩) hlt0).trans ci
      have htk : xs.take (i + 1) = xs.take i ++ [xi] := by
        rw [List.take_succ_eq_append_getElem (by omega), ← hxi, List.getD_eq_getElem?_getD, List.getElem?_eq_getElem (by omega)]; rfl
      have HSN := Lib.hid (fun t (ht : Add s xi t) => show SumF 0 (xs.take (i + 1)) t by rw [htk]; exact hsum.out.snoc ht)
      clear hcell hxi htk hsum
      rcases add_run (P := Try.prog) 22 s xi with ⟨t, ht, hrun⟩ | ⟨ht, hrun⟩
      · have HT := Lib.hid (HSN.out t ht)
        clear ht
        go_wp2
        go_roundw
        case rel => exact ⟨i + 1, t, by omega, rfl, by go_num, hbel, HT⟩
        case measure => simp [intOf]; omega
      · have HT := Lib.hid (fun t => HSN.out (nanOf t) (ht _ (nanOf_nan t) (nanOf_lt t)))
        clear ht
        go_wp2
        go_roundw
        case rel => exact ⟨i + 1, _, by omega, rfl, by go_num, hbel.drew, Lib.hid (HT.out _)⟩
        case measure => simp [intOf]; omega
    · obtain rfl : i = n := by omega
      have f1 : floatOfInt .f64 (i : Int) = fI i := floatOf i
      have HM := Lib.hid (fun r (h : Quo s (fI i) r) => show MeanIs xs r from ⟨s, by have := hsum.out; rwa [← hl, List.take_length] at this, by rw [hl]; exact h⟩)
      have HQ := Lib.hid (fun X => share_any s (fI i) X)
      clear hsum
      go_wp2_with (go_at_call 17; ((with_reducible refine (HQ.out _).mono ?_); rintro e w1 ⟨r, rfl, hq, b1⟩; have Q1 := Lib.hid (HM.out r hq); have B1 := Lib.hid (hbel.trans (b1.mono hbel.size)); clear b1 hq))
      go_ret
      exact ⟨_, rfl, Q1.out, B1.out⟩
end Go.Proofs.Ytkanckphkmilkaa.F
