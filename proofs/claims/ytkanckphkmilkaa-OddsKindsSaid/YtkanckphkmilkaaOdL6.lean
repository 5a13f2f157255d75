/-
  The call of the statement OddsLists of layer 23. (Written by genod6.py.)
-/
import Derived.Test.YtkanckphkmilkaaOdA
import Derived.Test.YtkanckphkmilkaaOdR2
import Derived.Outline
namespace Go.Proofs.Ytkanckphkmilkaa.F
set_option linter.unusedSimpArgs false
set_option linter.unusedVariables false
open Go.RowKit

theorem take_succ_getD (xs : List Nat) (i : Nat) (h : i < xs.length) : xs.take (i + 1) = xs.take i ++ [xs.getD i 0] := by
  rw [List.take_add_one, List.getElem?_eq_getElem h]
  simp [List.getD, List.getElem?_eq_getElem h]
set_option maxRecDepth 100000 in
set_option maxHeartbeats 4000000 in
theorem oddsLists_walk (M : OC) (W : World) (hk : M.ok W) (A : Option Addr) (n c : Nat) (xs : List Nat) (hr : Rf W A n c xs) :
    Calls Try.prog 4 #[.slice A n c] W fun e w' => e = .returned (.bool true) ∧ Below W.heap.size W w' := by
  have HK := Lib.hid hk
  have hl := hr.len
  have hmx := Nat.le_trans hr.cap hr.max
  unfold maxLen at hmx
  clear hk
  by_cases hbig : 1000 < n
  · clear hr hl
    go_enter Try.func4, Try.ntmps4
    go_wp2_with (go_at_call 11; ((with_reducible refine (awake_true M _ HK.out).mono ?_); rintro e w1 ⟨rfl, b⟩; have B1 := Lib.hid b; clear b))
    go_ret
    exact ⟨rfl, B1.out⟩
  · have HR := Lib.hid hr
    have HN := Lib.hid (show n ≤ 100000 by omega)
    clear hmx
    go_enter Try.func4, Try.ntmps4
    go_wp2_with (go_at_call 11; ((with_reducible refine (awake_true M _ HK.out).mono ?_); rintro e w1 ⟨rfl, b⟩; have B1 := Lib.hid b; clear b))
    go_loopw [3, 4] (fun v3 v4 wr => ∃ (i s : Nat), i ≤ n ∧ v4 = .int .i64 (i : Int) ∧ v3 = .float .f64 s ∧ Hid (SumF 0 (xs.take i) s) ∧ Below W.heap.size W wr) (fun _ v4 _ => n - (intOf v4).toNat)
    case atStart => exact ⟨0, 0, Nat.zero_le _, rfl, rfl, Lib.hid (by simp [SumF]), B1.out⟩
    case round =>
      obtain ⟨i, s, hi, rfl, rfl, hsum, hbel⟩ := hrel
      obtain ⟨wo, rfl⟩ : ∃ wo : World, wo = wr := ⟨_, rfl⟩
      by_cases hlt : i < n
      · obtain ⟨b0, off, hA, hlt0, hcell⟩ := hr.at_ (by omega)
        have ci := (hbel.cell (p := ⟨b0, off + i, none⟩) hlt0).trans (hcell i hlt)
        obtain ⟨xi, hxi⟩ : ∃ x, xs.getD i 0 = x := ⟨_, rfl⟩
        rw [hxi] at ci
        have HT := Lib.hid (show ∀ s', Add s xi s' → SumF 0 (xs.take (i + 1)) s' from fun s' h => by
          rw [take_succ_getD xs i (by omega), hxi]
          exact SumF.snoc hsum.out h)
        subst hA
        clear hcell hxi hr
        rcases add_run (P := Try.prog) 22 s xi with ⟨q, hq, hrun⟩ | ⟨hq, hrun⟩
        · have HQ := Lib.hid hq
          clear hq
          go_wp2
          go_roundw
          case rel => exact ⟨i + 1, q, by omega, by go_num, rfl, Lib.hid (HT.out q HQ.out), hbel⟩
          case measure => simp [intOf]; omega
        · have HQ := Lib.hid hq
          clear hq
          go_wp2
          go_roundw
          case rel => exact ⟨i + 1, _, by omega, by go_num, rfl, Lib.hid (HT.out _ (HQ.out _ (nanOf_nan _) (nanOf_lt _))), hbel.drew⟩
          case measure => simp [intOf]; omega
      · obtain rfl : i = n := by omega
        have hs2 : SumF 0 xs s := by
          have := hsum.out
          rwa [List.take_of_length_le (by omega)] at this
        have HSM := Lib.hid (show ∀ r q, MeanIs xs r → Quo s (fI i) q → ∀ X, Calls Try.prog 16 #[.float .f64 r, .float .f64 q] X fun e w' => e = .returned (.bool true) ∧ Below X.heap.size X w' from fun r q h1 h2 X => by
          have h3 : MeanIs xs q := ⟨s, hs2, by rw [hl]; exact h2⟩
          have := rsame_any r q X
          rw [decide_eq_true (h1.alike h3).cmp] at this
          exact this)
        have f1 : floatOfInt .f64 (i : Int) = fI i := floatOf i
        have BL := Lib.hid hbel
        clear hs2 hsum hbel hr hl
        rcases quo_run (P := Try.prog) 22 s (fI i) with ⟨q, hq, hrun⟩ | ⟨hq, hrun⟩
        · have HQ := Lib.hid hq
          clear hq
          go_wp2_with (first
        | (go_at_call 18; ((with_reducible refine (M.best _ i c xs _ (M.bel HK.out BL.out) (HR.out.below BL.out) HN.out).mono ?_); rintro e w2 ⟨v2, rfl, hv, b⟩; have V2 := Lib.hid hv; have B2 := Lib.hid (BL.out.trans (b.mono BL.out.size)); clear b hv))
        | (go_at_call 19; ((with_reducible refine (rbest_any _ i c xs _ (HR.out.below B2.out) HN.out).mono ?_); rintro e w3 ⟨v3, rfl, hv, b⟩; obtain rfl : v3 = v2 := BestIs.unique hv V2.out; have B3 := Lib.hid (B2.out.trans (b.mono B2.out.size)); clear b hv))
        | (go_at_call 20; ((with_reducible refine (M.mean _ i c xs _ (M.bel HK.out B3.out) (HR.out.below B3.out) HN.out).mono ?_); rintro e w4 ⟨r4, rfl, hv, b⟩; have V4 := Lib.hid hv; have B4 := Lib.hid (B3.out.trans (b.mono B3.out.size)); clear b hv))
        | (go_at_call 16; ((with_reducible refine (HSM.out r4 q V4.out HQ.out _).mono ?_); rintro e w5 ⟨rfl, b⟩; have B5 := Lib.hid (B4.out.trans (b.mono B4.out.size)); clear b)))
          go_ret
          exact ⟨rfl, B5.out⟩
        · have HQ := Lib.hid hq
          clear hq
          go_wp2_with (first
        | (go_at_call 18; ((with_reducible refine (M.best _ i c xs _ (M.bel HK.out BL.out) (HR.out.below BL.out) HN.out).mono ?_); rintro e w2 ⟨v2, rfl, hv, b⟩; have V2 := Lib.hid hv; have B2 := Lib.hid (BL.out.trans (b.mono BL.out.size)); clear b hv))
        | (go_at_call 19; ((with_reducible refine (rbest_any _ i c xs _ (HR.out.below B2.out) HN.out).mono ?_); rintro e w3 ⟨v3, rfl, hv, b⟩; obtain rfl : v3 = v2 := BestIs.unique hv V2.out; have B3 := Lib.hid (B2.out.trans (b.mono B2.out.size)); clear b hv))
        | (go_at_call 20; ((with_reducible refine (M.mean _ i c xs _ (M.bel HK.out B3.out) (HR.out.below B3.out) HN.out).mono ?_); rintro e w4 ⟨r4, rfl, hv, b⟩; have V4 := Lib.hid hv; have B4 := Lib.hid (B3.out.trans (b.mono B3.out.size)); clear b hv))
        | (go_at_call 16; ((with_reducible refine (HSM.out r4 _ V4.out (HQ.out _ (nanOf_nan _) (nanOf_lt _)) _).mono ?_); rintro e w5 ⟨rfl, b⟩; have B5 := Lib.hid (B4.out.drew.trans (b.mono B4.out.size)); clear b)))
          go_ret
          exact ⟨rfl, B5.out⟩
end Go.Proofs.Ytkanckphkmilkaa.F
