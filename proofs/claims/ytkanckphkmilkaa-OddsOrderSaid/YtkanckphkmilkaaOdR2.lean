/-
  What the document's own Best of layer 23 does. No statement is proved here. (Written by genodr2.py.)
-/
import Derived.Test.YtkanckphkmilkaaOdR
import Derived.Test.YtkanckphkmilkaaFl7
import Derived.Test.YtkanckphkmilkaaSteady
import Derived.RegionTactic
import Derived.Outline
import Derived.Deep.Cut
namespace Go.Proofs.Ytkanckphkmilkaa.F
set_option linter.unusedSimpArgs false
set_option linter.unusedVariables false
open Go.RowKit

theorem eq_self (x : Nat) : (FloatKind.f64.format.order x x == some .eq) = !isN x := by
  show (Ieee.double.order x x == some .eq) = _
  rw [ord_eq]; cases isN x <;> simp
set_option maxRecDepth 100000 in
set_option maxHeartbeats 8000000 in
theorem rbest_any (A : Option Addr) (n c : Nat) (xs : List Nat) (W : World) (hr : Rf W A n c xs) (hn : n ≤ 100000) :
    Calls Try.prog 19 #[.slice A n c] W fun e w' => ∃ v, e = .returned (.int .i64 v) ∧ BestIs xs v ∧ Below W.heap.size W w' := by
  have hl := hr.len
  go_enter Try.func19, Try.ntmps19
  go_wp2
  go_loopw [3] (fun v3 wr => ∃ i : Nat, i ≤ n ∧ v3 = .int .i64 (i : Int) ∧ Below W.heap.size W wr ∧ Hid (∀ j, j < i → goodTo xs j n = false)) (fun v3 _ => n - (intOf v3).toNat)
  case atStart => exact ⟨0, Nat.zero_le _, rfl, Below.refl _ _, Lib.hid (fun j hj => absurd hj (by omega))⟩
  case round =>
    obtain ⟨i, hi, rfl, hbel, hbad⟩ := hrel
    obtain ⟨wo, rfl⟩ : ∃ wo : World, wo = wr := ⟨_, rfl⟩
    by_cases hlt : i < n
    · obtain ⟨b0, off, rfl, hlt0, hcell⟩ := hr.at_ (by omega)
      have ci := hcell i hlt
      obtain ⟨xi, hxi⟩ : ∃ x, xs.getD i 0 = x := ⟨_, rfl⟩
      rw [hxi] at ci
      have ci1 := (hbel.cell (p := ⟨b0, off + i, none⟩) hlt0).trans ci
      obtain ⟨G0, hG0⟩ : ∃ G, G = !isN xi := ⟨_, rfl⟩
      have e0 : (FloatKind.f64.format.order xi xi == some .eq) = G0 := by rw [eq_self, hG0]
      have HG0 := Lib.hid (show G0 = goodTo xs i 0 by rw [goodTo_zero, hxi, hG0])
      have HXI := Lib.hid hxi
      have HCELL := Lib.hid hcell
      clear hG0 hxi hcell
      go_wp2
      go_region
      go_wp2
      go_loopw [4, 5] (fun v4 v5 w2 => ∃ (k : Nat) (G : Bool), k ≤ n ∧ v5 = .int .i64 (k : Int) ∧ v4 = .bool G ∧ Hid (G = goodTo xs i k) ∧ Below W.heap.size W w2) (fun _ v5 _ => n - (intOf v5).toNat)
      case atStart => exact ⟨0, G0, Nat.zero_le _, rfl, rfl, HG0, hbel.drew⟩
      case round =>
        obtain ⟨k, G, hk, rfl, rfl, HG, hbel2⟩ := hrel
        obtain ⟨w5, rfl⟩ : ∃ w5 : World, w5 = wr := ⟨_, rfl⟩
        by_cases hkn : k < n
        · have ck := HCELL.out k hkn
          obtain ⟨xk, hxk⟩ : ∃ x, xs.getD k 0 = x := ⟨_, rfl⟩
          rw [hxk] at ck
          have HC := Lib.hid (fun X => rcompare_any xk xi X)
          have ek : (FloatKind.f64.format.order xk xk == some .eq) = !isN xk := eq_self xk
          obtain ⟨B, hB⟩ : ∃ B, B = bad xs i k := ⟨_, rfl⟩
          have HB := Lib.hid (show goodTo xs i (k + 1) = (G && !B) by rw [goodTo_succ, ← HG.out, hB])
          have hBv : B = (!isN xk && (decide (0 < cmpW xk xi) || (decide (k < i) && decide (cmpW xk xi = 0)))) := by
            rw [hB, bad, hxk, HXI.out]
          have cs := cmpW_cases xk xi
          generalize cmpW xk xi = C at hBv cs HC
          generalize isN xk = nk at ek hBv
          clear hB hxk
          have hbelS := hbel2.drew
          go_upto_region 8 with (fail)
          refine wp_region_steady (fun w' => Below W.heap.size W w') (by kernel_rfl) (by kernel_rfl) hbelS ?_
          cases nk with
          | true =>
            simp only [Bool.not_true, Bool.false_and] at hBv ek
            subst hBv
            repeat (first | (refine seq_pure (v := ?_) (by rfl) ?_ ?_; rotate_left; (· (intro w' hS; have hci := (hS.cell (p := ⟨b0, off + i, none⟩) hlt0).trans ci; have hck := (hS.cell (p := ⟨b0, off + k, none⟩) hlt0).trans ck; go_simp; try with_reducible rfl)); simp only [Act.put, List.setIfInBounds_toArray, List.set_cons_zero, List.set_cons_succ]) | (refine seq_skip (by rfl) ?_; simp only [Act.put, List.setIfInBounds_toArray, List.set_cons_zero, List.set_cons_succ]) | fail)
            refine seq_nil ?_
            intro w9 s9
            go_wp2
            go_roundw
            case rel => exact ⟨k + 1, G, by omega, by go_num, rfl, Lib.hid (by rw [HB.out]; simp), s9⟩
            case measure => simp [intOf]; omega
          | false =>
            simp only [Bool.not_false, Bool.true_and] at hBv ek
            rcases cs with rfl | rfl | rfl
            · obtain rfl : B = false := by rw [hBv]; simp
              clear hBv
              by_cases hki : k < i
              · repeat (first | (refine seq_pure (v := ?_) (by rfl) ?_ ?_; rotate_left; (· (intro w' hS; have hci := (hS.cell (p := ⟨b0, off + i, none⟩) hlt0).trans ci; have hck := (hS.cell (p := ⟨b0, off + k, none⟩) hlt0).trans ck; go_simp; try with_reducible rfl)); simp only [Act.put, List.setIfInBounds_toArray, List.set_cons_zero, List.set_cons_succ]) | (refine seq_skip (by rfl) ?_; simp only [Act.put, List.setIfInBounds_toArray, List.set_cons_zero, List.set_cons_succ]) | fail)
                refine seq_call (f := 15) (args := #[.float .f64 xk, .float .f64 xi]) (v := .int .i64 (-1)) (by rfl) ?_ ?_ ?_
                · intro w' hS; go_simp
                · intro w' hS; exact (HC.out _).mono fun e w'' ⟨h1, h2⟩ => ⟨h1, hS.trans (h2.mono hS.size)⟩
                simp only [Act.put, List.setIfInBounds_toArray, List.set_cons_zero, List.set_cons_succ]
                repeat (first | (refine seq_pure (v := ?_) (by rfl) ?_ ?_; rotate_left; (· (intro w' hS; have hci := (hS.cell (p := ⟨b0, off + i, none⟩) hlt0).trans ci; have hck := (hS.cell (p := ⟨b0, off + k, none⟩) hlt0).trans ck; go_simp; try with_reducible rfl)); simp only [Act.put, List.setIfInBounds_toArray, List.set_cons_zero, List.set_cons_succ]) | (refine seq_skip (by rfl) ?_; simp only [Act.put, List.setIfInBounds_toArray, List.set_cons_zero, List.set_cons_succ]) | fail)
                refine seq_call (f := 15) (args := #[.float .f64 xk, .float .f64 xi]) (v := .int .i64 (-1)) (by rfl) ?_ ?_ ?_
                · intro w' hS; go_simp
                · intro w' hS; exact (HC.out _).mono fun e w'' ⟨h1, h2⟩ => ⟨h1, hS.trans (h2.mono hS.size)⟩
                simp only [Act.put, List.setIfInBounds_toArray, List.set_cons_zero, List.set_cons_succ]
                repeat (first | (refine seq_pure (v := ?_) (by rfl) ?_ ?_; rotate_left; (· (intro w' hS; have hci := (hS.cell (p := ⟨b0, off + i, none⟩) hlt0).trans ci; have hck := (hS.cell (p := ⟨b0, off + k, none⟩) hlt0).trans ck; go_simp; try with_reducible rfl)); simp only [Act.put, List.setIfInBounds_toArray, List.set_cons_zero, List.set_cons_succ]) | (refine seq_skip (by rfl) ?_; simp only [Act.put, List.setIfInBounds_toArray, List.set_cons_zero, List.set_cons_succ]) | fail)
                refine seq_nil ?_
                intro w9 s9
                go_wp2
                go_roundw
                case rel => exact ⟨k + 1, G, by omega, by go_num, rfl, Lib.hid (by rw [HB.out]; simp), s9⟩
                case measure => simp [intOf]; omega
              · repeat (first | (refine seq_pure (v := ?_) (by rfl) ?_ ?_; rotate_left; (· (intro w' hS; have hci := (hS.cell (p := ⟨b0, off + i, none⟩) hlt0).trans ci; have hck := (hS.cell (p := ⟨b0, off + k, none⟩) hlt0).trans ck; go_simp; try with_reducible rfl)); simp only [Act.put, List.setIfInBounds_toArray, List.set_cons_zero, List.set_cons_succ]) | (refine seq_skip (by rfl) ?_; simp only [Act.put, List.setIfInBounds_toArray, List.set_cons_zero, List.set_cons_succ]) | fail)
                refine seq_call (f := 15) (args := #[.float .f64 xk, .float .f64 xi]) (v := .int .i64 (-1)) (by rfl) ?_ ?_ ?_
                · intro w' hS; go_simp
                · intro w' hS; exact (HC.out _).mono fun e w'' ⟨h1, h2⟩ => ⟨h1, hS.trans (h2.mono hS.size)⟩
                simp only [Act.put, List.setIfInBounds_toArray, List.set_cons_zero, List.set_cons_succ]
                repeat (first | (refine seq_pure (v := ?_) (by rfl) ?_ ?_; rotate_left; (· (intro w' hS; have hci := (hS.cell (p := ⟨b0, off + i, none⟩) hlt0).trans ci; have hck := (hS.cell (p := ⟨b0, off + k, none⟩) hlt0).trans ck; go_simp; try with_reducible rfl)); simp only [Act.put, List.setIfInBounds_toArray, List.set_cons_zero, List.set_cons_succ]) | (refine seq_skip (by rfl) ?_; simp only [Act.put, List.setIfInBounds_toArray, List.set_cons_zero, List.set_cons_succ]) | fail)
                refine seq_nil ?_
                intro w9 s9
                go_wp2
                go_roundw
                case rel => exact ⟨k + 1, G, by omega, by go_num, rfl, Lib.hid (by rw [HB.out]; simp), s9⟩
                case measure => simp [intOf]; omega
            · by_cases hki : k < i
              · obtain rfl : B = true := by rw [hBv]; simp [hki]
                clear hBv
                repeat (first | (refine seq_pure (v := ?_) (by rfl) ?_ ?_; rotate_left; (· (intro w' hS; have hci := (hS.cell (p := ⟨b0, off + i, none⟩) hlt0).trans ci; have hck := (hS.cell (p := ⟨b0, off + k, none⟩) hlt0).trans ck; go_simp; try with_reducible rfl)); simp only [Act.put, List.setIfInBounds_toArray, List.set_cons_zero, List.set_cons_succ]) | (refine seq_skip (by rfl) ?_; simp only [Act.put, List.setIfInBounds_toArray, List.set_cons_zero, List.set_cons_succ]) | fail)
                refine seq_call (f := 15) (args := #[.float .f64 xk, .float .f64 xi]) (v := .int .i64 (0)) (by rfl) ?_ ?_ ?_
                · intro w' hS; go_simp
                · intro w' hS; exact (HC.out _).mono fun e w'' ⟨h1, h2⟩ => ⟨h1, hS.trans (h2.mono hS.size)⟩
                simp only [Act.put, List.setIfInBounds_toArray, List.set_cons_zero, List.set_cons_succ]
                repeat (first | (refine seq_pure (v := ?_) (by rfl) ?_ ?_; rotate_left; (· (intro w' hS; have hci := (hS.cell (p := ⟨b0, off + i, none⟩) hlt0).trans ci; have hck := (hS.cell (p := ⟨b0, off + k, none⟩) hlt0).trans ck; go_simp; try with_reducible rfl)); simp only [Act.put, List.setIfInBounds_toArray, List.set_cons_zero, List.set_cons_succ]) | (refine seq_skip (by rfl) ?_; simp only [Act.put, List.setIfInBounds_toArray, List.set_cons_zero, List.set_cons_succ]) | fail)
                refine seq_call (f := 15) (args := #[.float .f64 xk, .float .f64 xi]) (v := .int .i64 (0)) (by rfl) ?_ ?_ ?_
                · intro w' hS; go_simp
                · intro w' hS; exact (HC.out _).mono fun e w'' ⟨h1, h2⟩ => ⟨h1, hS.trans (h2.mono hS.size)⟩
                simp only [Act.put, List.setIfInBounds_toArray, List.set_cons_zero, List.set_cons_succ]
                repeat (first | (refine seq_pure (v := ?_) (by rfl) ?_ ?_; rotate_left; (· (intro w' hS; have hci := (hS.cell (p := ⟨b0, off + i, none⟩) hlt0).trans ci; have hck := (hS.cell (p := ⟨b0, off + k, none⟩) hlt0).trans ck; go_simp; try with_reducible rfl)); simp only [Act.put, List.setIfInBounds_toArray, List.set_cons_zero, List.set_cons_succ]) | (refine seq_skip (by rfl) ?_; simp only [Act.put, List.setIfInBounds_toArray, List.set_cons_zero, List.set_cons_succ]) | fail)
                refine seq_nil ?_
                intro w9 s9
                go_wp2
                go_roundw
                case rel => exact ⟨k + 1, false, by omega, by go_num, rfl, Lib.hid (by rw [HB.out]; simp), s9⟩
                case measure => simp [intOf]; omega
              · obtain rfl : B = false := by rw [hBv]; simp [hki]
                clear hBv
                repeat (first | (refine seq_pure (v := ?_) (by rfl) ?_ ?_; rotate_left; (· (intro w' hS; have hci := (hS.cell (p := ⟨b0, off + i, none⟩) hlt0).trans ci; have hck := (hS.cell (p := ⟨b0, off + k, none⟩) hlt0).trans ck; go_simp; try with_reducible rfl)); simp only [Act.put, List.setIfInBounds_toArray, List.set_cons_zero, List.set_cons_succ]) | (refine seq_skip (by rfl) ?_; simp only [Act.put, List.setIfInBounds_toArray, List.set_cons_zero, List.set_cons_succ]) | fail)
                refine seq_call (f := 15) (args := #[.float .f64 xk, .float .f64 xi]) (v := .int .i64 (0)) (by rfl) ?_ ?_ ?_
                · intro w' hS; go_simp
                · intro w' hS; exact (HC.out _).mono fun e w'' ⟨h1, h2⟩ => ⟨h1, hS.trans (h2.mono hS.size)⟩
                simp only [Act.put, List.setIfInBounds_toArray, List.set_cons_zero, List.set_cons_succ]
                repeat (first | (refine seq_pure (v := ?_) (by rfl) ?_ ?_; rotate_left; (· (intro w' hS; have hci := (hS.cell (p := ⟨b0, off + i, none⟩) hlt0).trans ci; have hck := (hS.cell (p := ⟨b0, off + k, none⟩) hlt0).trans ck; go_simp; try with_reducible rfl)); simp only [Act.put, List.setIfInBounds_toArray, List.set_cons_zero, List.set_cons_succ]) | (refine seq_skip (by rfl) ?_; simp only [Act.put, List.setIfInBounds_toArray, List.set_cons_zero, List.set_cons_succ]) | fail)
                refine seq_nil ?_
                intro w9 s9
                go_wp2
                go_roundw
                case rel => exact ⟨k + 1, G, by omega, by go_num, rfl, Lib.hid (by rw [HB.out]; simp), s9⟩
                case measure => simp [intOf]; omega
            · obtain rfl : B = true := by rw [hBv]; simp
              clear hBv
              repeat (first | (refine seq_pure (v := ?_) (by rfl) ?_ ?_; rotate_left; (· (intro w' hS; have hci := (hS.cell (p := ⟨b0, off + i, none⟩) hlt0).trans ci; have hck := (hS.cell (p := ⟨b0, off + k, none⟩) hlt0).trans ck; go_simp; try with_reducible rfl)); simp only [Act.put, List.setIfInBounds_toArray, List.set_cons_zero, List.set_cons_succ]) | (refine seq_skip (by rfl) ?_; simp only [Act.put, List.setIfInBounds_toArray, List.set_cons_zero, List.set_cons_succ]) | fail)
              refine seq_call (f := 15) (args := #[.float .f64 xk, .float .f64 xi]) (v := .int .i64 (1)) (by rfl) ?_ ?_ ?_
              · intro w' hS; go_simp
              · intro w' hS; exact (HC.out _).mono fun e w'' ⟨h1, h2⟩ => ⟨h1, hS.trans (h2.mono hS.size)⟩
              simp only [Act.put, List.setIfInBounds_toArray, List.set_cons_zero, List.set_cons_succ]
              repeat (first | (refine seq_pure (v := ?_) (by rfl) ?_ ?_; rotate_left; (· (intro w' hS; have hci := (hS.cell (p := ⟨b0, off + i, none⟩) hlt0).trans ci; have hck := (hS.cell (p := ⟨b0, off + k, none⟩) hlt0).trans ck; go_simp; try with_reducible rfl)); simp only [Act.put, List.setIfInBounds_toArray, List.set_cons_zero, List.set_cons_succ]) | (refine seq_skip (by rfl) ?_; simp only [Act.put, List.setIfInBounds_toArray, List.set_cons_zero, List.set_cons_succ]) | fail)
              refine seq_nil ?_
              intro w9 s9
              go_wp2
              go_roundw
              case rel => exact ⟨k + 1, false, by omega, by go_num, rfl, Lib.hid (by rw [HB.out]; simp), s9⟩
              case measure => simp [intOf]; omega
        · obtain rfl : k = n := by omega
          cases G with
          | true =>
            have HV := Lib.hid (show BestIs xs (i : Int) from .inl ⟨i, rfl, good_best (by omega) (by rw [hl]; exact HG.out.symm)⟩)
            go_wp2
            go_ret
            exact ⟨_, rfl, HV.out, hbel2⟩
          | false =>
            go_wp2
            go_roundw
            case rel => exact ⟨i + 1, by omega, by go_num, hbel2, Lib.hid (fun j hj => by
              rcases Nat.lt_or_ge j i with h | h
              · exact hbad.out j h
              · obtain rfl : j = i := by omega
                exact HG.out.symm)⟩
            case measure => simp [intOf]; omega
    · obtain rfl : i = n := by omega
      have HV := Lib.hid (none_good (xs := xs) (fun j hj => by rw [hl]; exact hbad.out j (by omega)))
      go_wp2
      go_ret
      exact ⟨_, rfl, HV.out, hbel⟩
end Go.Proofs.Ytkanckphkmilkaa.F
