/-
  The call of the statement OddsBest of layer 23. (Written by genod7.py.)
-/
import Derived.Test.YtkanckphkmilkaaOdA
import Derived.Test.YtkanckphkmilkaaFlR
import Derived.Test.YtkanckphkmilkaaFl8
import Derived.Test.YtkanckphkmilkaaSteady
import Derived.Outline
import Derived.Deep.RegionHeld3
import Derived.Deep.Cut
namespace Go.Proofs.Ytkanckphkmilkaa.F
set_option linter.unusedSimpArgs false
set_option linter.unusedVariables false
open Go.RowKit

theorem kind_is5 (a : Nat) : (((kindW a : Nat) : Int) == 5) = isN a := by
  cases h : isN a with
  | true => rw [kind_nan.2 h]; rfl
  | false =>
    have : kindW a ≠ 5 := fun e => by have := kind_nan.1 e; rw [h] at this; cases this
    simp; omega
set_option maxRecDepth 100000 in
set_option maxHeartbeats 8000000 in
theorem oddsBest_walk (M : OC) (W : World) (hk : M.ok W) (A : Option Addr) (n c : Nat) (xs : List Nat) (hr : Rf W A n c xs) :
    Calls Try.prog 9 #[.slice A n c] W fun e w' => e = .returned (.bool true) ∧ Below W.heap.size W w' := by
  have HK := Lib.hid hk
  have hl := hr.len
  have hmx := Nat.le_trans hr.cap hr.max
  unfold maxLen at hmx
  clear hk
  by_cases hbig : 1000 < n
  · clear hr hl
    go_enter Try.func9, Try.ntmps9
    go_wp2_with (go_at_call 11; ((with_reducible refine (awake_true M _ HK.out).mono ?_); rintro e w1 ⟨rfl, b⟩; have B1 := Lib.hid b; clear b))
    go_ret
    exact ⟨rfl, B1.out⟩
  · have HR := Lib.hid hr
    have HN := Lib.hid (show n ≤ 100000 by omega)
    clear hmx
    go_enter Try.func9, Try.ntmps9
    go_wp2_with (first
      | (go_at_call 11; ((with_reducible refine (awake_true M _ HK.out).mono ?_); rintro e w1 ⟨rfl, b⟩; have B1 := Lib.hid b; clear b))
      | (go_at_call 18; ((with_reducible refine (M.best _ n c xs _ (M.bel HK.out B1.out) (HR.out.below B1.out) HN.out).mono ?_); rintro e w2 ⟨v2, rfl, hv, b⟩; have V2 := Lib.hid hv; have B2 := Lib.hid (B1.out.trans (b.mono B1.out.size)); clear b hv)))
    go_loopw [4, 5] (fun v4 v5 wr => ∃ (i : Nat) (G : Bool), i ≤ n ∧ v5 = .int .i64 (i : Int) ∧ v4 = .bool G ∧ Hid (G = allT xs i) ∧ Below W.heap.size W wr) (fun _ v5 _ => n - (intOf v5).toNat)
    case atStart => exact ⟨0, true, Nat.zero_le _, rfl, rfl, Lib.hid rfl, B2.out⟩
    case round =>
      obtain ⟨i, G, hi, rfl, rfl, HG, hbel⟩ := hrel
      obtain ⟨wo, rfl⟩ : ∃ wo : World, wo = wr := ⟨_, rfl⟩
      by_cases hlt : i < n
      · have HT := Lib.hid (show allT xs (i + 1) = (G && isN (xs.getD i 0)) by rw [allT_succ, ← HG.out])
        cases G with
        | false =>
          go_wp2
          go_roundw
          case rel => exact ⟨i + 1, false, by omega, by go_num, rfl, Lib.hid (by rw [HT.out]; rfl), hbel⟩
          case measure => simp [intOf]; omega
        | true =>
          obtain ⟨b0, off, hA, hlt0, hcell⟩ := hr.at_ (by omega)
          have ci := (hbel.cell (p := ⟨b0, off + i, none⟩) hlt0).trans (hcell i hlt)
          generalize xs.getD i 0 = xi at ci HT
          have H1 := Lib.hid (fun X => rkind_any xi X)
          have ek := kind_is5 xi
          generalize kindW xi = kx at H1 ek
          generalize isN xi = nx at ek HT
          subst hA
          clear hcell hr
          have BO := Lib.hid hbel
          clear hbel
          go_wp2_with (go_at_call 13; ((with_reducible refine (H1.out _).mono ?_); rintro e w5 ⟨rfl, b⟩; have B5 := Lib.hid (BO.out.trans (b.mono BO.out.size)); clear b))
          go_roundw
          case rel => exact ⟨i + 1, nx, by omega, by go_num, rfl, Lib.hid (by rw [HT.out]; simp), B5.out⟩
          case measure => simp [intOf]; omega
      · obtain rfl : i = n := by omega
        rcases V2.out with ⟨k, rfl, hb⟩ | ⟨rfl, hb⟩
        · -- there is a best
          obtain rfl : G = false := by rw [HG.out, ← hl]; exact allT_some hb
          have hkn : k < i := by have := hb.1; omega
          have HBK := Lib.hid hb
          obtain ⟨b0, off, rfl, hlt0, hcell⟩ := hr.at_ (by omega)
          have hck := hcell k hkn
          obtain ⟨xk, hxk⟩ : ∃ x, xs.getD k 0 = x := ⟨_, rfl⟩
          rw [hxk] at hck
          have ck := (hbel.cell (p := ⟨b0, off + k, none⟩) hlt0).trans hck
          have HXK := Lib.hid hxk
          have HCK := Lib.hid hck
          have BO := Lib.hid hbel
          have hcap := hr.cap
          have HL := Lib.hid hl
          clear hcell hb hck hxk hbel hr hl
          go_upto_region 14 with (at_builtin; refine append_rf (by rfl) (.tmp 48) (.tmp 49) (by rfl) wo.heap.size (.slice (some ⟨wo.heap.size, 0, none⟩) 1 1) 1 [xk] (by rfl) (own_lit_f wo wo.heap.size [xk] (Nat.le_refl _) (by simp [maxLen])) (some ⟨b0, off, none⟩) i c xs (by rfl) ((HR.out.below BO.out).alloc _) (by omega) (by simp) ?happ)
          case happ =>
            intro v6 w6 o6 g6
            obtain ⟨A6, c6, rfl⟩ := own_form o6
            have bg6 : Below wo.heap.size wo w6 := ((Below.refl _ _).alloc (Nat.le_refl _) _).grown g6 (by simp) (fun g hg => by simp [Value.ownBlock] at hg; omega)
            have B6 := Lib.hid (BO.out.trans (bg6.mono BO.out.size))
            have O6 := Lib.hid o6
            have z6 := bg6.size
            have lt6 := Lib.hid (fun (g : Nat) (hg : (Value.slice A6 (1 + i) c6).ownBlock = some g) => o6.lt g hg)
            obtain ⟨k1, hk1⟩ : ∃ k1, k1 = k + 1 := ⟨_, rfl⟩
            have k2 : (k : Int) + 1 = (k1 : Int) := by omega
            have k3 : k1 ≤ i := by omega
            have wk : IntKind.i64.wrap (k1 : Int) = (k1 : Int) := by rw [IntKind.wrap_i64]; omega
            have wk2 : IntKind.i64.wrap ((k : Int) + 1) = (k1 : Int) := by rw [k2]; exact wk
            have k4 : k ≤ c := by omega
            have hs1 := fun W => run_cutFH (A := some ⟨b0, off, none⟩) (n := i) (c := c) (m := k) (h := (k : Int)) rfl k4 W
            have hs2 := fun W => run_cutFHAt (A := some ⟨b0, off, none⟩) (n := i) (c := c) (m := k) (h := (k : Int)) rfl k4 W
            have hs3 := fun W => run_cutFL (A := some ⟨b0, off, none⟩) (n := i) (c := c) (k := k1) (l := (k1 : Int)) rfl k3 W
            have hs4 := fun W => run_cutFLAt (A := some ⟨b0, off, none⟩) (n := i) (c := c) (k := k1) (l := (k1 : Int)) rfl k3 W
            have RD := Lib.hid (fun X (h : Below W.heap.size W X) => (HR.out.below h).cut k3)
            generalize (if c = k1 then (some ⟨b0, off, none⟩ : Option Addr) else (some ⟨b0, off, none⟩ : Option Addr).map (·.add k1)) = A2 at hs3 hs4 RD
            have RT := Lib.hid (fun X (h : Below W.heap.size W X) => (HR.out.below h).take (Nat.le_of_lt hkn))
            have HRL := Lib.hid (show xs.take k ++ xs.drop k1 = restL xs k by rw [hk1]; rfl)
            have hsum := Lib.hid (show 0 + k + (i - k1) = i - 1 by omega)
            clear o6 g6 hk1 bg6
            go_upto_region 14 with (fail)
            (go_region_held3 (fun _ => True) (trivial) (first
              | (refine step_append_rf (by rfl) (.tmp 51) (.tmp 54) (by rfl) W.heap.size (.slice (some ⟨w6.heap.size, 0, none⟩) 0 0) 0 [] (by rfl) (own_lit_f w6.drew W.heap.size [] B6.out.size (by simp [maxLen])) (some ⟨b0, off, none⟩) k c (xs.take k) (by rfl) (RT.out _ (B6.out.drew.alloc B6.out.size _)) (by omega) (by have := B6.out.size; simp; omega) ?_; intro v7 w7 o7 g7 at7; simp only [List.nil_append] at o7; have O7 := Lib.hid o7; have B7 := Lib.hid ((B6.out.drew.alloc B6.out.size _).grown g7 (by have := B6.out.size; simp; omega) (fun g hg => by have := B6.out.size; simp [Value.ownBlock] at hg; omega)); have N7 := Lib.hid (((Below.refl w6.heap.size w6).drew.alloc (Nat.le_refl _) _).grown g7 (by simp) (fun g hg => by simp [Value.ownBlock] at hg; omega)); have M7 := Lib.hid (show ∀ g, v7.ownBlock = some g → w6.heap.size ≤ g from fun g hg => by rcases at7 with e | e <;> (rw [e] at hg; simp [Value.ownBlock] at hg; omega)); clear o7 g7 at7)
              | (refine step_append_rf (by rfl) (.tmp 55) (.tmp 59) (by rfl) W.heap.size v7 (0 + k) (xs.take k) (by rfl) O7.out A2 (i - k1) (c - k1) (xs.drop k1) (by rfl) (RD.out _ B7.out) (by omega) B7.out.size ?_; intro v8 w8 o8 g8 at8; rw [HRL.out, hsum.out] at o8; obtain ⟨A8, c8, rfl⟩ := own_form o8; have O8 := Lib.hid o8; have B8 := Lib.hid (B7.out.grown g8 B7.out.size (fun g hg => (O7.out.lt g hg).1)); have N8 := Lib.hid (N7.out.grown g8 N7.out.size M7.out); clear o8 g8 at8)
              | fail))
            have R8 := Lib.hid (Rf.own O8.out)
            have R6 := Lib.hid ((Rf.own O6.out).below N8.out)
            have BF := Lib.hid (show ∀ X, M.ok X → Rf X A6 (1 + i) c6 (xk :: xs) → Calls Try.prog 18 #[.slice A6 (1 + i) c6] X fun e w' => e = .returned (.int .i64 0) ∧ Below X.heap.size X w' from fun X g hr => (M.best A6 (1 + i) c6 _ X g hr (by omega)).mono fun e w' ⟨v, h1, h2, h3⟩ => ⟨by
              rw [← HXK.out] at h2
              rw [h1, best_first HBK.out h2], h3⟩)
            have HN1 := Lib.hid (show i - 1 ≤ 100000 by omega)
            clear hs1 hs2 hs3 hs4 wk wk2 O7 O8 B7 N7 M7 RD RT
            go_upto_region 16 with (go_at_call 18; ((with_reducible refine (M.best A8 (i - 1) c8 (restL xs k) _ (M.bel HK.out B8.out) R8.out HN1.out).mono ?_); rintro e w9 ⟨v9, rfl, hv, b⟩; have V9 := Lib.hid hv; have B9 := Lib.hid (B8.out.trans (b.mono B8.out.size)); have R9 := Lib.hid (R8.out.below b); have F9 := Lib.hid (R6.out.below b); clear b hv))
            rcases V9.out with ⟨j, rfl, hj⟩ | ⟨rfl, hj⟩
            · have HJ := Lib.hid hj
              have hj1 : j < i - 1 := by
                have h1 := hj.1
                have h2 := HL.out
                rw [restL_length (by omega)] at h1
                omega
              obtain ⟨b8, off8, rfl, hlt8, hcell8⟩ := R9.out.at_ (by omega)
              have cj := hcell8 j hj1
              have ckk := (B9.out.cell (p := ⟨b0, off + k, none⟩) hlt0).trans HCK.out
              have hcmp : cmpW ((restL xs k).getD j 0) xk ≤ 0 := by rw [← HXK.out]; exact best_rest HBK.out hj
              generalize (restL xs k).getD j 0 = rj at cj hcmp
              have HCJ := Lib.hid (fun X g => M.compare rj xk X g)
              generalize cmpW rj xk = C at HCJ hcmp
              have j0 : ¬ (j : Int) < 0 := by omega
              have j2 : (j : Int) < ((i - 1 : Nat) : Int) := by omega
              have HJC := Lib.hid cj
              have HKC := Lib.hid ckk
              have L0 := Lib.hid hlt0
              have L8 := Lib.hid hlt8
              clear hcell8 hj
              (first
                | (go_region_held3 (fun w' => w'.cell? ⟨b8, off8 + j, none⟩ = some (.float .f64 rj) ∧ w'.cell? ⟨b0, off + k, none⟩ = some (.float .f64 xk))
                    (first
                      | exact ⟨(N11.out.cell (p := ⟨b8, off8 + j, none⟩) L8.out).trans HJC.out, (B11.out.cell (p := ⟨b0, off + k, none⟩) L0.out).trans HCK.out⟩
                      | exact ⟨(N10.out.cell (p := ⟨b8, off8 + j, none⟩) L8.out).trans HJC.out, (B10.out.cell (p := ⟨b0, off + k, none⟩) L0.out).trans HCK.out⟩
                      | exact ⟨HJC.out, HKC.out⟩)
                    (first
                      | (go_at_call 18; ((with_reducible refine (BF.out _ (M.bel HK.out B9.out.drew) (F9.out.below (Below.refl _ _).drew)).mono ?_); rintro e w10 ⟨rfl, b⟩; have B10 := Lib.hid (B9.out.drew.trans (b.mono B9.out.size)); have N10 := Lib.hid (((Below.refl w9.heap.size w9).drew).trans b); clear b))
                      | (go_at_call 14; ((with_reducible refine (HCJ.out _ (M.bel HK.out B10.out)).mono ?_); rintro e w11 ⟨rfl, b⟩; have B11 := Lib.hid (B10.out.trans (b.mono B10.out.size)); have N11 := Lib.hid (N10.out.trans (b.mono N10.out.size)); clear b))
                      | fail))
                | fail)
              go_wp2
              go_ret
              exact ⟨rfl, B11.out⟩
            · clear hj
              refine wp_region_steady (fun w' => Below w9.heap.size w9 w') (by kernel_rfl) (by kernel_rfl) (Below.refl _ _).drew ?_
              repeat (first | (refine seq_pure (v := ?_) (by rfl) ?_ ?_; rotate_left; (· (intro w' hS; go_simp; try with_reducible rfl)); simp only [Act.put, List.setIfInBounds_toArray, List.set_cons_zero, List.set_cons_succ]) | (refine seq_skip (by rfl) ?_; simp only [Act.put, List.setIfInBounds_toArray, List.set_cons_zero, List.set_cons_succ]) | fail)
              refine seq_call (f := 18) (args := #[.slice A6 (1 + i) c6]) (v := .int .i64 0) (by rfl) ?_ ?_ ?_
              · intro w' hS; go_simp
              · intro w' hS; exact (BF.out _ (M.bel HK.out (B9.out.trans (hS.mono B9.out.size))) (F9.out.below hS)).mono fun e w'' ⟨h1, h2⟩ => ⟨h1, hS.trans (h2.mono hS.size)⟩
              simp only [Act.put, List.setIfInBounds_toArray, List.set_cons_zero, List.set_cons_succ]
              repeat (first | (refine seq_pure (v := ?_) (by rfl) ?_ ?_; rotate_left; (· (intro w' hS; go_simp; try with_reducible rfl)); simp only [Act.put, List.setIfInBounds_toArray, List.set_cons_zero, List.set_cons_succ]) | (refine seq_skip (by rfl) ?_; simp only [Act.put, List.setIfInBounds_toArray, List.set_cons_zero, List.set_cons_succ]) | fail)
              refine seq_nil ?_
              intro w10 s10
              go_wp2
              go_ret
              exact ⟨rfl, B9.out.trans (s10.mono B9.out.size)⟩
        · -- there is none
          obtain rfl : G = true := by rw [HG.out, ← hl]; exact allT_none hb
          clear hb hr
          go_wp2
          go_ret
          exact ⟨rfl, hbel⟩
end Go.Proofs.Ytkanckphkmilkaa.F
