/-
  The calls of the statements OddsKinds, OddsLeft and OddsOrder of layer 23.
-/
import Derived.Test.YtkanckphkmilkaaOdA
import Derived.Outline
import Derived.Deep.RegionHeld3
import Derived.Deep.Cut
namespace Go.Proofs.Ytkanckphkmilkaa.F
set_option linter.unusedSimpArgs false
set_option linter.unusedVariables false
open Go.RowKit

theorem oddsKinds_walk (M : OC) (W : World) (hk : M.ok W) (a b : Nat) :
    Calls Try.prog 3 #[.float .f64 a, .float .f64 b] W fun e w' => e = .returned (.bool true) ∧ Below W.heap.size W w' := by
  have HK := Lib.hid hk
  have H1 := Lib.hid (fun X g => M.kind a X g)
  have H2 := Lib.hid (fun X => rkind_any a X)
  have H3 := Lib.hid (fun X g => M.compare a b X g)
  have H4 := Lib.hid (fun X => rcompare_any a b X)
  have H5 := Lib.hid (fun X g => M.share a b X g)
  obtain ⟨x, hx⟩ : ∃ x, x = kindW a := ⟨_, rfl⟩
  obtain ⟨y, hy⟩ : ∃ y, y = cmpW a b := ⟨_, rfl⟩
  rw [← hx] at H1 H2
  rw [← hy] at H3 H4
  have HS := Lib.hid (show ∀ r s, Quo a b r → Quo a b s → ∀ X, Calls Try.prog 16 #[.float .f64 r, .float .f64 s] X fun e w' => e = .returned (.bool true) ∧ Below X.heap.size X w' from fun r s h1 h2 X => by
    have := rsame_any r s X
    rw [decide_eq_true ((Quo.alike (.inl rfl) (.inl rfl) h1 h2).cmp)] at this
    exact this)
  clear hk hx hy
  rcases quo_run (P := Try.prog) 22 a b with ⟨q, hq, hrun⟩ | ⟨hq, hrun⟩
  · have HQ := Lib.hid hq
    clear hq
    go_enter Try.func3, Try.ntmps3
    go_wp2_with (first
      | (go_at_call 11; ((with_reducible refine (awake_true M _ HK.out).mono ?_); rintro e w1 ⟨rfl, b⟩; have B1 := Lib.hid b; clear b))
      | (go_at_call 12; ((with_reducible refine (H1.out _ (M.bel HK.out B1.out)).mono ?_); rintro e w2 ⟨rfl, b⟩; have B2 := Lib.hid (B1.out.trans (b.mono B1.out.size)); clear b))
      | (go_at_call 13; ((with_reducible refine (H2.out _).mono ?_); rintro e w3 ⟨rfl, b⟩; have B3 := Lib.hid (B2.out.trans (b.mono B2.out.size)); clear b))
      | (go_at_call 14; ((with_reducible refine (H3.out _ (M.bel HK.out B3.out)).mono ?_); rintro e w4 ⟨rfl, b⟩; have B4 := Lib.hid (B3.out.trans (b.mono B3.out.size)); clear b))
      | (go_at_call 15; ((with_reducible refine (H4.out _).mono ?_); rintro e w5 ⟨rfl, b⟩; have B5 := Lib.hid (B4.out.trans (b.mono B4.out.size)); clear b))
      | (go_at_call 17; ((with_reducible refine (H5.out _ (M.bel HK.out B5.out)).mono ?_); rintro e w6 ⟨r, rfl, hr, b⟩; have HR := Lib.hid hr; have B6 := Lib.hid (B5.out.trans (b.mono B5.out.size)); clear b hr))
      | (go_at_call 16; ((with_reducible refine (HS.out r q HR.out HQ.out _).mono ?_); rintro e w7 ⟨rfl, b⟩; have B7 := Lib.hid (B6.out.trans (b.mono B6.out.size)); clear b)))
    go_ret
    exact ⟨rfl, B7.out⟩
  · have HQ := Lib.hid hq
    clear hq
    go_enter Try.func3, Try.ntmps3
    go_wp2_with (first
      | (go_at_call 11; ((with_reducible refine (awake_true M _ HK.out).mono ?_); rintro e w1 ⟨rfl, b⟩; have B1 := Lib.hid b; clear b))
      | (go_at_call 12; ((with_reducible refine (H1.out _ (M.bel HK.out B1.out)).mono ?_); rintro e w2 ⟨rfl, b⟩; have B2 := Lib.hid (B1.out.trans (b.mono B1.out.size)); clear b))
      | (go_at_call 13; ((with_reducible refine (H2.out _).mono ?_); rintro e w3 ⟨rfl, b⟩; have B3 := Lib.hid (B2.out.trans (b.mono B2.out.size)); clear b))
      | (go_at_call 14; ((with_reducible refine (H3.out _ (M.bel HK.out B3.out)).mono ?_); rintro e w4 ⟨rfl, b⟩; have B4 := Lib.hid (B3.out.trans (b.mono B3.out.size)); clear b))
      | (go_at_call 15; ((with_reducible refine (H4.out _).mono ?_); rintro e w5 ⟨rfl, b⟩; have B5 := Lib.hid (B4.out.trans (b.mono B4.out.size)); clear b))
      | (go_at_call 17; ((with_reducible refine (H5.out _ (M.bel HK.out B5.out)).mono ?_); rintro e w6 ⟨r, rfl, hr, b⟩; have HR := Lib.hid hr; have B6 := Lib.hid (B5.out.trans (b.mono B5.out.size)); clear b hr))
      | (go_at_call 16; ((with_reducible refine (HS.out r _ HR.out (HQ.out _ (nanOf_nan _) (nanOf_lt _)) _).mono ?_); rintro e w7 ⟨rfl, b⟩; have B7 := Lib.hid (B6.out.drew.trans (b.mono B6.out.size)); clear b)))
    go_ret
    exact ⟨rfl, B7.out⟩
theorem cnt_cells {w' : World} {g : Nat} {T : TypeId} {t b r x : Int} {q : Bool} (h : Bk w' g T #[.int .u64 t, .int .u64 b, .int .u64 r, .int .u64 x, .bool q]) :
    w'.cell? ⟨g, 0, none⟩ = some (.int .u64 t) ∧ w'.cell? ⟨g, 1, none⟩ = some (.int .u64 b) ∧ w'.cell? ⟨g, 2, none⟩ = some (.int .u64 r) ∧ w'.cell? ⟨g, 3, none⟩ = some (.int .u64 x) ∧ w'.cell? ⟨g, 4, none⟩ = some (.bool q) :=
  ⟨h.cell 0, h.cell 1, h.cell 2, h.cell 3, h.cell 4⟩
theorem oddsLeft_walk (M : OC) (W : World) (hk : M.ok W) (t b r x : Nat) (q : Bool) (y : Nat) (ht : t < 18446744073709551616) (hx : x < 18446744073709551616) :
    Calls Try.prog 6 #[cntV t b r x q, .float .f64 y] W fun e w' => e = .returned (.bool true) ∧ Below W.heap.size W w' := by
  have HK := Lib.hid hk
  have H1 := Lib.hid (fun X g => M.left t b r x q X g ht hx)
  have H2 := Lib.hid (fun X => rleft_any t b r x q X ht hx)
  have H3 := Lib.hid (fun X g => M.days t b r x q y X g ht hx)
  have H4 := Lib.hid (fun X => rdays_any t b r x q y X ht hx)
  have HS := Lib.hid (show ∀ r s, LeftIs t x r → LeftIs t x s → ∀ X, Calls Try.prog 16 #[.float .f64 r, .float .f64 s] X fun e w' => e = .returned (.bool true) ∧ Below X.heap.size X w' from fun r s h1 h2 X => by
    have := rsame_any r s X
    rw [decide_eq_true (h1.alike h2).cmp] at this
    exact this)
  have HT := Lib.hid (show ∀ r s, DaysIs t x y r → DaysIs t x y s → ∀ X, Calls Try.prog 16 #[.float .f64 r, .float .f64 s] X fun e w' => e = .returned (.bool true) ∧ Below X.heap.size X w' from fun r s h1 h2 X => by
    have := rsame_any r s X
    rw [decide_eq_true (h1.alike h2).cmp] at this
    exact this)
  unfold cntV at H1 H2 H3 H4 ⊢
  clear hk ht hx
  obtain ⟨g, hg⟩ : ∃ g, g = W.heap.size := ⟨_, rfl⟩
  go_enter Try.func6, Try.ntmps6
  go_upto_region 3 with (go_at_call 11; ((with_reducible refine (awake_true M _ (M.bel HK.out (one_bel _ _))).mono ?_); rintro e w1 ⟨rfl, b⟩; have B1 := Lib.hid ((one_bel W _).trans (b.mono (by simp))); have G1 := Lib.hid ((Bk.newAt W _ _ g hg.symm).below b (by simp; omega)); clear b))
  rw [← hg]
  clear hg
  have HK0 := cnt_cells G1.out
  go_region_held3 (fun w' => w'.cell? ⟨g, 0, none⟩ = some (.int .u64 (t : Int)) ∧ w'.cell? ⟨g, 1, none⟩ = some (.int .u64 (b : Int)) ∧ w'.cell? ⟨g, 2, none⟩ = some (.int .u64 (r : Int)) ∧ w'.cell? ⟨g, 3, none⟩ = some (.int .u64 (x : Int)) ∧ w'.cell? ⟨g, 4, none⟩ = some (.bool q))
    (first
      | exact cnt_cells G7.out
      | exact cnt_cells G6.out
      | exact cnt_cells G5.out
      | exact cnt_cells G4.out
      | exact cnt_cells G3.out
      | exact cnt_cells G2.out
      | exact HK0)
    (first
      | (go_at_call 22; ((with_reducible refine (H1.out _ (M.bel HK.out B1.out.drew)).mono ?_); rintro e w2 ⟨s2, rfl, hr, b⟩; have S2 := Lib.hid hr; have B2 := Lib.hid (B1.out.drew.trans (b.mono B1.out.size)); have G2 := Lib.hid (G1.out.drew.below b G1.out.lt); clear b hr))
      | (go_at_call 23; ((with_reducible refine (H2.out _).mono ?_); rintro e w3 ⟨s3, rfl, hr, b⟩; have S3 := Lib.hid hr; have B3 := Lib.hid (B2.out.trans (b.mono B2.out.size)); have G3 := Lib.hid (G2.out.below b G2.out.lt); clear b hr))
      | (go_at_call 16; ((with_reducible refine (HS.out s2 s3 S2.out S3.out _).mono ?_); rintro e w4 ⟨rfl, b⟩; have B4 := Lib.hid (B3.out.trans (b.mono B3.out.size)); have G4 := Lib.hid (G3.out.below b G3.out.lt); clear b))
      | (go_at_call 24; ((with_reducible refine (H3.out _ (M.bel HK.out B4.out)).mono ?_); rintro e w5 ⟨s5, rfl, hr, b⟩; have S5 := Lib.hid hr; have B5 := Lib.hid (B4.out.trans (b.mono B4.out.size)); have G5 := Lib.hid (G4.out.below b G4.out.lt); clear b hr))
      | (go_at_call 25; ((with_reducible refine (H4.out _).mono ?_); rintro e w6 ⟨s6, rfl, hr, b⟩; have S6 := Lib.hid hr; have B6 := Lib.hid (B5.out.trans (b.mono B5.out.size)); have G6 := Lib.hid (G5.out.below b G5.out.lt); clear b hr))
      | (go_at_call 16; ((with_reducible refine (HT.out s5 s6 S5.out S6.out _).mono ?_); rintro e w7 ⟨rfl, b⟩; have B7 := Lib.hid (B6.out.trans (b.mono B6.out.size)); have G7 := Lib.hid (G6.out.below b G6.out.lt); clear b)))
  go_wp2
  go_ret
  exact ⟨rfl, B7.out⟩
end Go.Proofs.Ytkanckphkmilkaa.F
