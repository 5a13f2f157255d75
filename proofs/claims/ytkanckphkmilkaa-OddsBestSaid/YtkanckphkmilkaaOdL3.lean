/-
  The call of the statement OddsClamps of layer 23. (Written by genod3.py.)
-/
import Derived.Test.YtkanckphkmilkaaOdA
import Derived.Outline
namespace Go.Proofs.Ytkanckphkmilkaa.F
set_option linter.unusedSimpArgs false
set_option linter.unusedVariables false
open Go.RowKit

theorem kind_ne {a : Nat} (h : isN a = false) : ((kindW a : Nat) : Int) ≠ 5 := fun e => by
  have : isN a = true := kind_nan.1 (by omega)
  rw [h] at this; cases this
theorem cmp_1 {a b : Nat} (h : okey b < okey a) : cmpW a b = 1 := by
  unfold cmpW
  rw [if_neg (by omega), if_neg (by omega)]
set_option maxHeartbeats 8000000 in
theorem oddsClamps_walk (M : OC) (W : World) (hk : M.ok W) (x l h : Nat) :
    Calls Try.prog 5 #[.float .f64 x, .float .f64 l, .float .f64 h] W fun e w' => e = .returned (.bool true) ∧ Below W.heap.size W w' := by
  have HK := Lib.hid hk
  have HC := Lib.hid (fun X g => M.clamp x l h X g)
  have KX := Lib.hid (fun X => rkind_any x X)
  have KL := Lib.hid (fun X => rkind_any l X)
  have KH := Lib.hid (fun X => rkind_any h X)
  have CLH := Lib.hid (fun X => rcompare_any l h X)
  have CLX := Lib.hid (fun X => rcompare_any l x X)
  have CXH := Lib.hid (fun X => rcompare_any x h X)
  have CLL := Lib.hid (fun X => rcompare_any l l X)
  have CHH := Lib.hid (fun X => rcompare_any h h X)
  have SXX := Lib.hid (fun X => rsame_any x x X)
  have SLL := Lib.hid (fun X => rsame_any l l X)
  have SHL := Lib.hid (fun X => rsame_any h l X)
  have SHH := Lib.hid (fun X => rsame_any h h X)
  have KN := Lib.hid (show ∀ r, isN r = true → ∀ X, Calls Try.prog 13 #[.float .f64 r] X fun e w' => e = .returned (.int .i64 5) ∧ Below X.heap.size X w' from fun r hr X => by
    have := rkind_any r X
    rw [kind_nan.2 hr] at this
    exact this)
  rw [cmpW_self] at CLL CHH
  rw [cmpW_self] at SXX SLL SHH
  simp only [decide_true] at SXX SLL SHH
  clear hk
  cases hb : clampB x l h with
  | false =>
    have HC := Lib.hid (show ∀ X, M.ok X → Calls Try.prog 21 #[.float .f64 x, .float .f64 l, .float .f64 h] X fun e w' => ∃ r, e = .returned (.tuple #[.float .f64 r, .bool false]) ∧ isN r = true ∧ Below X.heap.size X w' from fun X g => (HC.out X g).mono fun e w' ⟨r, h1, h2, h3⟩ => ⟨r, by rw [h1, hb], by
      unfold ClampIs at h2
      rw [hb, if_neg (by simp)] at h2
      exact h2.1, h3⟩)
    by_cases nx : isN x = true
    · rw [kind_nan.2 nx] at KX
      clear hb nx
      go_enter Try.func5, Try.ntmps5
      go_wp2_with (first
        | (go_at_call 11; ((with_reducible refine (awake_true M _ HK.out).mono ?_); rintro e w1 ⟨rfl, b⟩; have B1 := Lib.hid b; clear b))
        | (go_at_call 21; ((with_reducible refine (HC.out _ (M.bel HK.out B1.out)).mono ?_); rintro e w2 ⟨r, rfl, n, b⟩; have B2 := Lib.hid (B1.out.trans (b.mono B1.out.size)); have HN := Lib.hid n; clear n; clear b))
        | (go_at_call 13; ((with_reducible refine (KX.out _).mono ?_); rintro e w3 ⟨rfl, b⟩; have B3 := Lib.hid (B2.out.trans (b.mono B2.out.size)); clear b))
        | (go_at_call 13; ((with_reducible refine (KN.out r HN.out _).mono ?_); rintro e w4 ⟨rfl, b⟩; have B4 := Lib.hid (B3.out.trans (b.mono B3.out.size)); clear b)))
      go_ret
      exact ⟨rfl, B4.out⟩
    · have nx5 := kind_ne (a := x) (by simpa using nx)
      generalize kindW x = kx at KX nx5
      have mx : ((kx : Int) != 5) = true := by simpa using nx5
      by_cases nl : isN l = true
      · rw [kind_nan.2 nl] at KL
        clear hb nl nx
        go_enter Try.func5, Try.ntmps5
        go_wp2_with (first
          | (go_at_call 11; ((with_reducible refine (awake_true M _ HK.out).mono ?_); rintro e w1 ⟨rfl, b⟩; have B1 := Lib.hid b; clear b))
          | (go_at_call 21; ((with_reducible refine (HC.out _ (M.bel HK.out B1.out)).mono ?_); rintro e w2 ⟨r, rfl, n, b⟩; have B2 := Lib.hid (B1.out.trans (b.mono B1.out.size)); have HN := Lib.hid n; clear n; clear b))
          | (go_at_call 13; ((with_reducible refine (KX.out _).mono ?_); rintro e w3 ⟨rfl, b⟩; have B3 := Lib.hid (B2.out.trans (b.mono B2.out.size)); clear b))
          | (go_at_call 13; ((with_reducible refine (KL.out _).mono ?_); rintro e w4 ⟨rfl, b⟩; have B4 := Lib.hid (B3.out.trans (b.mono B3.out.size)); clear b))
          | (go_at_call 13; ((with_reducible refine (KN.out r HN.out _).mono ?_); rintro e w5 ⟨rfl, b⟩; have B5 := Lib.hid (B4.out.trans (b.mono B4.out.size)); clear b)))
        go_ret
        exact ⟨rfl, B5.out⟩
      · have nl5 := kind_ne (a := l) (by simpa using nl)
        generalize kindW l = kl at KL nl5
        have ml : ((kl : Int) != 5) = true := by simpa using nl5
        by_cases nh : isN h = true
        · rw [kind_nan.2 nh] at KH
          clear hb nl nx nh
          go_enter Try.func5, Try.ntmps5
          go_wp2_with (first
            | (go_at_call 11; ((with_reducible refine (awake_true M _ HK.out).mono ?_); rintro e w1 ⟨rfl, b⟩; have B1 := Lib.hid b; clear b))
            | (go_at_call 21; ((with_reducible refine (HC.out _ (M.bel HK.out B1.out)).mono ?_); rintro e w2 ⟨r, rfl, n, b⟩; have B2 := Lib.hid (B1.out.trans (b.mono B1.out.size)); have HN := Lib.hid n; clear n; clear b))
            | (go_at_call 13; ((with_reducible refine (KX.out _).mono ?_); rintro e w3 ⟨rfl, b⟩; have B3 := Lib.hid (B2.out.trans (b.mono B2.out.size)); clear b))
            | (go_at_call 13; ((with_reducible refine (KL.out _).mono ?_); rintro e w4 ⟨rfl, b⟩; have B4 := Lib.hid (B3.out.trans (b.mono B3.out.size)); clear b))
            | (go_at_call 13; ((with_reducible refine (KH.out _).mono ?_); rintro e w5 ⟨rfl, b⟩; have B5 := Lib.hid (B4.out.trans (b.mono B4.out.size)); clear b))
            | (go_at_call 13; ((with_reducible refine (KN.out r HN.out _).mono ?_); rintro e w6 ⟨rfl, b⟩; have B6 := Lib.hid (B5.out.trans (b.mono B5.out.size)); clear b)))
          go_ret
          exact ⟨rfl, B6.out⟩
        · have nh5 := kind_ne (a := h) (by simpa using nh)
          generalize kindW h = kh at KH nh5
          have mh : ((kh : Int) != 5) = true := by simpa using nh5
          have hlh : okey h < okey l := by
            simp only [clampB, (show isN x = false by simpa using nx), (show isN l = false by simpa using nl), (show isN h = false by simpa using nh)] at hb
            simp at hb
            exact hb
          rw [cmp_1 hlh] at CLH
          clear hb nl nx nh hlh
          go_enter Try.func5, Try.ntmps5
          go_wp2_with (first
            | (go_at_call 11; ((with_reducible refine (awake_true M _ HK.out).mono ?_); rintro e w1 ⟨rfl, b⟩; have B1 := Lib.hid b; clear b))
            | (go_at_call 21; ((with_reducible refine (HC.out _ (M.bel HK.out B1.out)).mono ?_); rintro e w2 ⟨r, rfl, n, b⟩; have B2 := Lib.hid (B1.out.trans (b.mono B1.out.size)); have HN := Lib.hid n; clear n; clear b))
            | (go_at_call 13; ((with_reducible refine (KX.out _).mono ?_); rintro e w3 ⟨rfl, b⟩; have B3 := Lib.hid (B2.out.trans (b.mono B2.out.size)); clear b))
            | (go_at_call 13; ((with_reducible refine (KL.out _).mono ?_); rintro e w4 ⟨rfl, b⟩; have B4 := Lib.hid (B3.out.trans (b.mono B3.out.size)); clear b))
            | (go_at_call 13; ((with_reducible refine (KH.out _).mono ?_); rintro e w5 ⟨rfl, b⟩; have B5 := Lib.hid (B4.out.trans (b.mono B4.out.size)); clear b))
            | (go_at_call 15; ((with_reducible refine (CLH.out _).mono ?_); rintro e w6 ⟨rfl, b⟩; have B6 := Lib.hid (B5.out.trans (b.mono B5.out.size)); clear b))
            | (go_at_call 13; ((with_reducible refine (KN.out r HN.out _).mono ?_); rintro e w7 ⟨rfl, b⟩; have B7 := Lib.hid (B6.out.trans (b.mono B6.out.size)); clear b)))
          go_ret
          exact ⟨rfl, B7.out⟩
  | true =>
    have hb' := hb
    simp only [clampB, Bool.and_eq_true, Bool.not_eq_true', decide_eq_true_eq] at hb'
    obtain ⟨⟨⟨nx, nl⟩, nh⟩, hle⟩ := hb'
    have nx5 := kind_ne nx
    have nl5 := kind_ne nl
    have nh5 := kind_ne nh
    generalize kindW x = kx at KX nx5
    have mx : ((kx : Int) != 5) = true := by simpa using nx5
    generalize kindW l = kl at KL nl5
    have ml : ((kl : Int) != 5) = true := by simpa using nl5
    generalize kindW h = kh at KH nh5
    have mh : ((kh : Int) != 5) = true := by simpa using nh5
    have plh : cmpW l h ≤ 0 := cmpW_le.2 hle
    have HC := Lib.hid (show ∀ X, M.ok X → Calls Try.prog 21 #[.float .f64 x, .float .f64 l, .float .f64 h] X fun e w' => e = .returned (.tuple #[.float .f64 (if okey x < okey l then l else if okey h < okey x then h else x), .bool true]) ∧ Below X.heap.size X w' from fun X g => (HC.out X g).mono fun e w' ⟨r, h1, h2, h3⟩ => ⟨by
      unfold ClampIs at h2
      rw [hb, if_pos rfl] at h2
      rw [h1, hb, h2], h3⟩)
    by_cases c1 : okey x < okey l
    · rw [if_pos c1] at HC
      rw [cmp_1 c1] at CLX
      generalize cmpW l h = plh' at CLH plh
      clear hb nx nl nh hle c1
      go_enter Try.func5, Try.ntmps5
      go_wp2_with (first
        | (go_at_call 11; ((with_reducible refine (awake_true M _ HK.out).mono ?_); rintro e w1 ⟨rfl, b⟩; have B1 := Lib.hid b; clear b))
        | (go_at_call 21; ((with_reducible refine (HC.out _ (M.bel HK.out B1.out)).mono ?_); rintro e w2 ⟨rfl, b⟩; have B2 := Lib.hid (B1.out.trans (b.mono B1.out.size)); clear b))
        | (go_at_call 13; ((with_reducible refine (KX.out _).mono ?_); rintro e w3 ⟨rfl, b⟩; have B3 := Lib.hid (B2.out.trans (b.mono B2.out.size)); clear b))
        | (go_at_call 13; ((with_reducible refine (KL.out _).mono ?_); rintro e w4 ⟨rfl, b⟩; have B4 := Lib.hid (B3.out.trans (b.mono B3.out.size)); clear b))
        | (go_at_call 13; ((with_reducible refine (KH.out _).mono ?_); rintro e w5 ⟨rfl, b⟩; have B5 := Lib.hid (B4.out.trans (b.mono B4.out.size)); clear b))
        | (go_at_call 15; ((with_reducible refine (CLH.out _).mono ?_); rintro e w6 ⟨rfl, b⟩; have B6 := Lib.hid (B5.out.trans (b.mono B5.out.size)); clear b))
        | (go_at_call 15; ((with_reducible refine (CLX.out _).mono ?_); rintro e w7 ⟨rfl, b⟩; have B7 := Lib.hid (B6.out.trans (b.mono B6.out.size)); clear b))
        | (go_at_call 15; ((with_reducible refine (CLL.out _).mono ?_); rintro e w8 ⟨rfl, b⟩; have B8 := Lib.hid (B7.out.trans (b.mono B7.out.size)); clear b))
        | (go_at_call 15; ((with_reducible refine (CLH.out _).mono ?_); rintro e w9 ⟨rfl, b⟩; have B9 := Lib.hid (B8.out.trans (b.mono B8.out.size)); clear b))
        | (go_at_call 16; ((with_reducible refine (SLL.out _).mono ?_); rintro e w10 ⟨rfl, b⟩; have B10 := Lib.hid (B9.out.trans (b.mono B9.out.size)); clear b)))
      go_ret
      exact ⟨rfl, B10.out⟩
    · rw [if_neg c1] at HC
      have plx : cmpW l x ≤ 0 := cmpW_le.2 (by omega)
      by_cases c2 : okey h < okey x
      · rw [if_pos c2] at HC
        rw [cmp_1 c2] at CXH
        generalize cmpW l h = plh' at CLH plh
        generalize cmpW l x = plx' at CLX plx
        clear hb nx nl nh hle c1 c2
        cases hs : decide (cmpW h l = 0) with
        | true =>
          rw [hs] at SHL
          clear hs
          go_enter Try.func5, Try.ntmps5
          go_wp2_with (first
            | (go_at_call 11; ((with_reducible refine (awake_true M _ HK.out).mono ?_); rintro e w1 ⟨rfl, b⟩; have B1 := Lib.hid b; clear b))
            | (go_at_call 21; ((with_reducible refine (HC.out _ (M.bel HK.out B1.out)).mono ?_); rintro e w2 ⟨rfl, b⟩; have B2 := Lib.hid (B1.out.trans (b.mono B1.out.size)); clear b))
            | (go_at_call 13; ((with_reducible refine (KX.out _).mono ?_); rintro e w3 ⟨rfl, b⟩; have B3 := Lib.hid (B2.out.trans (b.mono B2.out.size)); clear b))
            | (go_at_call 13; ((with_reducible refine (KL.out _).mono ?_); rintro e w4 ⟨rfl, b⟩; have B4 := Lib.hid (B3.out.trans (b.mono B3.out.size)); clear b))
            | (go_at_call 13; ((with_reducible refine (KH.out _).mono ?_); rintro e w5 ⟨rfl, b⟩; have B5 := Lib.hid (B4.out.trans (b.mono B4.out.size)); clear b))
            | (go_at_call 15; ((with_reducible refine (CLH.out _).mono ?_); rintro e w6 ⟨rfl, b⟩; have B6 := Lib.hid (B5.out.trans (b.mono B5.out.size)); clear b))
            | (go_at_call 15; ((with_reducible refine (CLX.out _).mono ?_); rintro e w7 ⟨rfl, b⟩; have B7 := Lib.hid (B6.out.trans (b.mono B6.out.size)); clear b))
            | (go_at_call 15; ((with_reducible refine (CXH.out _).mono ?_); rintro e w8 ⟨rfl, b⟩; have B8 := Lib.hid (B7.out.trans (b.mono B7.out.size)); clear b))
            | (go_at_call 15; ((with_reducible refine (CLH.out _).mono ?_); rintro e w9 ⟨rfl, b⟩; have B9 := Lib.hid (B8.out.trans (b.mono B8.out.size)); clear b))
            | (go_at_call 15; ((with_reducible refine (CHH.out _).mono ?_); rintro e w10 ⟨rfl, b⟩; have B10 := Lib.hid (B9.out.trans (b.mono B9.out.size)); clear b))
            | (go_at_call 16; ((with_reducible refine (SHL.out _).mono ?_); rintro e w11 ⟨rfl, b⟩; have B11 := Lib.hid (B10.out.trans (b.mono B10.out.size)); clear b)))
          go_ret
          exact ⟨rfl, B11.out⟩
        | false =>
          rw [hs] at SHL
          clear hs
          go_enter Try.func5, Try.ntmps5
          go_wp2_with (first
            | (go_at_call 11; ((with_reducible refine (awake_true M _ HK.out).mono ?_); rintro e w1 ⟨rfl, b⟩; have B1 := Lib.hid b; clear b))
            | (go_at_call 21; ((with_reducible refine (HC.out _ (M.bel HK.out B1.out)).mono ?_); rintro e w2 ⟨rfl, b⟩; have B2 := Lib.hid (B1.out.trans (b.mono B1.out.size)); clear b))
            | (go_at_call 13; ((with_reducible refine (KX.out _).mono ?_); rintro e w3 ⟨rfl, b⟩; have B3 := Lib.hid (B2.out.trans (b.mono B2.out.size)); clear b))
            | (go_at_call 13; ((with_reducible refine (KL.out _).mono ?_); rintro e w4 ⟨rfl, b⟩; have B4 := Lib.hid (B3.out.trans (b.mono B3.out.size)); clear b))
            | (go_at_call 13; ((with_reducible refine (KH.out _).mono ?_); rintro e w5 ⟨rfl, b⟩; have B5 := Lib.hid (B4.out.trans (b.mono B4.out.size)); clear b))
            | (go_at_call 15; ((with_reducible refine (CLH.out _).mono ?_); rintro e w6 ⟨rfl, b⟩; have B6 := Lib.hid (B5.out.trans (b.mono B5.out.size)); clear b))
            | (go_at_call 15; ((with_reducible refine (CLX.out _).mono ?_); rintro e w7 ⟨rfl, b⟩; have B7 := Lib.hid (B6.out.trans (b.mono B6.out.size)); clear b))
            | (go_at_call 15; ((with_reducible refine (CXH.out _).mono ?_); rintro e w8 ⟨rfl, b⟩; have B8 := Lib.hid (B7.out.trans (b.mono B7.out.size)); clear b))
            | (go_at_call 15; ((with_reducible refine (CLH.out _).mono ?_); rintro e w9 ⟨rfl, b⟩; have B9 := Lib.hid (B8.out.trans (b.mono B8.out.size)); clear b))
            | (go_at_call 15; ((with_reducible refine (CHH.out _).mono ?_); rintro e w10 ⟨rfl, b⟩; have B10 := Lib.hid (B9.out.trans (b.mono B9.out.size)); clear b))
            | (go_at_call 16; ((with_reducible refine (SHL.out _).mono ?_); rintro e w11 ⟨rfl, b⟩; have B11 := Lib.hid (B10.out.trans (b.mono B10.out.size)); clear b))
            | (go_at_call 16; ((with_reducible refine (SHH.out _).mono ?_); rintro e w12 ⟨rfl, b⟩; have B12 := Lib.hid (B11.out.trans (b.mono B11.out.size)); clear b)))
          go_ret
          exact ⟨rfl, B12.out⟩
      · rw [if_neg c2] at HC
        have pxh : cmpW x h ≤ 0 := cmpW_le.2 (by omega)
        generalize cmpW l h = plh' at CLH plh
        generalize cmpW l x = plx' at CLX plx
        generalize cmpW x h = pxh' at CXH pxh
        clear hb nx nl nh hle c1 c2
        go_enter Try.func5, Try.ntmps5
        go_wp2_with (first
          | (go_at_call 11; ((with_reducible refine (awake_true M _ HK.out).mono ?_); rintro e w1 ⟨rfl, b⟩; have B1 := Lib.hid b; clear b))
          | (go_at_call 21; ((with_reducible refine (HC.out _ (M.bel HK.out B1.out)).mono ?_); rintro e w2 ⟨rfl, b⟩; have B2 := Lib.hid (B1.out.trans (b.mono B1.out.size)); clear b))
          | (go_at_call 13; ((with_reducible refine (KX.out _).mono ?_); rintro e w3 ⟨rfl, b⟩; have B3 := Lib.hid (B2.out.trans (b.mono B2.out.size)); clear b))
          | (go_at_call 13; ((with_reducible refine (KL.out _).mono ?_); rintro e w4 ⟨rfl, b⟩; have B4 := Lib.hid (B3.out.trans (b.mono B3.out.size)); clear b))
          | (go_at_call 13; ((with_reducible refine (KH.out _).mono ?_); rintro e w5 ⟨rfl, b⟩; have B5 := Lib.hid (B4.out.trans (b.mono B4.out.size)); clear b))
          | (go_at_call 15; ((with_reducible refine (CLH.out _).mono ?_); rintro e w6 ⟨rfl, b⟩; have B6 := Lib.hid (B5.out.trans (b.mono B5.out.size)); clear b))
          | (go_at_call 15; ((with_reducible refine (CLX.out _).mono ?_); rintro e w7 ⟨rfl, b⟩; have B7 := Lib.hid (B6.out.trans (b.mono B6.out.size)); clear b))
          | (go_at_call 15; ((with_reducible refine (CXH.out _).mono ?_); rintro e w8 ⟨rfl, b⟩; have B8 := Lib.hid (B7.out.trans (b.mono B7.out.size)); clear b))
          | (go_at_call 15; ((with_reducible refine (CLX.out _).mono ?_); rintro e w9 ⟨rfl, b⟩; have B9 := Lib.hid (B8.out.trans (b.mono B8.out.size)); clear b))
          | (go_at_call 15; ((with_reducible refine (CXH.out _).mono ?_); rintro e w10 ⟨rfl, b⟩; have B10 := Lib.hid (B9.out.trans (b.mono B9.out.size)); clear b))
          | (go_at_call 16; ((with_reducible refine (SXX.out _).mono ?_); rintro e w11 ⟨rfl, b⟩; have B11 := Lib.hid (B10.out.trans (b.mono B10.out.size)); clear b)))
        go_ret
        exact ⟨rfl, B11.out⟩
end Go.Proofs.Ytkanckphkmilkaa.F
