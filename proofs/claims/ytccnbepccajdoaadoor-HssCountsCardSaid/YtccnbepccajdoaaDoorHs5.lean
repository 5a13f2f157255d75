/-
  What the landed hss.heights does. No statement is proved here.
-/
import Derived.Test.YtccnbepccajdoaaDoorHs4
namespace Go.Proofs.YtccnbepccajdoaaDoor.S13
set_option linter.unusedSimpArgs false
set_option linter.unusedVariables false
open Go.RowKit S7 S8

/-- How heights ends. -/
def HtEnd (L : List Pr) (w : World) (e : Ending) (w' : World) : Prop := (if mayL L = true then e = .returned (.int .i64 (sumH L : Int)) else e = .panicked [LV.wrg 4]) ∧ Below w.heap.size w w'
theorem HtEnd.yes {L : List Pr} {w w' : World} (h : mayL L = true) (hb : Below w.heap.size w w') : HtEnd L w (.returned (.int .i64 (sumH L : Int))) w' := ⟨by rw [if_pos h], hb⟩
theorem HtEnd.no {L : List Pr} {w w' : World} (h : mayL L = false) (hb : Below w.heap.size w w') : HtEnd L w (.panicked [LV.wrg 4]) w' := ⟨by rw [h, if_neg (by simp)], hb⟩
def goodTo (L : List Pr) (k : Nat) : Prop := ∀ j, j < k → likeB (hd L) (at_ L j) = true
theorem sum_to (L : List Pr) (k : Nat) (hk : k ≤ L.length) (h : goodTo L k) : sumH (L.take k) ≤ 25 * k := by
  induction k with
  | zero => simp [sumH]
  | succ k ih =>
    rw [sumH_take L k (by omega)]
    have h1 := ih (by omega) (fun j hj => h j (by omega))
    have h2 := tH_bd _ (okP_T (likeB_ok (h k (by omega))))
    omega
theorem goodTo_succ {L : List Pr} {k : Nat} (h : goodTo L k) (hk : likeB (hd L) (at_ L k) = true) : goodTo L (k + 1) := fun j hj => by
  by_cases e : j = k
  · subst e; exact hk
  · exact h j (by omega)
theorem hd_at (L : List Pr) : hd L = at_ L 0 := rfl

set_option maxRecDepth 100000 in
set_option maxHeartbeats 4000000 in
theorem heights_any (A : Option Addr) (n c : Nat) (L : List Pr) (w : World) (hk : S0.ok w) (h : Rp w A n c L) : Calls Tryd.prog 14 #[.slice A n c] w (HtEnd L w) := by
  have lm : n ≤ maxLen := Nat.le_trans h.cap h.max
  unfold maxLen at lm
  have HY := Lib.hid (fun X => LV.need_yes 4 X)
  have HN := Lib.hid (fun X => LV.need_no 4 X)
  have HK := Lib.hid hk
  have HH := Lib.hid h
  by_cases hn1 : n < 1
  · have HM := Lib.hid (mayL_len (L := L) (.inl (by rw [h.len]; exact hn1)))
    obtain rfl : n = 0 := by omega
    clear hk h
    go_enter Tryd.func14, Tryd.ntmps14
    go_wp2_with (go_at_call 16; ((with_reducible refine (HN.out _).mono ?_); rintro e w1 ⟨rfl, rfl⟩))
    exact ⟨rfl, HtEnd.no HM.out (Below.refl _ _)⟩
  · by_cases hn8 : 8 < n
    · have HM := Lib.hid (mayL_len (L := L) (.inr (by rw [h.len]; exact hn8)))
      have q1 : decide ((1 : Int) ≤ (n : Int)) = true := by simp; omega
      have q2 : decide ((n : Int) ≤ 8) = false := by simp; omega
      clear hk h
      go_enter Tryd.func14, Tryd.ntmps14
      go_wp2_with (go_at_call 16; ((with_reducible refine (HN.out _).mono ?_); rintro e w1 ⟨rfl, rfl⟩))
      exact ⟨rfl, HtEnd.no HM.out (Below.refl _ _)⟩
    · have q1 : decide ((1 : Int) ≤ (n : Int)) = true := by simp; omega
      have q2 : decide ((n : Int) ≤ 8) = true := by simp; omega
      have q3 : 0 < n := by omega
      have q8 : n ≤ 8 := by omega
      obtain ⟨b, off, rfl, hb, hc⟩ := h.at_ (by omega)
      have HC := Lib.hid hc
      obtain ⟨c0, c1⟩ := hc 0 (by omega)
      obtain ⟨r1, r2⟩ := h.rng 0
      have HL := Lib.hid h.len
      simp only [Nat.zero_mul, Nat.add_zero] at c0 c1
      rw [← hd_at] at c0 c1 r1 r2
      obtain ⟨q, hq⟩ : ∃ q, q = hd L := ⟨_, rfl⟩
      rw [← hq] at c0 c1 r1 r2
      have HQ := Lib.hid hq
      obtain ⟨qa, qb⟩ := q
      simp only at c0 c1 r1 r2
      clear hk h hq hc hn1 hn8
      cases hok : okP (qa, qb) with
      | false =>
        have HM := Lib.hid (show mayL L = false from mayL_bad (i := 0) (by rw [HL.out]; exact q3) (by rw [← hd_at, ← HQ.out]; simp [likeB, hok]))
        have HO := Lib.hid (fun X g => otsOf_no (qa, qb) hok r1 r2 X g)
        simp only at HO
        clear hok
        go_enter Tryd.func14, Tryd.ntmps14
        go_wp2_with (first
          | (go_at_call 16; ((with_reducible refine (HY.out _).mono ?_); rintro e w1 ⟨rfl, rfl⟩))
          | (go_at_call 26; ((with_reducible refine (HO.out _ HK.out).mono ?_); rintro e w1 ⟨rfl, b1⟩)))
        exact ⟨rfl, HtEnd.no HM.out b1⟩
      | true =>
        have HO := Lib.hid (fun X g => otsOf_yes (qa, qb) hok r1 r2 X g)
        have HOK := Lib.hid hok
        simp only at HO
        obtain ⟨K, hK⟩ : ∃ K, K = oK qa := ⟨_, rfl⟩
        obtain ⟨N, hN⟩ : ∃ K, K = oN qa := ⟨_, rfl⟩
        obtain ⟨V, hV⟩ : ∃ K, K = oW qa := ⟨_, rfl⟩
        obtain ⟨P, hP⟩ : ∃ K, K = oP qa := ⟨_, rfl⟩
        obtain ⟨S, hS⟩ : ∃ K, K = oS qa := ⟨_, rfl⟩
        rw [← hK, ← hN, ← hV, ← hP, ← hS] at HO
        have HKK := Lib.hid (show K = tK qb ∧ N = tN qb by rw [hK, hN]; exact okP_K hok)
        unfold otsV at HO
        clear hok hK hN hV hP hS r1 r2
        go_enter Tryd.func14, Tryd.ntmps14
        go_wp2_with (first
          | (go_at_call 16; ((with_reducible refine (HY.out _).mono ?_); rintro e w1 ⟨rfl, rfl⟩))
          | (go_at_call 26; ((with_reducible refine (HO.out _ HK.out).mono ?_); rintro e w1 ⟨rfl, b1⟩; have B1 := Lib.hid b1; have s1 := b1.size; clear b1)))
        obtain ⟨g3, hg3⟩ : ∃ g3, g3 = w1.heap.size := ⟨_, rfl⟩
        have T0 : Bk (w1.alloc (.cells #[.int .u32 (qa : Int), .int .i64 (K : Int), .int .i64 (N : Int), .int .i64 (V : Int), .int .i64 (P : Int), .int .i64 (S : Int)] 39)) g3 39 #[.int .u32 (qa : Int), .int .i64 (K : Int), .int .i64 (N : Int), .int .i64 (V : Int), .int .i64 (P : Int), .int .i64 (S : Int)] := by rw [hg3]; exact Bk.new _ _ _
        have L3 : w.heap.size ≤ g3 := by omega
        have W0 : Below w.heap.size w (w1.alloc (.cells #[.int .u32 (qa : Int), .int .i64 (K : Int), .int .i64 (N : Int), .int .i64 (V : Int), .int .i64 (P : Int), .int .i64 (S : Int)] 39)) := B1.out.alloc s1 _
        obtain ⟨wL, hwL⟩ : ∃ wL, w1.alloc (.cells #[.int .u32 (qa : Int), .int .i64 (K : Int), .int .i64 (N : Int), .int .i64 (V : Int), .int .i64 (P : Int), .int .i64 (S : Int)] 39) = wL := ⟨_, rfl⟩
        rw [hwL] at T0 W0 ⊢
        rw [← hg3]
        have HT0 := Lib.hid T0
        have HW0 := Lib.hid W0
        clear T0 W0 hwL hg3 s1 c0 c1
        go_loopw [4, 23] (fun s i wr => ∃ k : Nat, k ≤ n ∧ i = .int .i64 (k : Int) ∧ s = .int .i64 (sumH (L.take k) : Int) ∧ goodTo L k ∧ Bk wr g3 39 #[.int .u32 (qa : Int), .int .i64 (K : Int), .int .i64 (N : Int), .int .i64 (V : Int), .int .i64 (P : Int), .int .i64 (S : Int)] ∧ Below w.heap.size w wr) (fun _ i _ => n - (intOf i).toNat)
        case atStart => exact ⟨0, Nat.zero_le _, rfl, rfl, fun j hj => absurd hj (by omega), HT0.out, HW0.out⟩
        case round =>
          obtain ⟨k, hk, rfl, rfl, hgood, hT, hW⟩ := hrel
          have hsum := sum_to L k (by rw [HL.out]; exact hk) hgood
          obtain ⟨s, hs⟩ : ∃ s, s = sumH (L.take k) := ⟨_, rfl⟩
          rw [← hs] at hsum ⊢
          have HG := Lib.hid hgood
          have HSM := Lib.hid hs
          have HT := Lib.hid hT
          have HW := Lib.hid hW
          have hws := hW.size
          have hgl := hT.lt
          clear hgood hs hT
          by_cases hlt : k < n
          · obtain ⟨e0, e1⟩ := (HC.out k hlt)
            have f0 := (hW.cell (p := ⟨b, off + k * 2, none⟩) hb).trans e0
            have f1 := (hW.cell (p := ⟨b, off + k * 2 + 1, none⟩) hb).trans e1
            obtain ⟨r1, r2⟩ := HH.out.rng k
            obtain ⟨p, hp⟩ : ∃ p, p = at_ L k := ⟨_, rfl⟩
            rw [← hp] at f0 f1 r1 r2
            have HP := Lib.hid hp
            obtain ⟨pa, pb⟩ := p
            simp only at f0 f1 r1 r2
            have hki : (k : Int) < (n : Int) := by omega
            clear hp e0 e1 hW
            cases hok2 : okP (pa, pb) with
            | false =>
              have HM := Lib.hid (show mayL L = false from mayL_bad (i := k) (by rw [HL.out]; exact hlt) (by rw [← HP.out]; simp [likeB, hok2]))
              have HTF := Lib.hid (fun X g => treeOf_no (pa, pb) hok2 r1 r2 X g)
              simp only at HTF
              clear hok2
              go_wp2_with (go_at_call 19; ((with_reducible refine (HTF.out _ (S0.bel HK.out (HW.out.alloc hws _))).mono ?_); rintro e w2 ⟨rfl, b2⟩))
              exact ⟨rfl, HtEnd.no HM.out ((HW.out.alloc hws _).trans (b2.mono (by simp; omega)))⟩
            | true =>
              have HTF := Lib.hid (fun X g => treeOf_yes (pa, pb) hok2 r1 r2 X g)
              simp only at HTF
              have hb25 := tH_bd _ (okP_T hok2)
              simp only at hb25
              obtain ⟨K', hK'⟩ : ∃ K, K = tK pb := ⟨_, rfl⟩
              obtain ⟨N', hN'⟩ : ∃ N, N = tN pb := ⟨_, rfl⟩
              obtain ⟨H, hH⟩ : ∃ N, N = tH pb := ⟨_, rfl⟩
              rw [← hK', ← hN', ← hH] at HTF
              rw [← hH] at hb25
              have HLK := Lib.hid (show likeB (hd L) (at_ L k) = (((K : Int) == (K' : Int)) && ((N : Int) == (N' : Int))) by
                rw [← HQ.out, ← HP.out, likeB, hok2, hK', hN', HKK.out.1, HKK.out.2]
                simp only [Bool.true_and]
                rw [Bool.eq_iff_iff]
                simp only [Bool.and_eq_true, decide_eq_true_eq, beq_iff_eq]
                constructor <;> rintro ⟨u, v⟩ <;> exact ⟨by omega, by omega⟩)
              obtain ⟨F, hF⟩ : ∃ F, F = (((K : Int) == (K' : Int)) && ((N : Int) == (N' : Int))) := ⟨_, rfl⟩
              have HF := Lib.hid (show ∀ X, Calls Tryd.prog 27 #[.agg #[.int .u32 (qa : Int), .int .i64 (K : Int), .int .i64 (N : Int), .int .i64 (V : Int), .int .i64 (P : Int), .int .i64 (S : Int)], .agg #[.int .u32 (pb : Int), .int .i64 (K' : Int), .int .i64 (N' : Int), .int .i64 (H : Int)]] X fun e w' => e = .returned (.bool F) ∧ Below X.heap.size X w' from fun X => by rw [hF]; exact fit_any _ _ _ _ _ _ _ _ _ _ X)
              rw [← hF] at HLK
              have HHH := Lib.hid (show H = tH (at_ L k).2 by rw [← HP.out]; exact hH)
              unfold treeV at HTF
              clear hok2 hK' hN' hH hF r1 r2
              cases F with
              | false =>
                have HM := Lib.hid (show mayL L = false from mayL_bad (i := k) (by rw [HL.out]; exact hlt) HLK.out)
                go_wp2_with (first
                  | (go_at_call 19; ((with_reducible refine (HTF.out _ (S0.bel HK.out (HW.out.alloc hws _))).mono ?_); rintro e w2 ⟨rfl, b2⟩; have T2 := Lib.hid (HT.out.alloc (.cells #[.int .u32 (pa : Int), .int .u32 (pb : Int)] 34) |>.below b2 (by simp; omega)); have B2 := Lib.hid ((HW.out.alloc hws (.cells #[.int .u32 (pa : Int), .int .u32 (pb : Int)] 34)).trans (b2.mono (by simp; omega))); have d0 := T2.out.cell 0; have d1 := T2.out.cell 1; have d2 := T2.out.cell 2; have d3 := T2.out.cell 3; have d4 := T2.out.cell 4; have d5 := T2.out.cell 5; have dl := T2.out.lt; simp at d0 d1 d2 d3 d4 d5; clear b2))
                  | (go_at_call 27; ((with_reducible refine (HF.out _).mono ?_); rintro e w3 ⟨rfl, b3⟩))
                  | (go_at_call 16; ((with_reducible refine (HN.out _).mono ?_); rintro e w4 ⟨rfl, rfl⟩)))
                exact ⟨rfl, HtEnd.no HM.out ((B2.out.alloc B2.out.size _).trans (b3.mono (by have := B2.out.size; simp; omega)))⟩
              | true =>
                go_wp2_with (first
                  | (go_at_call 19; ((with_reducible refine (HTF.out _ (S0.bel HK.out (HW.out.alloc hws _))).mono ?_); rintro e w2 ⟨rfl, b2⟩; have T2 := Lib.hid (HT.out.alloc (.cells #[.int .u32 (pa : Int), .int .u32 (pb : Int)] 34) |>.below b2 (by simp; omega)); have B2 := Lib.hid ((HW.out.alloc hws (.cells #[.int .u32 (pa : Int), .int .u32 (pb : Int)] 34)).trans (b2.mono (by simp; omega))); have d0 := T2.out.cell 0; have d1 := T2.out.cell 1; have d2 := T2.out.cell 2; have d3 := T2.out.cell 3; have d4 := T2.out.cell 4; have d5 := T2.out.cell 5; have dl := T2.out.lt; simp at d0 d1 d2 d3 d4 d5; clear b2))
                  | (go_at_call 27; ((with_reducible refine (HF.out _).mono ?_); rintro e w3 ⟨rfl, b3⟩; have U3 := Lib.hid ((Bk.new w2 41 #[.int .u32 (pb : Int), .int .i64 (K' : Int), .int .i64 (N' : Int), .int .i64 (H : Int)]).below b3 (by simp)); have T3 := Lib.hid ((T2.out.alloc (.cells #[.int .u32 (pb : Int), .int .i64 (K' : Int), .int .i64 (N' : Int), .int .i64 (H : Int)] 41)).below b3 (by simp; omega)); have B3 := Lib.hid ((B2.out.alloc B2.out.size (.cells #[.int .u32 (pb : Int), .int .i64 (K' : Int), .int .i64 (N' : Int), .int .i64 (H : Int)] 41)).trans (b3.mono (by have := B2.out.size; simp; omega))); have u3 := U3.out.cell 3; simp at u3; clear b3))
                  | (go_at_call 16; ((with_reducible refine (HY.out _).mono ?_); rintro e w4 ⟨rfl, rfl⟩)))
                go_roundw
                case rel => exact ⟨k + 1, by omega, by go_num, by rw [sumH_take L k (by rw [HL.out]; exact hlt), ← HSM.out, ← HHH.out]; go_num, goodTo_succ HG.out HLK.out, T3.out, B3.out⟩
                case measure => simp [intOf]; omega
          · obtain rfl : k = n := by omega
            have hsl : s = sumH L := by rw [HSM.out, sumH_take_all L k (by rw [HL.out]; exact Nat.le_refl _)]
            have HSL := Lib.hid hsl
            have hki : ¬ (k : Int) < (k : Int) := by omega
            clear hsl
            by_cases h60 : s ≤ 60
            · have HM := Lib.hid (show mayL L = true from mayL_mk (by rw [HL.out]; omega) (by rw [HL.out]; omega) (fun i hi => HG.out i (by rw [HL.out] at hi; exact hi)) (by rw [← HSL.out]; exact h60))
              have q5 : decide ((s : Int) ≤ 60) = true := by simp; omega
              go_wp2_with (go_at_call 16; ((with_reducible refine (HY.out _).mono ?_); rintro e w4 ⟨rfl, rfl⟩))
              go_ret
              rw [HSL.out]
              exact HtEnd.yes HM.out HW.out
            · have HM := Lib.hid (show mayL L = false from mayL_high (by rw [← HSL.out]; omega))
              have q5 : decide ((s : Int) ≤ 60) = false := by simp; omega
              go_wp2_with (go_at_call 16; ((with_reducible refine (HN.out _).mono ?_); rintro e w4 ⟨rfl, rfl⟩))
              exact ⟨rfl, HtEnd.no HM.out HW.out⟩
end Go.Proofs.YtccnbepccajdoaaDoor.S13
