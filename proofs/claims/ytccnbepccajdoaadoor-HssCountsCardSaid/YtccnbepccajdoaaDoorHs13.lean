/-
  What the document's own May of levels answers: the loop; and Words. No statement is proved here.
-/
import Derived.Test.YtccnbepccajdoaaDoorHs12
namespace Go.Proofs.YtccnbepccajdoaaDoor.S13
set_option linter.unusedSimpArgs false
set_option linter.unusedVariables false
open Go.RowKit S7 S8

set_option maxRecDepth 100000 in
set_option maxHeartbeats 4000000 in
theorem rhmay_any (A : Option Addr) (n c : Nat) (L : List Pr) (w : World) (h : Rp w A n c L) : Calls Tryd.prog 5 #[.slice A n c] w fun e w' => e = .returned (.bool (mayL L)) ∧ Below w.heap.size w w' := by
  have lm : n ≤ maxLen := Nat.le_trans h.cap h.max
  unfold maxLen at lm
  have HH := Lib.hid h
  have HL := Lib.hid h.len
  obtain ⟨R, hR⟩ : ∃ R, R = mayL L := ⟨_, rfl⟩
  rw [← hR]
  have HR := Lib.hid hR
  clear hR
  by_cases hn1 : n < 1
  · have HM := Lib.hid (mayL_len (L := L) (.inl (by rw [h.len]; exact hn1)))
    obtain rfl : n = 0 := by omega
    clear h
    go_enter Tryd.func5, Tryd.ntmps5
    go_wp2
    go_ret
    exact ⟨by rw [HR.out, HM.out]; rfl, Below.refl _ _⟩
  · by_cases hn8 : 8 < n
    · have HM := Lib.hid (mayL_len (L := L) (.inr (by rw [h.len]; exact hn8)))
      have q1 : decide ((n : Int) < 1) = false := by simp; omega
      have q2 : decide (8 < (n : Int)) = true := by simp; omega
      clear h
      go_enter Tryd.func5, Tryd.ntmps5
      go_wp2
      go_ret
      exact ⟨by rw [HR.out, HM.out]; rfl, Below.refl _ _⟩
    · have q1 : decide ((n : Int) < 1) = false := by simp; omega
      have q2 : decide (8 < (n : Int)) = false := by simp; omega
      have q3 : 0 < n := by omega
      have q8 : n ≤ 8 := by omega
      obtain ⟨b, off, rfl, hb, hc⟩ := h.at_ (by omega)
      have HC := Lib.hid hc
      obtain ⟨c0, c1⟩ := hc 0 (by omega)
      obtain ⟨r1, r2⟩ := h.rng 0
      simp only [Nat.zero_mul, Nat.add_zero] at c0 c1
      rw [← hd_at] at c0 c1 r1 r2
      obtain ⟨o0, o1, o2, o3, o4, o5, t0, t1, t2, t3, ht, hS⟩ := rsets_ex (hd L) r1 r2
      have HT := Lib.hid ht
      have HS := Lib.hid hS
      obtain ⟨F, hF⟩ : ∃ F, F = okP (hd L) := ⟨_, rfl⟩
      rw [← hF] at HS HT
      have HF := Lib.hid hF
      obtain ⟨q, hq⟩ : ∃ q, q = hd L := ⟨_, rfl⟩
      rw [← hq] at c0 c1 HS
      obtain ⟨qa, qb⟩ := q
      simp only at c0 c1 HS
      have HQ := Lib.hid hq
      clear h hc hS ht hF hq hn1 hn8 r1 r2
      go_enter Tryd.func5, Tryd.ntmps5
      go_wp2
      go_loopw [3, 4] (fun s i wr => ∃ k : Nat, k ≤ n ∧ i = .int .i64 (k : Int) ∧ s = .int .i64 (sumH (L.take k) : Int) ∧ goodTo L k ∧ Below w.heap.size w wr) (fun _ i _ => n - (intOf i).toNat)
      case atStart => exact ⟨0, Nat.zero_le _, rfl, rfl, fun j hj => absurd hj (by omega), Below.refl _ _⟩
      case round =>
        obtain ⟨k, hk, rfl, rfl, hgood, hW⟩ := hrel
        have hsum := sum_to L k (by rw [HL.out]; exact hk) hgood
        obtain ⟨s, hs⟩ : ∃ s, s = sumH (L.take k) := ⟨_, rfl⟩
        rw [← hs] at hsum ⊢
        have HG := Lib.hid hgood
        have HSM := Lib.hid hs
        have HW := Lib.hid hW
        have hws := hW.size
        clear hgood hs
        by_cases hlt : k < n
        · obtain ⟨e0, e1⟩ := (HC.out k hlt)
          have f0 := (hW.cell (p := ⟨b, off + k * 2, none⟩) hb).trans e0
          have f1 := (hW.cell (p := ⟨b, off + k * 2 + 1, none⟩) hb).trans e1
          have g0 := (hW.cell (p := ⟨b, off, none⟩) hb).trans c0
          have g1 := (hW.cell (p := ⟨b, off + 1, none⟩) hb).trans c1
          obtain ⟨r1, r2⟩ := HH.out.rng k
          obtain ⟨u0, u1, u2, u3, u4, u5, v0, v1, v2, v3, hv, hU⟩ := rsets_ex (at_ L k) r1 r2
          have HV := Lib.hid hv
          have HU := Lib.hid hU
          obtain ⟨G, hG⟩ : ∃ G, G = okP (at_ L k) := ⟨_, rfl⟩
          rw [← hG] at HU HV
          have HGG := Lib.hid hG
          obtain ⟨p, hp⟩ : ∃ p, p = at_ L k := ⟨_, rfl⟩
          rw [← hp] at f0 f1 HU
          obtain ⟨pa, pb⟩ := p
          simp only at f0 f1 HU
          have HP := Lib.hid hp
          have hki : (k : Int) < (n : Int) := by omega
          have hbw : b < wr.heap.size := Nat.lt_of_lt_of_le hb hws
          clear hp e0 e1 hW hv hU hG r1 r2
          have HKL := Lib.hid (show G = true → F = true → likeB (hd L) (at_ L k) = ((v1 == t1) && (v2 == t2)) from fun hg hf => by
            obtain ⟨a1, a2, _⟩ := HV.out hg
            obtain ⟨b1, b2, _⟩ := HT.out hf
            rw [likeB, ← HGG.out, hg, a1, a2, b1, b2, Bool.true_and, Bool.eq_iff_iff]
            simp only [Bool.and_eq_true, decide_eq_true_eq, beq_iff_eq]
            constructor <;> rintro ⟨x, y⟩ <;> exact ⟨by omega, by omega⟩)
          have HN := Lib.hid (show G = false → mayL L = false from fun hg => mayL_bad (i := k) (by rw [HL.out]; exact hlt) (by simp [likeB, ← HGG.out, hg]))
          have HN0 := Lib.hid (show F = false → mayL L = false from fun hf => mayL_bad (i := 0) (by rw [HL.out]; exact q3) (by rw [← hd_at]; simp [likeB, ← HF.out, hf]))
          have HN1 := Lib.hid (show G = true → F = true → ((v1 == t1) && (v2 == t2)) = false → mayL L = false from fun hg hf hx => mayL_bad (i := k) (by rw [HL.out]; exact hlt) (by rw [HKL.out hg hf]; exact hx))
          cases G with
          | false =>
            have HM := Lib.hid (HN.out rfl)
            clear HKL HN HN0 HN1 HV
            go_wp2_with (first
            | (go_at_call 11; ((with_reducible refine (HU.out _).mono ?_); rintro e w2 ⟨rfl, b2⟩; have B2 := Lib.hid (HW.out.trans (b2.mono hws)); have g20 := (b2.cell (p := ⟨b, off, none⟩) hbw).trans g0; have g21 := (b2.cell (p := ⟨b, off + 1, none⟩) hbw).trans g1; have z2 : b < w2.heap.size := Nat.lt_of_lt_of_le hbw b2.size; clear b2))
            | (go_at_call 11; ((with_reducible refine (HS.out _).mono ?_); rintro e w3 ⟨rfl, b3⟩; have Y6 := Lib.hid ((Bk.newAt (w2.alloc (.cells #[.int .u32 u0, .int .i64 u1, .int .i64 u2, .int .i64 u3, .int .i64 u4, .int .i64 u5] 39)) 41 #[.int .u32 v0, .int .i64 v1, .int .i64 v2, .int .i64 v3] (w2.heap.size + 1) (by simp)).below b3 (by simp)); have d1 := Y6.out.cell 1; have d2 := Y6.out.cell 2; have d3 := Y6.out.cell 3; have z3 : w2.heap.size + 1 < w3.heap.size := Y6.out.lt; have z4 : w2.heap.size < w3.heap.size := Nat.lt_of_succ_lt z3; have B3 := Lib.hid ((B2.out.trans ((two_bel w2 (.cells #[.int .u32 u0, .int .i64 u1, .int .i64 u2, .int .i64 u3, .int .i64 u4, .int .i64 u5] 39) (.cells #[.int .u32 v0, .int .i64 v1, .int .i64 v2, .int .i64 v3] 41)).mono B2.out.size)).trans (b3.mono (by have := B2.out.size; simp; omega))); simp at d1 d2 d3; clear b3)))
            go_ret
            exact ⟨by rw [HR.out, HM.out]; rfl, ((B3.out.alloc B3.out.size (.cells #[.int .u32 o0, .int .i64 o1, .int .i64 o2, .int .i64 o3, .int .i64 o4, .int .i64 o5] 39)).alloc (by have := B3.out.size; simp; omega) (.cells #[.int .u32 t0, .int .i64 t1, .int .i64 t2, .int .i64 t3] 41))⟩
          | true =>
            cases F with
            | false =>
              have HM := Lib.hid (HN0.out rfl)
              clear HKL HN HN0 HN1 HV HT
              go_wp2_with (first
            | (go_at_call 11; ((with_reducible refine (HU.out _).mono ?_); rintro e w2 ⟨rfl, b2⟩; have B2 := Lib.hid (HW.out.trans (b2.mono hws)); have g20 := (b2.cell (p := ⟨b, off, none⟩) hbw).trans g0; have g21 := (b2.cell (p := ⟨b, off + 1, none⟩) hbw).trans g1; have z2 : b < w2.heap.size := Nat.lt_of_lt_of_le hbw b2.size; clear b2))
            | (go_at_call 11; ((with_reducible refine (HS.out _).mono ?_); rintro e w3 ⟨rfl, b3⟩; have Y6 := Lib.hid ((Bk.newAt (w2.alloc (.cells #[.int .u32 u0, .int .i64 u1, .int .i64 u2, .int .i64 u3, .int .i64 u4, .int .i64 u5] 39)) 41 #[.int .u32 v0, .int .i64 v1, .int .i64 v2, .int .i64 v3] (w2.heap.size + 1) (by simp)).below b3 (by simp)); have d1 := Y6.out.cell 1; have d2 := Y6.out.cell 2; have d3 := Y6.out.cell 3; have z3 : w2.heap.size + 1 < w3.heap.size := Y6.out.lt; have z4 : w2.heap.size < w3.heap.size := Nat.lt_of_succ_lt z3; have B3 := Lib.hid ((B2.out.trans ((two_bel w2 (.cells #[.int .u32 u0, .int .i64 u1, .int .i64 u2, .int .i64 u3, .int .i64 u4, .int .i64 u5] 39) (.cells #[.int .u32 v0, .int .i64 v1, .int .i64 v2, .int .i64 v3] 41)).mono B2.out.size)).trans (b3.mono (by have := B2.out.size; simp; omega))); simp at d1 d2 d3; clear b3)))
              go_ret
              exact ⟨by rw [HR.out, HM.out]; rfl, ((B3.out.alloc B3.out.size (.cells #[.int .u32 o0, .int .i64 o1, .int .i64 o2, .int .i64 o3, .int .i64 o4, .int .i64 o5] 39)).alloc (by have := B3.out.size; simp; omega) (.cells #[.int .u32 t0, .int .i64 t1, .int .i64 t2, .int .i64 t3] 41))⟩
            | true =>
              have hHH := (HV.out rfl).2.2
              cases hx1 : (v1 == t1) with
              | false =>
                have HM := Lib.hid (HN1.out rfl rfl (by rw [hx1]; rfl))
                have hx1' : (v1 != t1) = true := by simp [bne, hx1]
                clear HKL HN HN0 HN1 HV HT hHH
                go_wp2_with (first
            | (go_at_call 11; ((with_reducible refine (HU.out _).mono ?_); rintro e w2 ⟨rfl, b2⟩; have B2 := Lib.hid (HW.out.trans (b2.mono hws)); have g20 := (b2.cell (p := ⟨b, off, none⟩) hbw).trans g0; have g21 := (b2.cell (p := ⟨b, off + 1, none⟩) hbw).trans g1; have z2 : b < w2.heap.size := Nat.lt_of_lt_of_le hbw b2.size; clear b2))
            | (go_at_call 11; ((with_reducible refine (HS.out _).mono ?_); rintro e w3 ⟨rfl, b3⟩; have Y6 := Lib.hid ((Bk.newAt (w2.alloc (.cells #[.int .u32 u0, .int .i64 u1, .int .i64 u2, .int .i64 u3, .int .i64 u4, .int .i64 u5] 39)) 41 #[.int .u32 v0, .int .i64 v1, .int .i64 v2, .int .i64 v3] (w2.heap.size + 1) (by simp)).below b3 (by simp)); have d1 := Y6.out.cell 1; have d2 := Y6.out.cell 2; have d3 := Y6.out.cell 3; have z3 : w2.heap.size + 1 < w3.heap.size := Y6.out.lt; have z4 : w2.heap.size < w3.heap.size := Nat.lt_of_succ_lt z3; have B3 := Lib.hid ((B2.out.trans ((two_bel w2 (.cells #[.int .u32 u0, .int .i64 u1, .int .i64 u2, .int .i64 u3, .int .i64 u4, .int .i64 u5] 39) (.cells #[.int .u32 v0, .int .i64 v1, .int .i64 v2, .int .i64 v3] 41)).mono B2.out.size)).trans (b3.mono (by have := B2.out.size; simp; omega))); simp at d1 d2 d3; clear b3)))
                go_ret
                exact ⟨by rw [HR.out, HM.out]; rfl, ((B3.out.alloc B3.out.size (.cells #[.int .u32 o0, .int .i64 o1, .int .i64 o2, .int .i64 o3, .int .i64 o4, .int .i64 o5] 39)).alloc (by have := B3.out.size; simp; omega) (.cells #[.int .u32 t0, .int .i64 t1, .int .i64 t2, .int .i64 t3] 41))⟩
              | true =>
                have hx1' : (v1 != t1) = false := by simp [bne, hx1]
                cases hx2 : (v2 == t2) with
                | false =>
                  have HM := Lib.hid (HN1.out rfl rfl (by rw [hx1, hx2]; rfl))
                  have hx2' : (v2 != t2) = true := by simp [bne, hx2]
                  clear HKL HN HN0 HN1 HV HT hHH
                  go_wp2_with (first
            | (go_at_call 11; ((with_reducible refine (HU.out _).mono ?_); rintro e w2 ⟨rfl, b2⟩; have B2 := Lib.hid (HW.out.trans (b2.mono hws)); have g20 := (b2.cell (p := ⟨b, off, none⟩) hbw).trans g0; have g21 := (b2.cell (p := ⟨b, off + 1, none⟩) hbw).trans g1; have z2 : b < w2.heap.size := Nat.lt_of_lt_of_le hbw b2.size; clear b2))
            | (go_at_call 11; ((with_reducible refine (HS.out _).mono ?_); rintro e w3 ⟨rfl, b3⟩; have Y6 := Lib.hid ((Bk.newAt (w2.alloc (.cells #[.int .u32 u0, .int .i64 u1, .int .i64 u2, .int .i64 u3, .int .i64 u4, .int .i64 u5] 39)) 41 #[.int .u32 v0, .int .i64 v1, .int .i64 v2, .int .i64 v3] (w2.heap.size + 1) (by simp)).below b3 (by simp)); have d1 := Y6.out.cell 1; have d2 := Y6.out.cell 2; have d3 := Y6.out.cell 3; have z3 : w2.heap.size + 1 < w3.heap.size := Y6.out.lt; have z4 : w2.heap.size < w3.heap.size := Nat.lt_of_succ_lt z3; have B3 := Lib.hid ((B2.out.trans ((two_bel w2 (.cells #[.int .u32 u0, .int .i64 u1, .int .i64 u2, .int .i64 u3, .int .i64 u4, .int .i64 u5] 39) (.cells #[.int .u32 v0, .int .i64 v1, .int .i64 v2, .int .i64 v3] 41)).mono B2.out.size)).trans (b3.mono (by have := B2.out.size; simp; omega))); simp at d1 d2 d3; clear b3)))
                  go_ret
                  exact ⟨by rw [HR.out, HM.out]; rfl, ((B3.out.alloc B3.out.size (.cells #[.int .u32 o0, .int .i64 o1, .int .i64 o2, .int .i64 o3, .int .i64 o4, .int .i64 o5] 39)).alloc (by have := B3.out.size; simp; omega) (.cells #[.int .u32 t0, .int .i64 t1, .int .i64 t2, .int .i64 t3] 41))⟩
                | true =>
                  have hx2' : (v2 != t2) = false := by simp [bne, hx2]
                  have HLK := Lib.hid (show likeB (hd L) (at_ L k) = true by rw [HKL.out rfl rfl, hx1, hx2]; rfl)
                  have hb25 := tH_bd _ (okP_T (likeB_ok HLK.out))
                  obtain ⟨H, hH⟩ : ∃ H, H = tH (at_ L k).2 := ⟨_, rfl⟩
                  rw [← hH] at hHH hb25
                  have HHH := Lib.hid (show v3 = (tH (at_ L k).2 : Int) by rw [hHH, hH])
                  have hv31 : 1 ≤ v3 := by omega
                  have hv32 : v3 ≤ 25 := by omega
                  clear HKL HN HN0 HN1 HV HT hH hHH hb25
                  go_wp2_with (first
            | (go_at_call 11; ((with_reducible refine (HU.out _).mono ?_); rintro e w2 ⟨rfl, b2⟩; have B2 := Lib.hid (HW.out.trans (b2.mono hws)); have g20 := (b2.cell (p := ⟨b, off, none⟩) hbw).trans g0; have g21 := (b2.cell (p := ⟨b, off + 1, none⟩) hbw).trans g1; have z2 : b < w2.heap.size := Nat.lt_of_lt_of_le hbw b2.size; clear b2))
            | (go_at_call 11; ((with_reducible refine (HS.out _).mono ?_); rintro e w3 ⟨rfl, b3⟩; have Y6 := Lib.hid ((Bk.newAt (w2.alloc (.cells #[.int .u32 u0, .int .i64 u1, .int .i64 u2, .int .i64 u3, .int .i64 u4, .int .i64 u5] 39)) 41 #[.int .u32 v0, .int .i64 v1, .int .i64 v2, .int .i64 v3] (w2.heap.size + 1) (by simp)).below b3 (by simp)); have d1 := Y6.out.cell 1; have d2 := Y6.out.cell 2; have d3 := Y6.out.cell 3; have z3 : w2.heap.size + 1 < w3.heap.size := Y6.out.lt; have z4 : w2.heap.size < w3.heap.size := Nat.lt_of_succ_lt z3; have B3 := Lib.hid ((B2.out.trans ((two_bel w2 (.cells #[.int .u32 u0, .int .i64 u1, .int .i64 u2, .int .i64 u3, .int .i64 u4, .int .i64 u5] 39) (.cells #[.int .u32 v0, .int .i64 v1, .int .i64 v2, .int .i64 v3] 41)).mono B2.out.size)).trans (b3.mono (by have := B2.out.size; simp; omega))); simp at d1 d2 d3; clear b3)))
                  go_roundw
                  case rel => exact ⟨k + 1, by omega, by go_num, by rw [sumH_take L k (by rw [HL.out]; exact hlt), ← HSM.out, Int.natCast_add, ← HHH.out], goodTo_succ HG.out HLK.out, ((B3.out.alloc B3.out.size (.cells #[.int .u32 o0, .int .i64 o1, .int .i64 o2, .int .i64 o3, .int .i64 o4, .int .i64 o5] 39)).alloc (by have := B3.out.size; simp; omega) (.cells #[.int .u32 t0, .int .i64 t1, .int .i64 t2, .int .i64 t3] 41))⟩
                  case measure => simp [intOf]; omega
        · obtain rfl : k = n := by omega
          have hsl : s = sumH L := by rw [HSM.out, sumH_take_all L k (by rw [HL.out]; exact Nat.le_refl _)]
          have HSL := Lib.hid hsl
          have hki : ¬ (k : Int) < (k : Int) := by omega
          clear hsl
          by_cases h60 : s ≤ 60
          · have HM := Lib.hid (show mayL L = true from mayL_mk (by rw [HL.out]; omega) (by rw [HL.out]; omega) (fun i hi => HG.out i (by rw [HL.out] at hi; exact hi)) (by rw [← HSL.out]; exact h60))
            have q5 : decide ((s : Int) ≤ 60) = true := by simp; omega
            go_wp2
            go_ret
            exact ⟨by rw [HR.out, HM.out]; rfl, HW.out⟩
          · have HM := Lib.hid (show mayL L = false from mayL_high (by rw [← HSL.out]; omega))
            have q5 : decide ((s : Int) ≤ 60) = false := by simp; omega
            go_wp2
            go_ret
            exact ⟨by rw [HR.out, HM.out]; rfl, HW.out⟩
end Go.Proofs.YtccnbepccajdoaaDoor.S13
