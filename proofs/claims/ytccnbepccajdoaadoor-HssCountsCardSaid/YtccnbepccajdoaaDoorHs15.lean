/-
  The statement's walk: HssCounts. No statement is proved here (its frame is another text).
-/
import Derived.Test.YtccnbepccajdoaaDoorHs14
import Derived.Test.YtccnbepccajdoaaDoorHs13
namespace Go.Proofs.YtccnbepccajdoaaDoor.S13
set_option linter.unusedSimpArgs false
set_option linter.unusedVariables false
open Go.RowKit S7 S8

theorem run_cutPr {b off n c i : Nat} {h : Int} (hh : h = (i : Int) + 1) (hk : i + 1 ≤ c) (W : World) :
    (Instr.slice 22 (.slice (some ⟨b, off, none⟩) n c) (some (.int .i64 (i : Int))) (some (.int .i64 h)) none).run Tryd.prog W = .ok (.slice (some ⟨b, off + i * 2, none⟩) 1 (c - i)) W := by
  have ee : Tryd.prog.elem 22 = 34 := by kernel_rfl
  have hs : (sizeOf 34).run Tryd.prog W = .ok 2 W := by kernel_rfl
  have e1 : h.toNat - i = 1 := by omega
  have e2 : (i : Int).toNat = i := by omega
  rw [run_slice_lh W 22 _ n c (by rw [ee]; exact Tryd.underlying22) .i64 .i64 (i : Int) h (by omega) (by omega) (by omega), ee, hs]
  have e3 : ¬ c = i := by omega
  have e4 : (⟨b, off, none⟩ : Addr).add (i * 2) = ⟨b, off + i * 2, none⟩ := by unfold Addr.add; split <;> simp_all
  have e5 : c - i ≠ 0 := by omega
  simp only [Result.andThen, sliced, e2, e1]
  simp [e3, e5, e4]
theorem run_cutPrAt {b off n c i : Nat} {h : Int} (hh : h = (i : Int) + 1) (hk : i + 1 ≤ c) (W : World) :
    (Instr.sliceAt 22 (.slice (some ⟨b, off, none⟩) n c) (some (.int .i64 (i : Int))) (some (.int .i64 h)) none).run Tryd.prog W = .ok (.slice (some ⟨b, off + i * 2, none⟩) 1 (c - i)) W := by
  have ee : Tryd.prog.elem 22 = 34 := by kernel_rfl
  rw [run_sliceAt_slice W 22 _ _ _ _ (by rw [ee]; exact Tryd.underlying22)]
  exact run_cutPr hh hk W
theorem rp_one {w : World} {b off n c : Nat} {L : List Pr} (h : Rp w (some ⟨b, off, none⟩) n c L) (i : Nat) (hi : i < n) : Rp w (some ⟨b, off + i * 2, none⟩) 1 (c - i) [at_ L i] := by
  have hc := h.cap
  refine ⟨rfl, by omega, by have := h.max; omega, fun j => ?_, fun _ => ?_⟩
  · rcases j with _ | j
    · exact h.rng i
    · simp [at_]
  · obtain ⟨b', off', e, hb, hcell⟩ := h.at_ (by omega)
    injection e with e
    injection e with e1 e2 _
    subst e1 e2
    refine ⟨b, off + i * 2, rfl, hb, fun j hj => ?_⟩
    obtain rfl : j = 0 := by omega
    have := hcell i hi
    simpa [at_] using this
/-- What each one-level total tells. -/
theorem total_one {b off n c : Nat} {L : List Pr} (hm : mayL L = true) (i : Nat) (hi : i < n) (hl : L.length = n) (w : World) (hk : S0.ok w) (h : Rp w (some ⟨b, off, none⟩) n c L) : Calls Tryd.prog 6 #[.slice (some ⟨b, off + i * 2, none⟩) 1 (c - i)] w fun e w' => e = .returned (.int .u64 ((2 ^ tH (at_ L i).2 : Nat) : Int)) ∧ Below w.heap.size w w' := by
  have h1 := total_any _ 1 (c - i) [at_ L i] w hk (rp_one h i hi)
  rw [(mayL_one hm i (by omega)).2.1] at h1
  exact h1
set_option maxRecDepth 100000 in
set_option maxHeartbeats 4000000 in
theorem hssCounts_walk (w : World) (hk : S0.ok w) (A : Option Addr) (n c : Nat) (L : List Pr) (h : Rp w A n c L) (v : Nat) (hv : v < 18446744073709551616) :
    Calls Tryd.prog 3 #[.slice A n c, .int .u64 (v : Int)] w fun e w' => e = .returned (.bool true) ∧ Below w.heap.size w w' := by
  have lm : n ≤ maxLen := Nat.le_trans h.cap h.max
  unfold maxLen at lm
  have HK := Lib.hid hk
  have HH := Lib.hid h
  have HA := Lib.hid (awake_true w hk)
  by_cases h100 : 100 < n
  · have q1 : decide (100 < (n : Int)) = true := by simp; omega
    clear hk h
    go_enter Tryd.func3, Tryd.ntmps3
    go_wp2_with (go_at_call 4; ((with_reducible refine HA.out.mono ?_); rintro e w1 ⟨rfl, b1⟩))
    go_ret
    exact ⟨rfl, b1⟩
  · have q1 : decide (100 < (n : Int)) = false := by simp; omega
    have HRM := Lib.hid (fun X (hb : Below w.heap.size w X) => rhmay_any A n c L X (h.below hb))
    have HTT := Lib.hid (fun X (hb : Below w.heap.size w X) => total_any A n c L X (S0.bel hk hb) (h.below hb))
    cases hm : mayL L with
    | false =>
      have ht : totL L = 0 := by rw [totL, hm, if_neg (by simp)]
      rw [hm] at HRM
      rw [ht] at HTT
      clear hk h hm ht h100
      go_enter Tryd.func3, Tryd.ntmps3
      go_wp2_with (first
        | (go_at_call 4; ((with_reducible refine HA.out.mono ?_); rintro e w1 ⟨rfl, b1⟩; have B1 := Lib.hid b1; clear b1))
        | (go_at_call 5; ((with_reducible refine (HRM.out _ B1.out).mono ?_); rintro e w2 ⟨rfl, b2⟩; have B2 := Lib.hid (B1.out.trans (b2.mono B1.out.size)); clear b2))
        | (go_at_call 6; ((with_reducible refine (HTT.out _ B2.out).mono ?_); rintro e w3 ⟨rfl, b3⟩; have B3 := Lib.hid (B2.out.trans (b3.mono B2.out.size)); clear b3)))
      go_ret
      exact ⟨rfl, B3.out⟩
    | true =>
      have ht : totL L = 2 ^ sumH L := by rw [totL, if_pos hm]
      obtain ⟨m1, m2, m3, m4⟩ := mayL_of hm
      have HMM := Lib.hid hm
      have HL := Lib.hid h.len
      rw [h.len] at m1 m2
      rw [hm] at HRM
      rw [ht] at HTT
      obtain ⟨T, hT⟩ : ∃ T, T = 2 ^ sumH L := ⟨_, rfl⟩
      rw [← hT] at HTT
      have hT1 : 1 ≤ T := by rw [hT]; exact Nat.pow_pos (by omega)
      have hT2 : T ≤ 1152921504606846976 := by rw [hT]; exact pow_60 m4
      obtain ⟨V, hV⟩ : ∃ V, V = v % T := ⟨_, rfl⟩
      have hVT : V < T := by rw [hV]; exact Nat.mod_lt _ hT1
      have r1 : (v : Int) % (T : Int) = (V : Int) := by rw [hV]; simp
      have r2 : (v : Int).tmod (T : Int) = (V : Int) := by rw [Int.tmod_eq_emod_of_nonneg (by omega)]; exact r1
      have HPL := Lib.hid (fun X (hb : Below w.heap.size w X) (u : Nat) (hu : u < T) => places_full A n c L u X (S0.bel hk hb) (h.below hb) hm (by rw [← hT]; exact hu))
      have HTD := Lib.hid hT
      obtain ⟨b, off, rfl, hb, hc⟩ := h.at_ (by omega)
      have HT1 := Lib.hid (fun i (hi : i < n) X (hb : Below w.heap.size w X) => total_one (b := b) (off := off) (n := n) (c := c) hm i hi h.len X (S0.bel hk hb) (h.below hb))
      have t0 : ¬ (T : Int) = 0 := by omega
      have hcap := h.cap
      clear hk h hm ht h100 hT hV hc m3 m4
      go_enter Tryd.func3, Tryd.ntmps3
      go_wp2_with (first
        | (go_at_call 4; ((with_reducible refine HA.out.mono ?_); rintro e w1 ⟨rfl, b1⟩; have B1 := Lib.hid b1; clear b1))
        | (go_at_call 5; ((with_reducible refine (HRM.out _ B1.out).mono ?_); rintro e w2 ⟨rfl, b2⟩; have B2 := Lib.hid (B1.out.trans (b2.mono B1.out.size)); clear b2))
        | (go_at_call 6; ((with_reducible refine (HTT.out _ B2.out).mono ?_); rintro e w3 ⟨rfl, b3⟩; have B3 := Lib.hid (B2.out.trans (b3.mono B2.out.size)); clear b3))
        | (go_at_call 7; ((with_reducible refine (HPL.out _ B3.out V hVT).mono ?_); rintro e w4 ⟨g, rfl, q4, b4⟩; rw [HL.out]; have Q4 := Lib.hid q4; have B4 := Lib.hid (B3.out.trans (b4.mono B3.out.size)); clear q4 b4)))
      have HQ1 := Lib.hid (show ∀ X, Bk X g 31 (uv (places L V)).toArray → ∀ i, i < n → X.cell? ⟨g, i, none⟩ = some (.int .u32 (plc L V i : Int)) from fun X hX i hi => by
        rw [hX.cell, List.getElem?_toArray, uv_at _ i (by rw [places_length, HL.out]; exact hi)]
        have := places_at L V i (by rw [HL.out]; exact hi)
        simp [List.getD, places_length, HL.out, hi] at this
        rw [this])
      go_loopw [8, 9] (fun x i wr => ∃ k : Nat, k ≤ n ∧ i = .int .i64 (k : Int) ∧ x = .int .u64 ((V / 2 ^ sumH (L.drop k) : Nat) : Int) ∧ Bk wr g 31 (uv (places L V)).toArray ∧ Below w.heap.size w wr) (fun _ i _ => n - (intOf i).toNat)
      case atStart => exact ⟨0, Nat.zero_le _, rfl, by rw [List.drop_zero, ← HTD.out, Nat.div_eq_of_lt hVT]; rfl, Q4.out, B4.out⟩
      case round =>
        obtain ⟨k, hk2, rfl, rfl, hQ, hW⟩ := hrel
        obtain ⟨X, hX⟩ : ∃ X, X = V / 2 ^ sumH (L.drop k) := ⟨_, rfl⟩
        rw [← hX]
        have HX := Lib.hid hX
        have HQ := Lib.hid hQ
        have HW := Lib.hid hW
        clear hX
        by_cases hlt : k < n
        · have HS := Lib.hid (plc_step L V k (by rw [HL.out]; exact hlt))
          have hlt2 := plc_lt L V k
          have c1 := HQ1.out wr hQ k hlt
          have HO := Lib.hid (HT1.out k hlt wr hW)
          have hb25 := (mayL_one HMM.out k (by rw [HL.out]; exact hlt)).2.2.2
          obtain ⟨P, hP⟩ : ∃ P, P = plc L V k := ⟨_, rfl⟩
          obtain ⟨M, hM⟩ : ∃ M, M = 2 ^ tH (at_ L k).2 := ⟨_, rfl⟩
          have hM2 : M ≤ 33554432 := by rw [hM]; exact pow_25 hb25
          rw [← hP, ← hM] at HS
          rw [← hP, ← hM] at hlt2
          rw [← hP] at c1
          rw [← hM] at HO
          have HR := Lib.hid (HH.out.below hW)
          obtain ⟨Y, hY⟩ : ∃ Y, Y = V / 2 ^ sumH (L.drop (k + 1)) := ⟨_, rfl⟩
          have hYV : Y ≤ V := by rw [hY]; exact Nat.div_le_self _ _
          rw [← HX.out, ← hY] at HS
          obtain ⟨Z, hZ⟩ : ∃ Z, Z = X * M := ⟨_, rfl⟩
          rw [← hZ] at HS
          have z1 : (X : Int) * (M : Int) = (Z : Int) := by rw [hZ]; simp
          have hYZ : Y = Z + P := HS.out
          have y1 : (Z : Int) + (P : Int) = (Y : Int) := by omega
          have HY := Lib.hid hY
          have hZV : Z ≤ V := by omega
          have hcutA := fun W => run_cutPrAt (b := b) (off := off) (n := n) (c := c) (i := k) (h := (k : Int) + 1) rfl (by omega) W
          have hcutB := fun W => run_cutPr (b := b) (off := off) (n := n) (c := c) (i := k) (h := (k : Int) + 1) rfl (by omega) W
          have gl := hQ.lt
          clear hP hM hY hZ hYZ hQ hW hb25
          go_wp2_with (go_at_call 6; ((with_reducible refine HO.out.mono ?_); rintro e w5 ⟨rfl, b5⟩; have c5 := (b5.cell (p := ⟨g, k, none⟩) gl).trans c1; have Q5 := Lib.hid (HQ.out.below b5 gl); have B5 := Lib.hid (HW.out.trans (b5.mono HW.out.size)); clear b5))
          go_roundw
          case rel => exact ⟨k + 1, by omega, by go_num, by rw [HY.out], Q5.out, B5.out⟩
          case measure => simp [intOf]; omega
        · obtain rfl : k = n := by omega
          have hXV : X = V := by rw [HX.out, ← HL.out, sumH_all, Nat.pow_zero, Nat.div_one]
          subst hXV
          obtain ⟨U, hU⟩ : ∃ U, U = T - 1 := ⟨_, rfl⟩
          have u1 : (T : Int) - 1 = (U : Int) := by omega
          have hUT : U < T := by omega
          have HU := Lib.hid hU
          have HPU := Lib.hid (HPL.out wr hW U hUT)
          have hki : ¬ (k : Int) < (k : Int) := by omega
          clear hQ hW hU
          go_wp2_with (go_at_call 7; ((with_reducible refine HPU.out.mono ?_); rintro e w6 ⟨g2, rfl, q6, b6⟩; rw [HL.out]; have Q6 := Lib.hid q6; have B6 := Lib.hid (HW.out.trans (b6.mono HW.out.size)); clear q6 b6))
          have HQ2 := Lib.hid (show ∀ X, Bk X g2 31 (uv (places L U)).toArray → ∀ i, i < k → X.cell? ⟨g2, i, none⟩ = some (.int .u32 (plc L U i : Int)) from fun X hX i hi => by
            rw [hX.cell, List.getElem?_toArray, uv_at _ i (by rw [places_length, HL.out]; exact hi)]
            have := places_at L U i (by rw [HL.out]; exact hi)
            simp [List.getD, places_length, HL.out, hi] at this
            rw [this])
          obtain ⟨n, hn⟩ : ∃ n, n = k := ⟨_, rfl⟩
          subst hn
          clear hki hlt HX HPU hk2
          go_loopw [13] (fun i wr => ∃ j : Nat, j ≤ n ∧ i = .int .i64 (j : Int) ∧ Bk wr g2 31 (uv (places L U)).toArray ∧ Below w.heap.size w wr) (fun i _ => n - (intOf i).toNat)
          case atStart => exact ⟨0, Nat.zero_le _, rfl, Q6.out, B6.out⟩
          case round =>
            obtain ⟨j, hj, rfl, hQ2, hW2⟩ := hrel
            by_cases hjn : j < n
            · have hb25 := (mayL_one HMM.out j (by rw [HL.out]; exact hjn)).2.2.2
              obtain ⟨M, hM⟩ : ∃ M, M = 2 ^ tH (at_ L j).2 := ⟨_, rfl⟩
              have hM1 : 1 ≤ M := by rw [hM]; exact Nat.pow_pos (by omega)
              have hM2 : M ≤ 33554432 := by rw [hM]; exact pow_25 hb25
              have hPL : plc L U j = M - 1 := by rw [HU.out, HTD.out, hM]; exact plc_last L j (by rw [HL.out]; exact hjn)
              obtain ⟨P, hP⟩ : ∃ P, P = plc L U j := ⟨_, rfl⟩
              have m1' : (M : Int) - 1 = (P : Int) := by omega
              have HPP := Lib.hid hP
              have HMQ := Lib.hid hM
              have hPb : P ≤ 33554432 := by omega
              have hcutA := fun W => run_cutPrAt (b := b) (off := off) (n := n) (c := c) (i := j) (h := (j : Int) + 1) rfl (by omega) W
              have hcutB := fun W => run_cutPr (b := b) (off := off) (n := n) (c := c) (i := j) (h := (j : Int) + 1) rfl (by omega) W
              have hj0 : (0 : Int) ≤ (j : Int) := by omega
              have hj1 : (j : Int) < (n : Int) := by omega
              have hjw : IntKind.i64.wrap ((j : Int) + 1) = (j : Int) + 1 := by rw [IntKind.wrap_i64]; omega
              have hPw : IntKind.u64.wrap (P : Int) = (P : Int) := by rw [IntKind.wrap_u64]; omega
              have HQW := Lib.hid (And.intro hQ2 hW2)
              clear hM hPL hP hb25 hQ2 hW2
              go_upto_region 21 with (fail)
              refine SG.wp_region_ghost (γ := Unit) (fun _ => [.slice (some ⟨g2, 0, none⟩) n n, .int .i64 (j : Int), .pointer (some ⟨g2, j, none⟩), .int .u32 (P : Int), .int .u64 (P : Int), .slice (some ⟨b, off, none⟩) n c, .int .i64 (j : Int), .int .i64 (j : Int), .int .i64 ((j : Int) + 1), .slice (some ⟨b, off + j * 2, none⟩) 1 (c - j), .int .u64 (M : Int), .int .u64 (P : Int), .bool false]) (fun _ _ X => Bk X g2 31 (uv (places L U)).toArray ∧ Below w.heap.size w X) 13 (by kernel_rfl) (by kernel_rfl) rfl () ⟨HQW.out.1.drew, HQW.out.2.drew⟩ ?_
              refine SG.seq_pure (fun _ => .slice (some ⟨g2, 0, none⟩) n n) (fun _ => rfl) (fun _ => by rfl) (fun _ K' X hL h => h) ?_ ?_
              · intro _ K' X hS; go_simp
              simp only [Act.put, List.setIfInBounds_toArray, List.set_cons_zero, List.set_cons_succ]
              refine SG.seq_pure (fun _ => .int .i64 (j : Int)) (fun _ => rfl) (fun _ => by rfl) (fun _ K' X hL h => h) ?_ ?_
              · intro _ K' X hS; go_simp
              simp only [Act.put, List.setIfInBounds_toArray, List.set_cons_zero, List.set_cons_succ]
              refine SG.seq_pure (fun _ => .pointer (some ⟨g2, j, none⟩)) (fun _ => rfl) (fun _ => by rfl) (fun _ K' X hL h => h) ?_ ?_
              · intro _ K' X hS; go_simp
              simp only [Act.put, List.setIfInBounds_toArray, List.set_cons_zero, List.set_cons_succ]
              refine SG.seq_pure (fun _ => .int .u32 (P : Int)) (fun _ => rfl) (fun _ => by rfl) (fun _ K' X hL h => h) ?_ ?_
              · intro _ K' X hS; have c1 := HQ2.out X hS.1 j hjn; rw [← HPP.out] at c1; go_simp
              simp only [Act.put, List.setIfInBounds_toArray, List.set_cons_zero, List.set_cons_succ]
              refine SG.seq_pure (fun _ => .int .u64 (P : Int)) (fun _ => rfl) (fun _ => by rfl) (fun _ K' X hL h => h) ?_ ?_
              · intro _ K' X hS; go_simp
              simp only [Act.put, List.setIfInBounds_toArray, List.set_cons_zero, List.set_cons_succ]
              refine SG.seq_pure (fun _ => .slice (some ⟨b, off, none⟩) n c) (fun _ => rfl) (fun _ => by rfl) (fun _ K' X hL h => h) ?_ ?_
              · intro _ K' X hS; go_simp
              simp only [Act.put, List.setIfInBounds_toArray, List.set_cons_zero, List.set_cons_succ]
              refine SG.seq_pure (fun _ => .int .i64 (j : Int)) (fun _ => rfl) (fun _ => by rfl) (fun _ K' X hL h => h) ?_ ?_
              · intro _ K' X hS; go_simp
              simp only [Act.put, List.setIfInBounds_toArray, List.set_cons_zero, List.set_cons_succ]
              refine SG.seq_pure (fun _ => .int .i64 (j : Int)) (fun _ => rfl) (fun _ => by rfl) (fun _ K' X hL h => h) ?_ ?_
              · intro _ K' X hS; go_simp
              simp only [Act.put, List.setIfInBounds_toArray, List.set_cons_zero, List.set_cons_succ]
              refine SG.seq_pure (fun _ => .int .i64 ((j : Int) + 1)) (fun _ => rfl) (fun _ => by rfl) (fun _ K' X hL h => h) ?_ ?_
              · intro _ K' X hS; go_simp
              simp only [Act.put, List.setIfInBounds_toArray, List.set_cons_zero, List.set_cons_succ]
              refine SG.seq_pure (fun _ => .slice (some ⟨b, off + j * 2, none⟩) 1 (c - j)) (fun _ => rfl) (fun _ => by rfl) (fun _ K' X hL h => h) ?_ ?_
              · intro _ K' X hS; go_simp
              simp only [Act.put, List.setIfInBounds_toArray, List.set_cons_zero, List.set_cons_succ]
              refine SG.seq_call 6 (fun _ => #[.slice (some ⟨b, off + j * 2, none⟩) 1 (c - j)]) (fun _ => .int .u64 (M : Int)) (fun _ => rfl) (fun _ => by rfl) ?_ ?_ ?_
              · intro _ K' X hS; go_simp
              · intro _ K' X hL h0 hd hS; exact (HT1.out j hjn X hS.2).mono fun e X' ⟨h1, h2⟩ => ⟨by rw [HMQ.out]; exact h1, hS.1.below h2 hS.1.lt, hS.2.trans (h2.mono hS.2.size)⟩
              simp only [Act.put, List.setIfInBounds_toArray, List.set_cons_zero, List.set_cons_succ]
              refine SG.seq_pure (fun _ => .int .u64 (P : Int)) (fun _ => rfl) (fun _ => by rfl) (fun _ K' X hL h => h) ?_ ?_
              · intro _ K' X hS; go_simp
              simp only [Act.put, List.setIfInBounds_toArray, List.set_cons_zero, List.set_cons_succ]
              refine SG.seq_pure (fun _ => .bool false) (fun _ => rfl) (fun _ => by rfl) (fun _ K' X hL h => h) ?_ ?_
              · intro _ K' X hS; go_simp
              simp only [Act.put, List.setIfInBounds_toArray, List.set_cons_zero, List.set_cons_succ]
              refine SG.seq_nil (fun _ X hS => ?_)
              have HS := Lib.hid hS
              clear hS
              go_wp2
              go_roundw
              case rel => exact ⟨j + 1, by omega, by go_num, HS.out.1, HS.out.2⟩
              case measure => simp [intOf]; omega
            · obtain rfl : j = n := by omega
              have HW2 := Lib.hid hW2
              clear hQ2 hW2
              go_wp2
              go_ret
              exact ⟨rfl, HW2.out⟩
end Go.Proofs.YtccnbepccajdoaaDoor.S13
