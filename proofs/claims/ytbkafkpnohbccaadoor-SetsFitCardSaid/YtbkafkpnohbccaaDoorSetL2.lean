/-
  The call of the statement SetsCodes of layer 8.
-/
import Derived.Test.YtbkafkpnohbccaaDoorSetE
import Derived.Test.YtbkafkpnohbccaaDoorSetP
import Derived.Test.YtbkafkpnohbccaaDoorSteady
import Derived.Outline
import Derived.Deep.QuietTactic
import Derived.BigQuiet
namespace Go.Proofs.YtbkafkpnohbccaaDoor.S8
set_option linter.unusedSimpArgs false
set_option linter.unusedVariables false
open Go.RowKit S7

set_option maxRecDepth 100000 in
set_option maxHeartbeats 8000000 in
theorem setsCodes_walk (M : SC) (W : World) (hk : M.ok W) (q : Int) (wq : (Lit.int .u32 q).wf = true) :
    Calls Tryd.prog 4 #[.int .u32 q] W fun e w' => e = .returned (.bool true) ∧ Below W.heap.size W w' := by
  have wq' : 0 ≤ q ∧ q ≤ 4294967295 := by simpa [Lit.wf, IntKind.min, IntKind.max, IntKind.signed, IntKind.bits] using wq
  obtain ⟨Q, rfl⟩ := Int.eq_ofNat_of_zero_le wq'.1
  have hQ : Q < 4294967296 := by omega
  clear wq wq'
  have HK := Lib.hid hk
  clear hk
  have LO := Lib.hid (show otsL.length = 16 by decide)
  have LT := Lib.hid (show treeL.length = 36 by decide)
  go_enter Tryd.func4, Tryd.ntmps4
  go_wp2_with (first
    | (go_at_call 8; ((with_reducible refine (awake_true M _ HK.out).mono ?_); rintro e w1 ⟨rfl, c1⟩; have B1 := Lib.hid c1; clear c1))
    | (go_at_call 16; ((with_reducible refine (M.otsC _ (M.bel HK.out B1.out)).mono ?_); intro e w2 h2; obtain ⟨A2, c2, rfl, r2, b2⟩ := h2; rw [LO.out] at r2; rw [LO.out]; have B2 := Lib.hid (B1.out.trans (b2.mono B1.out.size)); have R2 := Lib.hid r2; clear b2 r2)))
  obtain ⟨b, off, rfl, hb, hcell⟩ := R2.out.at_ (by omega)
  have HC := Lib.hid hcell
  have HB := Lib.hid hb
  clear hcell hb
  go_loopw [4, 5] (fun s i wr => ∃ k : Nat, k ≤ 16 ∧ i = .int .i64 (k : Int) ∧ s = .bool (memB otsL Q k) ∧ Below w2.heap.size w2 wr) (fun _ i _ => 16 - (intOf i).toNat)
  case atStart => exact ⟨0, by omega, rfl, by rw [memB_zero], Below.refl _ _⟩
  case round =>
    obtain ⟨k, hk, rfl, rfl, hbl⟩ := hrel
    have HBL := Lib.hid hbl
    by_cases hlt : k < 16
    · have i1 : (k : Int) < 16 := by omega
      obtain ⟨f1, f2, f3⟩ := otsL_facts k hlt
      obtain ⟨C, hC⟩ : ∃ C, C = otsL.getD k 0 := ⟨_, rfl⟩
      have hn := memB_next otsL Q k (by rw [LO.out]; exact hlt)
      rw [← hC] at f1 f2 f3 hn
      obtain ⟨p1, p2, _⟩ := oP_small C f1
      obtain ⟨P, hP⟩ : ∃ P, P = oP C := ⟨_, rfl⟩
      obtain ⟨K, hK⟩ : ∃ K, K = oK C := ⟨_, rfl⟩
      obtain ⟨N, hN⟩ : ∃ N, N = oN C := ⟨_, rfl⟩
      obtain ⟨V, hV⟩ : ∃ V, V = oW C := ⟨_, rfl⟩
      obtain ⟨S, hS⟩ : ∃ S, S = oS C := ⟨_, rfl⟩
      have HO := Lib.hid (show ∀ X, M.ok X → Calls Tryd.prog 9 #[.int .u32 (C : Int)] X fun e w' => e = .returned (.tuple #[.agg #[.int .u32 (C : Int), .int .i64 (K : Int), .int .i64 (N : Int), .int .i64 (V : Int), .int .i64 (P : Int), .int .i64 (S : Int)], .int .i64 0]) ∧ Below X.heap.size X w' from fun X g => by
        have h := M.ots C X f2 g
        rw [otsA, otsE, f1, if_pos rfl, if_pos rfl, ← hP, ← hK, ← hN, ← hV, ← hS] at h
        exact h)
      have g0 := (hbl.cell (p := ⟨b, off + k, none⟩) HB.out).trans (HC.out k hlt)
      rw [← hC] at g0
      rw [← hP] at p1
      have G0 := Lib.hid (HC.out k hlt)
      rw [← hC] at G0
      clear hP hK hN hV hS p2 f1 hbl hC
      go_upto_region 9 with (go_at_call 9; ((with_reducible refine (HO.out _ (M.bel HK.out (B2.out.trans (HBL.out.mono B2.out.size)))).mono ?_); rintro e w3 ⟨rfl, c3⟩; have B3 := Lib.hid (HBL.out.trans (c3.mono HBL.out.size)); clear c3))
      obtain ⟨w4, hw4⟩ : ∃ w4, w3.alloc (.cells #[.int .u32 (C : Int), .int .i64 (K : Int), .int .i64 (N : Int), .int .i64 (V : Int), .int .i64 (P : Int), .int .i64 (S : Int)] 24) = w4 := ⟨_, rfl⟩
      have X4 : Bk w4 w3.heap.size 24 #[.int .u32 (C : Int), .int .i64 (K : Int), .int .i64 (N : Int), .int .i64 (V : Int), .int .i64 (P : Int), .int .i64 (S : Int)] := by rw [← hw4]; exact Bk.new _ _ _
      have b4 : Below w2.heap.size w2 w4 := by rw [← hw4]; exact B3.out.alloc B3.out.size _
      rw [hw4]
      have y0 := X4.cell 0
      have y4 := X4.cell 4
      simp at y0 y4
      have gk := (b4.cell (p := ⟨b, off + k, none⟩) HB.out).trans G0.out
      have B4 := Lib.hid b4
      have z1 : ((C : Int) != (C : Int)) = false := by simp
      have z2 : decide (265 < (P : Int)) = false := by simp; omega
      clear hw4 X4 g0
      obtain ⟨d, hd⟩ : ∃ d, d = decide (C = Q) := ⟨_, rfl⟩
      have z5 : ((C : Int) == (Q : Int)) = d := by rw [hd, Bool.eq_iff_iff]; simp only [beq_iff_eq, decide_eq_true_eq]; omega
      rw [← hd] at hn
      clear hd b4
      by_cases hk0 : k = 0
      · have z3 : decide ((0 : Int) < (k : Int)) = false := by simp; omega
        have z4 : decide (0 < k) = false := by simp; omega
        clear hk0 f3
        cases hm : memB otsL Q k <;> cases d
        all_goals
          rw [hm] at hn
          have HN := Lib.hid hn
          clear hn hm
          go_quiet (fail)
          go_wp2
          go_roundw
          case rel => exact ⟨k + 1, by omega, by go_num, by rw [HN.out]; rfl, below_drewN B4.out _⟩
          case measure => simp [intOf]; omega
      · have z3 : decide ((0 : Int) < (k : Int)) = true := by simp; omega
        have z4 : decide (0 < k) = true := by simp; omega
        obtain ⟨D, hD⟩ : ∃ D, D = otsL.getD (k - 1) 0 := ⟨_, rfl⟩
        have f4 := f3 (by omega)
        rw [← hD] at f4
        have z6 : decide (C ≤ D) = false := by simp; omega
        obtain ⟨k', hk'⟩ : ∃ k', k' = k - 1 := ⟨_, rfl⟩
        have kk : (k : Int) - 1 = (k' : Int) := by omega
        have k1 : k' < 16 := by omega
        have gp := (B4.out.cell (p := ⟨b, off + k', none⟩) HB.out).trans (HC.out k' k1)
        rw [hk', ← hD, ← hk'] at gp
        clear f3 f4 hD hk' hk0
        cases hm : memB otsL Q k <;> cases d
        all_goals
          rw [hm] at hn
          have HN := Lib.hid hn
          clear hn hm
          go_quiet (fail)
          go_wp2
          go_roundw
          case rel => exact ⟨k + 1, by omega, by go_num, by rw [HN.out]; rfl, below_drewN B4.out _⟩
          case measure => simp [intOf]; omega
    · obtain rfl : k = 16 := by omega
      clear HC HB LO R2
      have B4 := Lib.hid (B2.out.trans (HBL.out.mono B2.out.size))
      obtain ⟨sb, hsb⟩ : ∃ s, s = memB otsL Q 16 := ⟨_, rfl⟩
      rw [← hsb]
      have HSB := Lib.hid hsb
      clear hsb hbl HBL
      go_wp2_with (go_at_call 17; ((with_reducible refine (M.treeC _ (M.bel HK.out B4.out)).mono ?_); intro e w5 h5; obtain ⟨A5, c5, rfl, r5, b5⟩ := h5; rw [LT.out] at r5; rw [LT.out]; have B5 := Lib.hid (B4.out.trans (b5.mono B4.out.size)); have R5 := Lib.hid r5; clear b5 r5))
      obtain ⟨b, off, rfl, hb, hcell⟩ := R5.out.at_ (by omega)
      have HC := Lib.hid hcell
      have HB := Lib.hid hb
      clear hcell hb
      go_loopw [9, 10] (fun s i wr => ∃ k : Nat, k ≤ 36 ∧ i = .int .i64 (k : Int) ∧ s = .bool (memB treeL Q k) ∧ Below w5.heap.size w5 wr) (fun _ i _ => 36 - (intOf i).toNat)
      case atStart => exact ⟨0, by omega, rfl, by rw [memB_zero], Below.refl _ _⟩
      case round =>
        obtain ⟨j, hj, rfl, rfl, hbl⟩ := hrel
        have HBL := Lib.hid hbl
        by_cases hlt2 : j < 36
        · have i1 : (j : Int) < 36 := by omega
          obtain ⟨f1, f2, f3, f4, f5⟩ := treeL_facts j hlt2
          obtain ⟨C, hC⟩ : ∃ C, C = treeL.getD j 0 := ⟨_, rfl⟩
          have hn := memB_next treeL Q j (by rw [LT.out]; exact hlt2)
          rw [← hC] at f1 f2 f3 f4 f5 hn
          obtain ⟨K, hK⟩ : ∃ K, K = tK C := ⟨_, rfl⟩
          obtain ⟨N, hN⟩ : ∃ N, N = tN C := ⟨_, rfl⟩
          obtain ⟨H, hH⟩ : ∃ H, H = tH C := ⟨_, rfl⟩
          obtain ⟨L, hL⟩ : ∃ L, L = lvs (H : Int) := ⟨_, rfl⟩
          have hL1 : 1 ≤ L := by rw [hL]; exact (lvs_pos H (by omega) (by omega)).2
          have HO := Lib.hid (show ∀ X, M.ok X → Calls Tryd.prog 11 #[.int .u32 (C : Int)] X fun e w' => e = .returned (.tuple #[.agg #[.int .u32 (C : Int), .int .i64 (K : Int), .int .i64 (N : Int), .int .i64 (H : Int)], .int .i64 0]) ∧ Below X.heap.size X w' from fun X g => by
            have h := M.tree C X f2 g
            rw [treeA, treeE, f1, if_pos rfl, if_pos rfl, ← hK, ← hN, ← hH] at h
            exact h)
          have HLV := Lib.hid (show ∀ X, M.ok X → Calls Tryd.prog 14 #[.agg #[.int .u32 (C : Int), .int .i64 (K : Int), .int .i64 (N : Int), .int .i64 (H : Int)]] X fun e w' => e = .returned (.int .u64 (L : Int)) ∧ Below X.heap.size X w' from fun X g => by rw [hL]; exact M.leaves C K N H X g)
          have g0 := (hbl.cell (p := ⟨b, off + j, none⟩) HB.out).trans (HC.out j hlt2)
          have G0 := Lib.hid (HC.out j hlt2)
          rw [← hC] at g0 G0
          clear hK hN hH hL f1 f4 f5 hbl hC
          go_upto_region 18 with (go_at_call 11; ((with_reducible refine (HO.out _ (M.bel HK.out (B5.out.trans (HBL.out.mono B5.out.size)))).mono ?_); rintro e w7 ⟨rfl, c7⟩; have B7 := Lib.hid (HBL.out.trans (c7.mono HBL.out.size)); clear c7))
          obtain ⟨w8, hw8⟩ : ∃ w8, w7.alloc (.cells #[.int .u32 (C : Int), .int .i64 (K : Int), .int .i64 (N : Int), .int .i64 (H : Int)] 26) = w8 := ⟨_, rfl⟩
          have X8 : Bk w8 w7.heap.size 26 #[.int .u32 (C : Int), .int .i64 (K : Int), .int .i64 (N : Int), .int .i64 (H : Int)] := by rw [← hw8]; exact Bk.new _ _ _
          have b8 : Below w5.heap.size w5 w8 := by rw [← hw8]; exact B7.out.alloc B7.out.size _
          rw [hw8]
          have y0 := X8.cell 0
          have y1 := X8.cell 1
          have y2 := X8.cell 2
          have y3 := X8.cell 3
          simp at y0 y1 y2 y3
          have L8 := Lib.hid X8.lt
          have gk := (b8.cell (p := ⟨b, off + j, none⟩) HB.out).trans G0.out
          have LB := Lib.hid (Nat.lt_of_lt_of_le HB.out b8.size)
          have B8 := Lib.hid b8
          have z1 : ((C : Int) != (C : Int)) = false := by simp
          have z2 : ((L : Int) == 0) = false := by simp; omega
          obtain ⟨d, hd⟩ : ∃ d, d = decide (C = Q) := ⟨_, rfl⟩
          have z5 : ((C : Int) == (Q : Int)) = d := by rw [hd, Bool.eq_iff_iff]; simp only [beq_iff_eq, decide_eq_true_eq]; omega
          rw [← hd] at hn
          clear hw8 X8 g0 hd b8
          by_cases hk0 : j = 0
          · have z3 : decide ((0 : Int) < (j : Int)) = false := by simp; omega
            have z4 : decide (0 < j) = false := by simp; omega
            clear hk0 f3
            generalize hm : memB treeL Q j = m at hn ⊢
            have HN := Lib.hid hn
            clear hn hm
            refine wp_region_steady (fun X => M.ok X ∧ Below w8.heap.size w8 X) (by kernel_rfl) (by kernel_rfl) ⟨M.bel HK.out (B5.out.trans (B8.out.mono B5.out.size)).drew, (Below.refl _ _).drew⟩ ?_
            repeat (first | (refine seq_pure (v := ?_) (by rfl) ?_ ?_; rotate_left; (· (intro w' hS; have h0 := (hS.2.cell (p := ⟨w7.heap.size, 0, none⟩) L8.out).trans y0; have h1 := (hS.2.cell (p := ⟨w7.heap.size, 1, none⟩) L8.out).trans y1; have h2 := (hS.2.cell (p := ⟨w7.heap.size, 2, none⟩) L8.out).trans y2; have h3 := (hS.2.cell (p := ⟨w7.heap.size, 3, none⟩) L8.out).trans y3; have h4 := (hS.2.cell (p := ⟨b, off + j, none⟩) LB.out).trans gk; go_simp; try with_reducible rfl)); simp only [Act.put, List.setIfInBounds_toArray, List.set_cons_zero, List.set_cons_succ]) | (refine seq_skip (by rfl) ?_; simp only [Act.put, List.setIfInBounds_toArray, List.set_cons_zero, List.set_cons_succ]) | fail)
            refine seq_call (f := 14) (args := #[.agg #[.int .u32 (C : Int), .int .i64 (K : Int), .int .i64 (N : Int), .int .i64 (H : Int)]]) (v := .int .u64 (L : Int)) (by rfl) ?_ ?_ ?_
            · intro w' hS; have h0 := (hS.2.cell (p := ⟨w7.heap.size, 0, none⟩) L8.out).trans y0; have h1 := (hS.2.cell (p := ⟨w7.heap.size, 1, none⟩) L8.out).trans y1; have h2 := (hS.2.cell (p := ⟨w7.heap.size, 2, none⟩) L8.out).trans y2; have h3 := (hS.2.cell (p := ⟨w7.heap.size, 3, none⟩) L8.out).trans y3; have h4 := (hS.2.cell (p := ⟨b, off + j, none⟩) LB.out).trans gk; go_simp
            · intro w' hS; exact (HLV.out _ hS.1).mono fun e w'' ⟨h1, h2⟩ => ⟨h1, M.bel hS.1 h2, hS.2.trans (h2.mono hS.2.size)⟩
            simp only [Act.put, List.setIfInBounds_toArray, List.set_cons_zero, List.set_cons_succ]
            repeat (first | (refine seq_pure (v := ?_) (by rfl) ?_ ?_; rotate_left; (· (intro w' hS; have h0 := (hS.2.cell (p := ⟨w7.heap.size, 0, none⟩) L8.out).trans y0; have h1 := (hS.2.cell (p := ⟨w7.heap.size, 1, none⟩) L8.out).trans y1; have h2 := (hS.2.cell (p := ⟨w7.heap.size, 2, none⟩) L8.out).trans y2; have h3 := (hS.2.cell (p := ⟨w7.heap.size, 3, none⟩) L8.out).trans y3; have h4 := (hS.2.cell (p := ⟨b, off + j, none⟩) LB.out).trans gk; go_simp; try with_reducible rfl)); simp only [Act.put, List.setIfInBounds_toArray, List.set_cons_zero, List.set_cons_succ]) | (refine seq_skip (by rfl) ?_; simp only [Act.put, List.setIfInBounds_toArray, List.set_cons_zero, List.set_cons_succ]) | fail)
            refine seq_nil ?_
            intro w9 s9
            have gk9 := (s9.2.cell (p := ⟨b, off + j, none⟩) LB.out).trans gk
            have B9 := Lib.hid (B8.out.trans (s9.2.mono B8.out.size))
            clear s9
            cases m <;> cases d
            all_goals
              go_wp2
              go_roundw
              case rel => exact ⟨j + 1, by omega, by go_num, by rw [HN.out]; rfl, B9.out⟩
              case measure => simp [intOf]; omega
          · have z3 : decide ((0 : Int) < (j : Int)) = true := by simp; omega
            have z4 : decide (0 < j) = true := by simp; omega
            obtain ⟨D, hD⟩ : ∃ D, D = treeL.getD (j - 1) 0 := ⟨_, rfl⟩
            have f4 := f3 (by omega)
            rw [← hD] at f4
            have z6 : decide (C ≤ D) = false := by simp; omega
            obtain ⟨k', hk'⟩ : ∃ k', k' = j - 1 := ⟨_, rfl⟩
            have kk : (j : Int) - 1 = (k' : Int) := by omega
            have k1 : k' < 36 := by omega
            have ki : (k' : Int) < 36 := by omega
            have kw : IntKind.i64.wrap (k' : Int) = (k' : Int) := by rw [IntKind.wrap_i64]; omega
            have gp := (B8.out.cell (p := ⟨b, off + k', none⟩) HB.out).trans (HC.out k' k1)
            rw [hk', ← hD, ← hk'] at gp
            clear f3 f4 hD hk' hk0
            generalize hm : memB treeL Q j = m at hn ⊢
            have HN := Lib.hid hn
            clear hn hm
            refine wp_region_steady (fun X => M.ok X ∧ Below w8.heap.size w8 X) (by kernel_rfl) (by kernel_rfl) ⟨M.bel HK.out (B5.out.trans (B8.out.mono B5.out.size)).drew, (Below.refl _ _).drew⟩ ?_
            repeat (first | (refine seq_pure (v := ?_) (by rfl) ?_ ?_; rotate_left; (· (intro w' hS; have h0 := (hS.2.cell (p := ⟨w7.heap.size, 0, none⟩) L8.out).trans y0; have h1 := (hS.2.cell (p := ⟨w7.heap.size, 1, none⟩) L8.out).trans y1; have h2 := (hS.2.cell (p := ⟨w7.heap.size, 2, none⟩) L8.out).trans y2; have h3 := (hS.2.cell (p := ⟨w7.heap.size, 3, none⟩) L8.out).trans y3; have h4 := (hS.2.cell (p := ⟨b, off + j, none⟩) LB.out).trans gk; have h5 := (hS.2.cell (p := ⟨b, off + k', none⟩) LB.out).trans gp; go_simp; try with_reducible rfl)); simp only [Act.put, List.setIfInBounds_toArray, List.set_cons_zero, List.set_cons_succ]) | (refine seq_skip (by rfl) ?_; simp only [Act.put, List.setIfInBounds_toArray, List.set_cons_zero, List.set_cons_succ]) | fail)
            refine seq_call (f := 14) (args := #[.agg #[.int .u32 (C : Int), .int .i64 (K : Int), .int .i64 (N : Int), .int .i64 (H : Int)]]) (v := .int .u64 (L : Int)) (by rfl) ?_ ?_ ?_
            · intro w' hS; have h0 := (hS.2.cell (p := ⟨w7.heap.size, 0, none⟩) L8.out).trans y0; have h1 := (hS.2.cell (p := ⟨w7.heap.size, 1, none⟩) L8.out).trans y1; have h2 := (hS.2.cell (p := ⟨w7.heap.size, 2, none⟩) L8.out).trans y2; have h3 := (hS.2.cell (p := ⟨w7.heap.size, 3, none⟩) L8.out).trans y3; have h4 := (hS.2.cell (p := ⟨b, off + j, none⟩) LB.out).trans gk; have h5 := (hS.2.cell (p := ⟨b, off + k', none⟩) LB.out).trans gp; go_simp
            · intro w' hS; exact (HLV.out _ hS.1).mono fun e w'' ⟨h1, h2⟩ => ⟨h1, M.bel hS.1 h2, hS.2.trans (h2.mono hS.2.size)⟩
            simp only [Act.put, List.setIfInBounds_toArray, List.set_cons_zero, List.set_cons_succ]
            repeat (first | (refine seq_pure (v := ?_) (by rfl) ?_ ?_; rotate_left; (· (intro w' hS; have h0 := (hS.2.cell (p := ⟨w7.heap.size, 0, none⟩) L8.out).trans y0; have h1 := (hS.2.cell (p := ⟨w7.heap.size, 1, none⟩) L8.out).trans y1; have h2 := (hS.2.cell (p := ⟨w7.heap.size, 2, none⟩) L8.out).trans y2; have h3 := (hS.2.cell (p := ⟨w7.heap.size, 3, none⟩) L8.out).trans y3; have h4 := (hS.2.cell (p := ⟨b, off + j, none⟩) LB.out).trans gk; have h5 := (hS.2.cell (p := ⟨b, off + k', none⟩) LB.out).trans gp; go_simp; try with_reducible rfl)); simp only [Act.put, List.setIfInBounds_toArray, List.set_cons_zero, List.set_cons_succ]) | (refine seq_skip (by rfl) ?_; simp only [Act.put, List.setIfInBounds_toArray, List.set_cons_zero, List.set_cons_succ]) | fail)
            refine seq_nil ?_
            intro w9 s9
            have gk9 := (s9.2.cell (p := ⟨b, off + j, none⟩) LB.out).trans gk
            have B9 := Lib.hid (B8.out.trans (s9.2.mono B8.out.size))
            clear s9
            cases m <;> cases d
            all_goals
              go_wp2
              go_roundw
              case rel => exact ⟨j + 1, by omega, by go_num, by rw [HN.out]; rfl, B9.out⟩
              case measure => simp [intOf]; omega
        · obtain rfl : j = 36 := by omega
          obtain ⟨st, hst⟩ : ∃ s, s = memB treeL Q 36 := ⟨_, rfl⟩
          rw [← hst]
          have HST := Lib.hid hst
          have B6 := Lib.hid (B5.out.trans (hbl.mono B5.out.size))
          clear hst hbl HBL HC HB R5
          obtain ⟨x0, x1, x2, x3, x4, x5, hx⟩ := otsA_form Q
          obtain ⟨y0, y1, y2, y3, hy⟩ := treeA_form Q
          obtain ⟨E, hE⟩ : ∃ E, E = otsE Q := ⟨_, rfl⟩
          obtain ⟨F, hF⟩ : ∃ F, F = treeE Q := ⟨_, rfl⟩
          have HO := Lib.hid (show ∀ X, M.ok X → Calls Tryd.prog 9 #[.int .u32 (Q : Int)] X fun e w' => e = .returned (.tuple #[.agg #[.int .u32 x0, .int .i64 x1, .int .i64 x2, .int .i64 x3, .int .i64 x4, .int .i64 x5], .int .i64 (E : Int)]) ∧ Below X.heap.size X w' from fun X g => by rw [hE]; have h := M.ots Q X hQ g; rw [hx] at h; exact h)
          have HT := Lib.hid (show ∀ X, M.ok X → Calls Tryd.prog 11 #[.int .u32 (Q : Int)] X fun e w' => e = .returned (.tuple #[.agg #[.int .u32 y0, .int .i64 y1, .int .i64 y2, .int .i64 y3], .int .i64 (F : Int)]) ∧ Below X.heap.size X w' from fun X g => by rw [hF]; have h := M.tree Q X hQ g; rw [hy] at h; exact h)
          have z1 : ((E : Int) == 0) = sb := by
            rw [HSB.out, memB_ots, hE, otsE]
            cases okO Q <;> simp
          have z2 : ((F : Int) == 0) = st := by
            rw [HST.out, memB_tree, hF, treeE]
            cases okT Q <;> simp
          have z3 : (sb == sb) = true := by simp
          have z4 : (st == st) = true := by simp
          clear hx hy hE hF
          go_wp2_with (first
            | (go_at_call 9; ((with_reducible refine (HO.out _ (M.bel HK.out B6.out)).mono ?_); rintro e w7 ⟨rfl, c7⟩; have B7 := Lib.hid (B6.out.trans (c7.mono B6.out.size)); clear c7))
            | (go_at_call 11; ((with_reducible refine (HT.out _ (M.bel HK.out (B7.out.alloc B7.out.size _))).mono ?_); rintro e w8 ⟨rfl, c8⟩; have B8 := Lib.hid ((B7.out.alloc B7.out.size _).trans (c8.mono (by have := B7.out.size; simp; omega))); clear c8)))
          go_ret
          exact ⟨rfl, B8.out.alloc B8.out.size _⟩
end Go.Proofs.YtbkafkpnohbccaaDoor.S8
