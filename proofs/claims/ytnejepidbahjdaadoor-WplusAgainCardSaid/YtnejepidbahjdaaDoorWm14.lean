/-
  Texts put together: DigR2, DigR3, DigR4, WpRA. No statement is proved here.
-/
import Derived.Test.YtnejepidbahjdaaDoorWm13
import Derived.RegionTactic
import Derived.Deep.Draws
import Derived.Deep.RegionHeld3
import Derived.Test.YtnejepidbahjdaaDoorWm12

/-
  What the document's own calls of layer 7 do, on: Ints, Lack. No statement is proved here.
-/
namespace Go.Proofs.YtnejepidbahjdaaDoor.S7
set_option linter.unusedSimpArgs false
set_option linter.unusedVariables false
set_option maxRecDepth 1024
open Go.RowKit

theorem lk_next (w : Nat) (xs : List Nat) (j d : Nat) (h : xs[j]? = some d) : lk w (xs.take (j + 1)) = lk w (xs.take j) + (2 ^ w - 1 - d) := by
  rw [List.take_add_one, h, lk_append]
  simp [lk]
set_option maxHeartbeats 2000000 in
theorem rlack_any (A : Option Addr) (n c : Nat) (xs : List UInt8) (v : Nat) (W : World) (hr : Rd W A n c xs) (hv : wid v) (hm : n ≤ 1000000) :
    Calls Tryd.prog 45 #[.slice A n c, .int .i64 (v : Int)] W fun e w' => e = .returned (.int .i64 ((lk v (ofL v xs) : Nat) : Int)) ∧ Below W.heap.size W w' := by
  have HM := Lib.hid (show ∀ X, Calls Tryd.prog 64 #[.int .i64 (v : Int)] X fun e w' => e = .returned (.bool true) ∧ X = w' from fun X => by rw [← may_wid hv]; exact rmay_any v X)
  obtain ⟨ds, hds⟩ : ∃ ds, ds = ofL v xs := ⟨_, rfl⟩
  have HO := Lib.hid (show Calls Tryd.prog 46 #[.slice A n c, .int .i64 (v : Int)] W (NewI W.heap.size W ds) by rw [hds]; exact rof_any A n c xs v W hr hv hm)
  have HB := Lib.hid (show ∀ d ∈ ds, d < 2 ^ v by rw [hds]; exact ofL_lt v xs)
  obtain ⟨h8, hv1, hv8⟩ := wid_div hv
  obtain ⟨T, hT⟩ : ∃ T, T = ds.length := ⟨_, rfl⟩
  have HT := Lib.hid hT
  have hT8 : T ≤ 8000000 := by
    have h1 : ds.length = n * (8 / v) := by rw [hds, ofL_length, hr.len]
    have h2 : n * (8 / v) ≤ n * 8 := Nat.mul_le_mul_left _ (Nat.div_le_self _ _)
    omega
  rw [← hds]
  clear hv hr h8 hds hT
  go_enter Tryd.func45, Tryd.ntmps45
  go_wp2_with (go_at_call 46; ((with_reducible refine HO.out.mono ?_); intro e w1 h1; obtain ⟨A1, c1, rfl, r1, _, b1⟩ := newi_len h1; rw [← HT.out] at r1; rw [← HT.out]; have R1 := Lib.hid r1; have B1 := Lib.hid b1; clear h1 r1 b1))
  go_loopw [6, 7] (fun m i wr => ∃ j : Nat, j ≤ v ∧ i = .int .i64 (j : Int) ∧ m = .int .i64 ((2 ^ j : Nat) : Int) ∧ wr = w1) (fun _ i _ => v - (intOf i).toNat)
  case atStart => exact ⟨0, by omega, rfl, rfl, rfl⟩
  case round =>
    obtain ⟨j, hj, rfl, rfl, rfl⟩ := hrel
    have hp := pow_lt9 (Nat.le_trans hj hv8)
    by_cases hlt : j < v
    · have i0 : (j : Int) < (v : Int) := by omega
      have q0 : decide ((j : Int) < (v : Int)) = true := by simpa using hlt
      obtain ⟨P, hP⟩ : ∃ P, P = 2 ^ j := ⟨_, rfl⟩
      have HP := Lib.hid (show 2 ^ (j + 1) = 2 * P by rw [hP, Nat.pow_succ, Nat.mul_comm])
      rw [← hP] at hp ⊢
      clear hP
      go_wp2_with (go_at_call 64; ((with_reducible refine (HM.out _).mono ?_); rintro e w2 ⟨rfl, rfl⟩))
      go_roundw
      case rel => exact ⟨j + 1, by omega, by go_num, by rw [HP.out]; go_num, by first | trivial | rfl⟩
      case measure => simp [intOf]; omega
    · obtain rfl : j = v := by omega
      have i0 : ¬ (j : Int) < (j : Int) := by omega
      obtain ⟨P, hP⟩ : ∃ P, P = 2 ^ j := ⟨_, rfl⟩
      have HPP := Lib.hid hP
      have hP1 : 1 ≤ P := by rw [hP]; exact Nat.two_pow_pos _
      rw [← hP] at hp ⊢
      clear hP
      go_wp2
      obtain ⟨wo, rfl⟩ : ∃ wo : World, wo = wr := ⟨_, rfl⟩
      go_loop [8, 9] (fun s i => ∃ k : Nat, k ≤ T ∧ i = .int .i64 (k : Int) ∧ s = .int .i64 ((lk j (ds.take k) : Nat) : Int)) (fun _ i => T - (intOf i).toNat)
      case atStart => exact ⟨0, by omega, rfl, by simp [lk]⟩
      case round =>
        obtain ⟨k, hk, rfl, rfl⟩ := hrel
        by_cases hlt2 : k < T
        · have i1 : (k : Int) < (T : Int) := by omega
          obtain ⟨b, off, rfl, hb, hcell⟩ := R1.out.at_ (by omega)
          have hc := hcell k hlt2
          obtain ⟨d, hd⟩ : ∃ d, d = ds.getD k 0 := ⟨_, rfl⟩
          rw [← hd] at hc
          have hk2 : k < ds.length := by rw [← HT.out]; exact hlt2
          have hdk : ds[k]? = some d := by rw [hd]; simp [List.getD, hk2]
          have hdp : d < P := by rw [HPP.out]; exact HB.out d (List.mem_of_getElem? hdk)
          obtain ⟨L, hL⟩ : ∃ L, L = lk j (ds.take k) := ⟨_, rfl⟩
          have hLb : L ≤ 256 * T := by
            have h1 := lk_le j (ds.take k)
            have h2 : (ds.take k).length ≤ T := by rw [List.length_take, ← HT.out]; omega
            have h3 : (2 ^ j - 1) * (ds.take k).length ≤ 256 * T := Nat.mul_le_mul (by rw [← HPP.out]; omega) h2
            omega
          have HN := Lib.hid (show lk j (ds.take (k + 1)) = L + (P - 1 - d) by rw [hL, HPP.out]; exact lk_next j ds k d hdk)
          rw [← hL]
          have f1 : IntKind.i64.wrap ((L : Int) + (P : Int)) = (L : Int) + (P : Int) := by rw [IntKind.wrap_i64]; omega
          have f2 : IntKind.i64.wrap ((L : Int) + (P : Int) - 1) = (L : Int) + (P : Int) - 1 := by rw [IntKind.wrap_i64]; omega
          have f3 : IntKind.i64.wrap ((L : Int) + (P : Int) - 1 - (d : Int)) = (L : Int) + (P : Int) - 1 - (d : Int) := by rw [IntKind.wrap_i64]; omega
          have f4 : ((L + (P - 1 - d) : Nat) : Int) = (L : Int) + (P : Int) - 1 - (d : Int) := by omega
          have F4 := Lib.hid f4
          clear hcell hd hdk hL f4
          go_wp2
          go_round
          case rel => exact ⟨k + 1, by omega, by go_num, by rw [HN.out, F4.out]⟩
          case measure => simp [intOf]; omega
        · obtain rfl : k = T := by omega
          have i1 : ¬ (k : Int) < (k : Int) := by omega
          have ht : ds.take k = ds := List.take_of_length_le (by rw [← HT.out]; exact Nat.le_refl _)
          rw [ht]
          obtain ⟨L, hL⟩ : ∃ L, L = lk j ds := ⟨_, rfl⟩
          rw [← hL]
          have HLL := Lib.hid hL
          clear ht hL
          go_wp2
          go_ret
          exact ⟨by rw [← HLL.out]; rfl, B1.out⟩
end Go.Proofs.YtnejepidbahjdaaDoor.S7

/-
  What the document's own calls of layer 7 do, on: Lack of no width. No statement is proved here.
-/
namespace Go.Proofs.YtnejepidbahjdaaDoor.S7
set_option linter.unusedSimpArgs false
set_option linter.unusedVariables false
set_option maxRecDepth 1024
open Go.RowKit

theorem rlack_none (A : Option Addr) (n c : Nat) (w : Int) (W : World) (hw : mayB w = false) :
    Calls Tryd.prog 45 #[.slice A n c, .int .i64 w] W fun e w' => e = .returned (.int .i64 0) ∧ W = w' := by
  have HM := Lib.hid (show ∀ X, Calls Tryd.prog 64 #[.int .i64 w] X fun e w' => e = .returned (.bool false) ∧ X = w' from fun X => by rw [← hw]; exact rmay_any w X)
  have HO := Lib.hid (rof_none A n c w W hw)
  clear hw
  by_cases h0 : 0 < w
  · have q0 : decide (0 < w) = true := by simpa using h0
    go_enter Tryd.func45, Tryd.ntmps45
    go_wp2_with (go_at_call 46; ((with_reducible refine HO.out.mono ?_); rintro e w1 ⟨rfl, rfl⟩))
    go_loopw [6, 7] (fun m i wr => i = .int .i64 0 ∧ wr = W) (fun _ _ _ => 0)
    case atStart => exact ⟨rfl, rfl⟩
    case round =>
      obtain ⟨rfl, rfl⟩ := hrel
      go_wp2_with (go_at_call 64; ((with_reducible refine (HM.out _).mono ?_); rintro e w2 ⟨rfl, rfl⟩))
      obtain ⟨wo, rfl⟩ : ∃ wo : World, wo = wr := ⟨_, rfl⟩
      go_loop [8, 9] (fun s i => i = .int .i64 0 ∧ s = .int .i64 0) (fun _ _ => 0)
      case atStart => exact ⟨rfl, rfl⟩
      case round =>
        obtain ⟨rfl, rfl⟩ := hrel
        go_wp2
        go_ret
        exact ⟨rfl, rfl⟩
  · have q0 : decide (0 < w) = false := by simpa using h0
    go_enter Tryd.func45, Tryd.ntmps45
    go_wp2_with (go_at_call 46; ((with_reducible refine HO.out.mono ?_); rintro e w1 ⟨rfl, rfl⟩))
    go_loopw [6, 7] (fun m i wr => i = .int .i64 0 ∧ wr = W) (fun _ _ _ => 0)
    case atStart => exact ⟨rfl, rfl⟩
    case round =>
      obtain ⟨rfl, rfl⟩ := hrel
      go_wp2
      obtain ⟨wo, rfl⟩ : ∃ wo : World, wo = wr := ⟨_, rfl⟩
      go_loop [8, 9] (fun s i => i = .int .i64 0 ∧ s = .int .i64 0) (fun _ _ => 0)
      case atStart => exact ⟨rfl, rfl⟩
      case round =>
        obtain ⟨rfl, rfl⟩ := hrel
        go_wp2
        go_ret
        exact ⟨rfl, rfl⟩
end Go.Proofs.YtnejepidbahjdaaDoor.S7

/-
  What the document's own calls of layer 7 do, on: All. No statement is proved here.
-/
namespace Go.Proofs.YtnejepidbahjdaaDoor.S7
set_option linter.unusedSimpArgs false
set_option linter.unusedVariables false
set_option maxRecDepth 1024
open Go.RowKit

theorem rall_none (A : Option Addr) (n c : Nat) (w : Int) (W : World) (h : okS n w = false) (hm : n ≤ maxLen) :
    Calls Tryd.prog 26 #[.slice A n c, .int .i64 w] W fun e w' => e = .returned (.slice none 0 0) ∧ W = w' := by
  have HS := Lib.hid (fun X => rshape_none n w X h)
  unfold maxLen at hm
  clear h
  go_enter Tryd.func26, Tryd.ntmps26
  go_wp2_with (go_at_call 44; ((with_reducible refine (HS.out _).mono ?_); rintro e w2 ⟨rfl, rfl⟩))
  go_ret
  exact ⟨rfl, rfl⟩
set_option maxHeartbeats 2000000 in
theorem rall_any (A : Option Addr) (n c : Nat) (xs : List UInt8) (v : Nat) (W : World) (hr : Rd W A n c xs) (hv : wid v) (h0 : 1 ≤ n) (h1 : n ≤ 64) :
    Calls Tryd.prog 26 #[.slice A n c, .int .i64 (v : Int)] W (NewI W.heap.size W (allL v xs)) := by
  have hl := hr.len
  obtain ⟨k1, k2, k3⟩ := lack_val v hv xs (by omega) (by omega)
  have hS := fun X => rshape_any n v X h0 h1 hv
  have HLK := Lib.hid (fun X h => rlack_any A n c xs v X h hv (by omega))
  have HOF := Lib.hid (fun X h => rof_any A n c xs v X h hv (by omega))
  obtain ⟨_, _, f3, f4, _⟩ := shape_facts n v hv h0 h1
  have hw8 := wid_div hv
  obtain ⟨U, hU⟩ : ∃ U, U = shU n v := ⟨_, rfl⟩
  obtain ⟨V, hV⟩ : ∃ V, V = shV n v := ⟨_, rfl⟩
  obtain ⟨L, hL⟩ : ∃ L, L = shL n v := ⟨_, rfl⟩
  obtain ⟨X0, hX0⟩ : ∃ X0, X0 = lk v (ofL v xs) := ⟨_, rfl⟩
  have hU1 : 1 ≤ U := by
    rw [hU, f4]
    have : 1 ≤ 8 / v := by rcases hv with h | h | h | h <;> subst h <;> decide
    exact Nat.le_trans this (Nat.le_mul_of_pos_left _ h0)
  obtain ⟨N, hN⟩ : ∃ N, N = X0 * 2 ^ L := ⟨_, rfl⟩
  have hN6 : N < 65536 := by rw [hN, hX0, hL, ← hl]; exact k1
  have HAL := Lib.hid (show allL v xs = ofL v xs ++ (ofL v [UInt8.ofNat (N / 256), UInt8.ofNat N]).take V by rw [allL, hN, hX0, hV, hL, hl])
  have HO2 := Lib.hid (fun X B d (h : Rd X B 2 d [UInt8.ofNat (N / 256), UInt8.ofNat N]) => rof_any B 2 d _ v X h hv (by omega))
  have HL2 := Lib.hid (show V ≤ (ofL v [UInt8.ofNat (N / 256), UInt8.ofNat N]).length by
    rw [ofL_length, hV, ← hl]
    refine Nat.le_trans k3 ?_
    show 16 / v ≤ 2 * (8 / v)
    rcases hv with h | h | h | h <;> subst h <;> decide)
  have hOL : (ofL v xs).length ≤ 1000 := by
    rw [ofL_length, hl]
    have : n * (8 / v) ≤ n * 8 := Nat.mul_le_mul_left _ (Nat.div_le_self _ _)
    omega
  have hV20 : V ≤ 16 := by
    have h9 := k3
    rw [hl, ← hV] at h9
    have : 16 / v ≤ 16 := Nat.div_le_self _ _
    omega
  rw [← hU, ← hV, ← hL] at hS
  have HSS := Lib.hid hS
  have HNN := Lib.hid hN
  have HR := Lib.hid hr
  rw [← hX0] at HLK
  obtain ⟨ds, hds⟩ : ∃ ds, ds = ofL v xs := ⟨_, rfl⟩
  obtain ⟨es, hes⟩ : ∃ es, es = ofL v [UInt8.ofNat (N / 256), UInt8.ofNat N] := ⟨_, rfl⟩
  rw [← hes] at HO2 HL2
  rw [← hds] at HOF hOL
  rw [← hds, ← hes] at HAL
  rw [HAL.out]
  have hLb : L ≤ 16 := by rw [hL]; unfold shL; omega
  clear hS hU hV hL hX0 hN k1 k2 k3 hr hds hes f3 f4 hw8 hl
  have uz : ¬ (U : Int) = 0 := by omega
  go_enter Tryd.func26, Tryd.ntmps26
  go_wp2_with (first
    | (go_at_call 44; ((with_reducible refine (HSS.out _).mono ?_); rintro e w2 ⟨rfl, rfl⟩))
    | (go_at_call 45; ((with_reducible refine (HLK.out _ HR.out).mono ?_); rintro e w1 ⟨rfl, b1⟩; have B1 := Lib.hid b1; clear b1)))
  go_loop [8, 9] (fun x i => ∃ j : Nat, j ≤ L ∧ i = .int .i64 (j : Int) ∧ x = .int .i64 ((X0 * 2 ^ j : Nat) : Int)) (fun _ i => L - (intOf i).toNat)
  case atStart => exact ⟨0, by omega, rfl, by simp⟩
  case round =>
    obtain ⟨j, hj, rfl, rfl⟩ := hrel
    have hle : X0 * 2 ^ j ≤ N := by rw [HNN.out]; exact Nat.mul_le_mul_left _ (Nat.pow_le_pow_right (by omega) hj)
    by_cases hlt : j < L
    · have i0 : (j : Int) < (L : Int) := by omega
      obtain ⟨P, hP⟩ : ∃ P, P = X0 * 2 ^ j := ⟨_, rfl⟩
      have HP := Lib.hid (show X0 * 2 ^ (j + 1) = 2 * P by rw [hP, Nat.pow_succ, ← Nat.mul_assoc, Nat.mul_comm])
      rw [← hP] at hle ⊢
      clear hP
      go_wp2
      go_round
      case rel => exact ⟨j + 1, by omega, by go_num, by rw [HP.out]; go_num⟩
      case measure => simp [intOf]; omega
    · obtain rfl : j = L := by omega
      have i0 : ¬ (j : Int) < (j : Int) := by omega
      rw [← HNN.out]
      clear hle
      obtain ⟨H, hH⟩ : ∃ H, H = N / 256 := ⟨_, rfl⟩
      obtain ⟨G, hG⟩ : ∃ G, G = N % 256 := ⟨_, rfl⟩
      have g1 : (N : Int) / 256 = (H : Int) := by omega
      have g2 : (N : Int).tdiv 256 = (H : Int) := by rw [Int.tdiv_eq_ediv_of_nonneg (by omega)]; exact g1
      have g3 : (N : Int) % 256 = (G : Int) := by omega
      have g4 : (N : Int).tmod 256 = (G : Int) := by rw [Int.tmod_eq_emod_of_nonneg (by omega)]; exact g3
      have g5 : IntKind.u8.wrap (H : Int) = (H : Int) := by rw [IntKind.wrap_u8]; omega
      have g6 : IntKind.u8.wrap (G : Int) = (G : Int) := by rw [IntKind.wrap_u8]; omega
      obtain ⟨wo, hwo⟩ : ∃ wo : World, wo = w1 := ⟨_, rfl⟩
      have HLT := Lib.hid (show Rd (w1.alloc (.cells #[.int .u8 (H : Int), .int .u8 (G : Int)] 5)) (some ⟨w1.heap.size, 0, none⟩) 2 2 [UInt8.ofNat (N / 256), UInt8.ofNat N] from rd_lit8 w1 #[.int .u8 (H : Int), .int .u8 (G : Int)] [UInt8.ofNat (N / 256), UInt8.ofNat N] (by
        have e1 : (UInt8.ofNat (N / 256)).toNat = H := by rw [UInt8.toNat_ofNat']; omega
        have e2 : (UInt8.ofNat N).toNat = G := by rw [UInt8.toNat_ofNat']; omega
        simp [bv, e1, e2]) (by simp [maxLen]) _ rfl)
      clear hH hG hwo
      go_wp2_with (go_at_call 46; ((with_reducible refine (HO2.out _ _ _ HLT.out).mono ?_); intro e w2 h2; obtain ⟨A2, c2, rfl, r2, _, b2⟩ := newi_len h2; have R2 := Lib.hid r2; have B2 := Lib.hid ((B1.out.alloc B1.out.size _).trans (b2.mono (by have := B1.out.size; simp; omega))); clear h2 r2 b2))
      obtain ⟨E, hE⟩ : ∃ E, E = es.length := ⟨_, rfl⟩
      have R2' := Lib.hid (show Ri w2 A2 E c2 es by rw [hE]; exact R2.out)
      have hVE : V ≤ E := by rw [hE]; exact HL2.out
      have hcap := R2'.out.cap
      have hcs := fun X => run_cutIH (A := A2) (n := E) (c := c2) (m := V) (h := (V : Int)) rfl (by omega) X
      have hcs' := fun X => run_cutIHAt (A := A2) (n := E) (c := c2) (m := V) (h := (V : Int)) rfl (by omega) X
      have HRD := Lib.hid (show Rd w2.drew A n c xs from (HR.out.below B2.out).drew)
      have HD := Lib.hid (show Below W.heap.size W w2.drew from B2.out.drew)
      have RD := Lib.hid (show Ri w2.drew A2 E c2 es from R2'.out.drew)
      rw [← hE]
      clear hE hcap
      go_region_held3 (fun _ => True) (trivial) (first
        | (go_at_call 46; ((with_reducible refine (HOF.out _ HRD.out).mono ?_); intro e w3 h3; obtain ⟨A3, c3, rfl, r3, o3, b3⟩ := newi_len h3; have O3 := Lib.hid o3; have B3 := Lib.hid b3; have RE := Lib.hid (RD.out.below b3); clear h3 r3 o3 b3))
        | (refine step_append_ri (by rfl) (.tmp 42) (.tmp 45) (by rfl) w2.drew.heap.size _ ds.length ds (by rfl) O3.out A2 V c2 (es.take V) (by rfl) (RE.out.take hVE) (by omega) B3.out.size ?_; intro v4 w4 o4 g4 _; have O4 := Lib.hid o4; have B4 := Lib.hid (B3.out.grown g4 B3.out.size (fun g hg => (O3.out.lt g hg).1)); clear o4 g4)
        | fail)
      go_wp2
      go_ret
      exact NewI.mk (own_basei O4.out HD.out.size) (HD.out.trans (B4.out.mono HD.out.size))
end Go.Proofs.YtnejepidbahjdaaDoor.S7

/-
  What the document's own Sign of layer 15 does. No statement is proved here.
-/
namespace Go.Proofs.YtnejepidbahjdaaDoor.S15
set_option linter.unusedSimpArgs false
set_option linter.unusedVariables false
set_option maxRecDepth 1024
open Go.RowKit

/-- Rows one behind another. -/
def cat (U : Nat → List UInt8) : Nat → List UInt8
  | 0 => []
  | k + 1 => cat U k ++ U k
theorem cat_flat (U : Nat → List UInt8) : ∀ k, ((List.range k).map U).flatten = cat U k
  | 0 => rfl
  | k + 1 => by rw [List.range_succ, List.map_append, List.flatten_append, cat_flat U k]; simp [cat]
theorem cat_len (U : Nat → List UInt8) (h : ∀ k, (U k).length = 32) : ∀ k, (cat U k).length = 32 * k
  | 0 => rfl
  | k + 1 => by rw [cat, List.length_append, cat_len U h k, h]; omega
set_option maxHeartbeats 4000000 in
theorem rsign_core (As : Option Addr) (cs : Nat) (Al : Option Addr) (cl : Nat) (Ae : Option Addr) (ce : Nat) (ly tr qq : Nat) (At : Option Addr) (ct : Nat) (w : World) (S U : Nat → List UInt8) (ds : List Nat)
    (my : ∀ X, Calls Tryd.prog 11 #[.agg #[.slice As 32 cs, .slice Al 32 cl, .slice Ae 32 ce]] X fun e w' => e = .returned (.bool true) ∧ Below X.heap.size X w')
    (all : ∀ X, Below w.heap.size w X → Calls Tryd.prog 26 #[.slice At 32 ct, .int .i64 4] X (NewI X.heap.size X ds))
    (sec : ∀ (X : World) (k : Nat), Below w.heap.size w X → k < 67 → Calls Tryd.prog 23 #[.agg #[.slice As 32 cs, .slice Al 32 cl, .slice Ae 32 ce], .agg #[.int .u32 (ly : Int), .int .u64 (tr : Int), .int .u32 0, .int .u32 (qq : Int), .int .u32 0, .int .u32 0], .int .i64 (k : Int)] X (New X.heap.size X (S k)))
    (up : ∀ (X : World) (k : Nat) (B : Option Addr) (cB : Nat), Below w.heap.size w X → k < 67 → Rd X B 32 cB (S k) → Calls Tryd.prog 22 #[.slice Ae 32 ce, .agg #[.int .u32 (ly : Int), .int .u64 (tr : Int), .int .u32 0, .int .u32 (qq : Int), .int .u32 0, .int .u32 0], .int .i64 (k : Int), .int .i64 0, .int .i64 ((ds.getD k 0 : Nat) : Int), .slice B 32 cB] X (New X.heap.size X (U k)))
    (sl : ∀ k, (S k).length = 32) (ul : ∀ k, (U k).length = 32) (dl : ds.length = 67) :
    Calls Tryd.prog 16 #[.agg (mkA As 32 cs Al 32 cl Ae 32 ce), .int .u32 (ly : Int), .int .u64 (tr : Int), .int .u32 (qq : Int), .slice At 32 ct] w (New w.heap.size w (cat U 67)) := by
  have MY := Lib.hid my
  have ALL := Lib.hid all
  have SEC := Lib.hid sec
  have UP := Lib.hid up
  have SL := Lib.hid sl
  have UL := Lib.hid ul
  have DL := Lib.hid dl
  have CL := Lib.hid (cat_len U ul)
  clear my all sec up sl ul dl
  obtain ⟨g, hg⟩ : ∃ g, g = w.heap.size := ⟨_, rfl⟩
  go_enter Tryd.func16, Tryd.ntmps16
  go_upto_region 1 with (fail)
  obtain ⟨w0, hw0⟩ : ∃ w0, w.alloc (.cells (mkA As 32 cs Al 32 cl Ae 32 ce) 24) = w0 := ⟨_, rfl⟩
  have M0 := Lib.hid (show Bk w0 g 24 (mkA As 32 cs Al 32 cl Ae 32 ce) by rw [← hw0, hg]; exact Bk.new _ _ _)
  have B0 := Lib.hid (show Below w.heap.size w w0 by rw [← hw0]; exact (Below.refl _ _).alloc (Nat.le_refl _) _)
  first
    | rw [hw0, ← hg]
    | (trace_state; fail)
  have k0 : w0.cell? ⟨g, 0, none⟩ = some (.slice As 32 cs) := M0.out.cell 0
  have k1 : w0.cell? ⟨g, 1, none⟩ = some (.slice Al 32 cl) := M0.out.cell 1
  have k2 : w0.cell? ⟨g, 2, none⟩ = some (.slice Ae 32 ce) := M0.out.cell 2
  clear hw0 hg
  go_upto_region 4 with (go_at_call 11; ((with_reducible refine (MY.out _).mono ?_); rintro e w1 ⟨rfl, b1⟩; have B1 := Lib.hid (B0.out.trans (b1.mono B0.out.size)); have M1 := Lib.hid (M0.out.below b1 M0.out.lt); clear b1))
  go_upto_region 5 with (fail)
  obtain ⟨d, hd⟩ : ∃ d, w1.heap.size = d := ⟨_, rfl⟩
  obtain ⟨w2, hw2⟩ : ∃ w2, w1.alloc (.cells (qA ly tr qq) 47) = w2 := ⟨_, rfl⟩
  have D2 := Lib.hid (show Bk w2 d 47 (qA ly tr qq) by rw [← hw2]; exact Bk.newAt _ _ _ _ hd)
  have M2 := Lib.hid (show Bk w2 g 24 (mkA As 32 cs Al 32 cl Ae 32 ce) by rw [← hw2]; exact M1.out.alloc _)
  have B2 := Lib.hid (show Below w.heap.size w w2 by rw [← hw2]; exact B1.out.alloc B1.out.size _)
  first
    | rw [hw2, hd]
    | (trace_state; fail)
  clear hw2 hd k0 k1 k2
  go_upto_region 6 with (go_at_call 26; ((with_reducible refine (ALL.out _ B2.out).mono ?_); intro e w3 h3; obtain ⟨A3, c3, rfl, r3, _, b3⟩ := newi_len h3; rw [DL.out] at r3; have B3 := Lib.hid (B2.out.trans (b3.mono B2.out.size)); have M3 := Lib.hid (M2.out.below b3 M2.out.lt); have D3 := Lib.hid (D2.out.below b3 D2.out.lt); clear b3 h3; rw [DL.out]))
  obtain ⟨b, off, rfl, hb, hc⟩ := r3.at_ (by omega)
  have HC := Lib.hid hc
  have HBL := Lib.hid hb
  clear hc hb r3
  go_wp2_with (fail)
  obtain ⟨wo, rfl⟩ : ∃ wo : World, wo = w3 := ⟨_, rfl⟩
  go_loopw [11, 14] (fun v i wr => ∃ k : Nat, k ≤ 67 ∧ i = .int .i64 (k : Int) ∧ wr.ownsRow wo.heap.size 5 1 v (32 * k) (bv (cat U k)) ∧ Below wo.heap.size wo wr) (fun _ i _ => 67 - (intOf i).toNat)
  case atStart => exact ⟨0, by omega, rfl, by simpa [bv, cat] using World.ownsRow_nil _ _ _ _, Below.refl _ _⟩
  case round =>
    obtain ⟨k, hk, rfl, hown, hbel⟩ := hrel
    obtain ⟨Av, cv, rfl⟩ := own_form hown
    have HO3 := Lib.hid hown
    have HB3 := Lib.hid hbel
    clear hown hbel
    by_cases hlt : k < 67
    · have T0 : (k : Int) < 67 := by omega
      have T1 : (0 : Int) ≤ (k : Int) := by omega
      obtain ⟨x, hx⟩ : ∃ x, x = ds.getD k 0 := ⟨_, rfl⟩
      have UPK := Lib.hid (fun (X : World) (B : Option Addr) (cB : Nat) (h1 : Below w.heap.size w X) (h2 : Rd X B 32 cB (S k)) => UP.out X k B cB h1 hlt h2)
      have HCK := HC.out k hlt
      rw [← hx] at UPK HCK
      have KP := Lib.hid (show ∀ w', Below wo.heap.size wo w' → w'.cell? ⟨g, 0, none⟩ = some (.slice As 32 cs) ∧ w'.cell? ⟨g, 1, none⟩ = some (.slice Al 32 cl) ∧ w'.cell? ⟨g, 2, none⟩ = some (.slice Ae 32 ce) ∧ w'.cell? ⟨d, 0, none⟩ = some (.int .u32 (ly : Int)) ∧ w'.cell? ⟨d, 1, none⟩ = some (.int .u64 (tr : Int)) ∧ w'.cell? ⟨d, 2, none⟩ = some (.int .u32 0) ∧ w'.cell? ⟨d, 3, none⟩ = some (.int .u32 (qq : Int)) ∧ w'.cell? ⟨d, 4, none⟩ = some (.int .u32 0) ∧ w'.cell? ⟨d, 5, none⟩ = some (.int .u32 0) ∧ w'.cell? ⟨b, off + k, none⟩ = some (.int .i64 (x : Int)) from by
        intro w' hw'
        obtain ⟨a0, a1, a2, a3, a4, a5, a6, a7, a8⟩ := keep9 (M3.out.below hw' M3.out.lt) (D3.out.below hw' D3.out.lt)
        exact ⟨a0, a1, a2, a3, a4, a5, a6, a7, a8, (hw'.cell (p := ⟨b, off + k, none⟩) HBL.out).trans HCK⟩)
      have BW := Lib.hid (show ∀ w', Below wo.heap.size wo w' → Below w.heap.size w w' from fun w' hw' => B3.out.trans (hw'.mono B3.out.size))
      clear hx HCK
      go_upto_region 9 with (fail)
      (go_region_held3 (fun w' => w'.cell? ⟨g, 0, none⟩ = some (.slice As 32 cs) ∧ w'.cell? ⟨g, 1, none⟩ = some (.slice Al 32 cl) ∧ w'.cell? ⟨g, 2, none⟩ = some (.slice Ae 32 ce) ∧ w'.cell? ⟨d, 0, none⟩ = some (.int .u32 (ly : Int)) ∧ w'.cell? ⟨d, 1, none⟩ = some (.int .u64 (tr : Int)) ∧ w'.cell? ⟨d, 2, none⟩ = some (.int .u32 0) ∧ w'.cell? ⟨d, 3, none⟩ = some (.int .u32 (qq : Int)) ∧ w'.cell? ⟨d, 4, none⟩ = some (.int .u32 0) ∧ w'.cell? ⟨d, 5, none⟩ = some (.int .u32 0) ∧ w'.cell? ⟨b, off + k, none⟩ = some (.int .i64 (x : Int)))
        (first
          | exact KP.out _ B6.out
          | exact KP.out _ B5.out
          | exact KP.out _ B4.out
          | exact KP.out _ HB3.out.drew)
        (first
          | (go_at_call 23; ((with_reducible refine (SEC.out _ k (BW.out _ HB3.out.drew) hlt).mono ?_)); rintro e w4 ⟨A4, n4, c4, rfl, q4, b4⟩; obtain rfl : n4 = 32 := (own_len q4).symm.trans (SL.out k); have O4 := Lib.hid (Rd.own q4); have B4 := Lib.hid ((HB3.out.drew).trans (b4.mono HB3.out.size)); have V4 := Lib.hid (own_below (own_below HO3.out (Below.refl _ _).drew) b4); clear q4 b4)
          | (go_at_call 22; ((with_reducible refine (UPK.out _ A4 c4 (BW.out _ B4.out) O4.out).mono ?_)); rintro e w5 ⟨A5, n5, c5, rfl, q5, b5⟩; obtain rfl : n5 = 32 := (own_len q5).symm.trans (UL.out k); have O5 := Lib.hid (Rd.own q5); have B5 := Lib.hid ((B4.out).trans (b5.mono B4.out.size)); have V5 := Lib.hid (own_below V4.out b5); clear q5 b5)
          | (refine step_append_rd (by rfl) (.tmp 33) (.tmp 46) (by rfl) wo.heap.size (.slice Av (32 * k) cv) (32 * k) (cat U k) (by rfl) V5.out A5 32 c5 (U k) (by rfl) O5.out (by omega) B5.out.size ?_; intro v6 w6 o6 g6 at6; have B6 := Lib.hid (B5.out.grown g6 B5.out.size (fun q hq => (V5.out.lt q hq).1)); have O6 := Lib.hid o6; clear o6 g6 at6)
          | fail))
      go_wp2
      go_roundw
      case rel => exact ⟨k + 1, by omega, by go_num, by rw [Nat.mul_succ]; exact O6.out, B6.out⟩
      case measure => simp [intOf]; omega
    · obtain rfl : k = 67 := by omega
      have HO4 := Lib.hid (own_base HO3.out B3.out.size)
      have HB4 := Lib.hid (B3.out.trans (HB3.out.mono B3.out.size))
      clear hlt hk
      go_wp2
      go_ret
      exact New.mk HO4.out HB4.out
theorem sig_cat (sec sd : List UInt8) (D : Ad) (text : List UInt8) : signL sec sd D text = cat (fun k => upL sd D k 0 ((S7.allL 4 text).getD k 0) (secL sec D k)) 67 := by
  rw [← cat_flat]
  rfl
theorem all_67 (text : List UInt8) (h : text.length = 32) : (S7.allL 4 text).length = 67 := by
  rw [S7.allL_length 4 (by unfold S7.wid; omega) text (by omega) (by omega), h]
  decide
theorem rsign_may (As : Option Addr) (cs : Nat) (sec : List UInt8) (Al : Option Addr) (cl : Nat) (Ae : Option Addr) (ce : Nat) (sd : List UInt8) (ly tr qq : Nat) (At : Option Addr) (ct : Nat) (text : List UInt8) (w : World) (hs : Rd w As 32 cs sec) (he : Rd w Ae 32 ce sd) (ht : Rd w At 32 ct text) (h1 : ly < 4294967296) (h2 : tr < 18446744073709551616) (h3 : qq < 4294967296) :
    Calls Tryd.prog 16 #[.agg (mkA As 32 cs Al 32 cl Ae 32 ce), .int .u32 (ly : Int), .int .u64 (tr : Int), .int .u32 (qq : Int), .slice At 32 ct] w (New w.heap.size w (signL sec sd (adQ ly tr qq) text)) := by
  have DOk : (adQ ly tr qq).Ok := ⟨h1, h2, by show 0 < _; omega, h3, by show 0 < _; omega, by show 0 < _; omega⟩
  rw [sig_cat]
  exact rsign_core As cs Al cl Ae ce ly tr qq At ct w (fun k => secL sec (adQ ly tr qq) k) (fun k => upL sd (adQ ly tr qq) k 0 ((S7.allL 4 text).getD k 0) (secL sec (adQ ly tr qq) k)) (S7.allL 4 text)
    (fun X => rmay_any15 As 32 cs Al 32 cl Ae 32 ce X)
    (fun X hX => S7.rall_any At 32 ct text 4 X (ht.below hX) (by unfold S7.wid; omega) (by omega) (by omega))
    (fun X k hX hk => rsec_any (adQ ly tr qq) DOk k (by omega) As cs sec Al 32 cl Ae 32 ce X (hs.below hX))
    (fun X k B cB hX hk hz => rup_any (adQ ly tr qq) DOk k 0 ((S7.allL 4 text).getD k 0) (by omega) (by have := all_le (text := text) k; omega) Ae ce sd B cB _ X (he.below hX) hz (by omega))
    (fun k => num_len _ _ _) (fun k => up_len _ _ _ _ _ _ (num_len _ _ _)) (all_67 text ht.len)
end Go.Proofs.YtnejepidbahjdaaDoor.S15
