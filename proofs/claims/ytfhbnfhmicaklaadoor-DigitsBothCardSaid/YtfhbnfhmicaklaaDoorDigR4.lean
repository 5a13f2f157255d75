/-
  What the document's own calls of layer 7 do, on: All. No statement is proved here.
-/
import Derived.Test.YtfhbnfhmicaklaaDoorDigR3
import Derived.Deep.RegionHeld3
namespace Go.Proofs.YtfhbnfhmicaklaaDoor.S7
set_option linter.unusedSimpArgs false
set_option linter.unusedVariables false
open Go.RowKit

theorem rall_none (A : Option Addr) (n c : Nat) (w : Int) (W : World) (h : okS n w = false) (hm : n ≤ maxLen) :
    Calls Tryd.prog 19 #[.slice A n c, .int .i64 w] W fun e w' => e = .returned (.slice none 0 0) ∧ W = w' := by
  have HS := Lib.hid (fun X => rshape_none n w X h)
  unfold maxLen at hm
  clear h
  go_enter Tryd.func19, Tryd.ntmps19
  go_wp2_with (go_at_call 10; ((with_reducible refine (HS.out _).mono ?_); rintro e w2 ⟨rfl, rfl⟩))
  go_ret
  exact ⟨rfl, rfl⟩
set_option maxHeartbeats 2000000 in
theorem rall_any (A : Option Addr) (n c : Nat) (xs : List UInt8) (v : Nat) (W : World) (hr : Rd W A n c xs) (hv : wid v) (h0 : 1 ≤ n) (h1 : n ≤ 64) :
    Calls Tryd.prog 19 #[.slice A n c, .int .i64 (v : Int)] W (NewI W.heap.size W (allL v xs)) := by
  have hl := hr.len
  obtain ⟨k1, k2, k3⟩ := lack_val v hv xs (by omega) (by omega)
  have hS := fun X => rshape_any n v X h0 h1 hv
  have HLK := Lib.hid (fun X h => rlack_any A n c xs v X h hv (by omega))
  have HOF := Lib.hid (fun X h => rof_any A n c xs v X h hv (by omega))
  obtain ⟨_, _, f3, f4, _⟩ := shape_facts n v hv h0 h1
  have hw8 := wid_div hv
  obtain ⟨U, hU⟩ : ∃ U, U = shU n v := ⟨_, rfl⟩
  obtain ⟨V, hV⟩ : ∃ V, V = shV n v := ⟨_, rfl⟩
  obtain ⟨L, hL⟩ : ∃ L, L = shL n v := ⟨_, rfl⟩
  obtain ⟨X0, hX0⟩ : ∃ X0, X0 = lk v (ofL v xs) := ⟨_, rfl⟩
  have hU1 : 1 ≤ U := by
    rw [hU, f4]
    have : 1 ≤ 8 / v := by rcases hv with h | h | h | h <;> subst h <;> decide
    exact Nat.le_trans this (Nat.le_mul_of_pos_left _ h0)
  obtain ⟨N, hN⟩ : ∃ N, N = X0 * 2 ^ L := ⟨_, rfl⟩
  have hN6 : N < 65536 := by rw [hN, hX0, hL, ← hl]; exact k1
  have HAL := Lib.hid (show allL v xs = ofL v xs ++ (ofL v [UInt8.ofNat (N / 256), UInt8.ofNat N]).take V by rw [allL, hN, hX0, hV, hL, hl])
  have HO2 := Lib.hid (fun X B d (h : Rd X B 2 d [UInt8.ofNat (N / 256), UInt8.ofNat N]) => rof_any B 2 d _ v X h hv (by omega))
  have HL2 := Lib.hid (show V ≤ (ofL v [UInt8.ofNat (N / 256), UInt8.ofNat N]).length by
    rw [ofL_length, hV, ← hl]
    refine Nat.le_trans k3 ?_
    show 16 / v ≤ 2 * (8 / v)
    rcases hv with h | h | h | h <;> subst h <;> decide)
  have hOL : (ofL v xs).length ≤ 1000 := by
    rw [ofL_length, hl]
    have : n * (8 / v) ≤ n * 8 := Nat.mul_le_mul_left _ (Nat.div_le_self _ _)
    omega
  have hV20 : V ≤ 16 := by
    have h9 := k3
    rw [hl, ← hV] at h9
    have : 16 / v ≤ 16 := Nat.div_le_self _ _
    omega
  rw [← hU, ← hV, ← hL] at hS
  have HSS := Lib.hid hS
  have HNN := Lib.hid hN
  have HR := Lib.hid hr
  rw [← hX0] at HLK
  obtain ⟨ds, hds⟩ : ∃ ds, ds = ofL v xs := ⟨_, rfl⟩
  obtain ⟨es, hes⟩ : ∃ es, es = ofL v [UInt8.ofNat (N / 256), UInt8.ofNat N] := ⟨_, rfl⟩
  rw [← hes] at HO2 HL2
  rw [← hds] at HOF hOL
  rw [← hds, ← hes] at HAL
  rw [HAL.out]
  have hLb : L ≤ 16 := by rw [hL]; unfold shL; omega
  clear hS hU hV hL hX0 hN k1 k2 k3 hr hds hes f3 f4 hw8 hl
  have uz : ¬ (U : Int) = 0 := by omega
  go_enter Tryd.func19, Tryd.ntmps19
  go_wp2_with (first
    | (go_at_call 10; ((with_reducible refine (HSS.out _).mono ?_); rintro e w2 ⟨rfl, rfl⟩))
    | (go_at_call 17; ((with_reducible refine (HLK.out _ HR.out).mono ?_); rintro e w1 ⟨rfl, b1⟩; have B1 := Lib.hid b1; clear b1)))
  go_loop [8, 9] (fun x i => ∃ j : Nat, j ≤ L ∧ i = .int .i64 (j : Int) ∧ x = .int .i64 ((X0 * 2 ^ j : Nat) : Int)) (fun _ i => L - (intOf i).toNat)
  case atStart => exact ⟨0, by omega, rfl, by simp⟩
  case round =>
    obtain ⟨j, hj, rfl, rfl⟩ := hrel
    have hle : X0 * 2 ^ j ≤ N := by rw [HNN.out]; exact Nat.mul_le_mul_left _ (Nat.pow_le_pow_right (by omega) hj)
    by_cases hlt : j < L
    · have i0 : (j : Int) < (L : Int) := by omega
      obtain ⟨P, hP⟩ : ∃ P, P = X0 * 2 ^ j := ⟨_, rfl⟩
      have HP := Lib.hid (show X0 * 2 ^ (j + 1) = 2 * P by rw [hP, Nat.pow_succ, ← Nat.mul_assoc, Nat.mul_comm])
      rw [← hP] at hle ⊢
      clear hP
      go_wp2
      go_round
      case rel => exact ⟨j + 1, by omega, by go_num, by rw [HP.out]; go_num⟩
      case measure => simp [intOf]; omega
    · obtain rfl : j = L := by omega
      have i0 : ¬ (j : Int) < (j : Int) := by omega
      rw [← HNN.out]
      clear hle
      obtain ⟨H, hH⟩ : ∃ H, H = N / 256 := ⟨_, rfl⟩
      obtain ⟨G, hG⟩ : ∃ G, G = N % 256 := ⟨_, rfl⟩
      have g1 : (N : Int) / 256 = (H : Int) := by omega
      have g2 : (N : Int).tdiv 256 = (H : Int) := by rw [Int.tdiv_eq_ediv_of_nonneg (by omega)]; exact g1
      have g3 : (N : Int) % 256 = (G : Int) := by omega
      have g4 : (N : Int).tmod 256 = (G : Int) := by rw [Int.tmod_eq_emod_of_nonneg (by omega)]; exact g3
      have g5 : IntKind.u8.wrap (H : Int) = (H : Int) := by rw [IntKind.wrap_u8]; omega
      have g6 : IntKind.u8.wrap (G : Int) = (G : Int) := by rw [IntKind.wrap_u8]; omega
      obtain ⟨wo, hwo⟩ : ∃ wo : World, wo = w1 := ⟨_, rfl⟩
      have HLT := Lib.hid (show Rd (w1.alloc (.cells #[.int .u8 (H : Int), .int .u8 (G : Int)] 5)) (some ⟨w1.heap.size, 0, none⟩) 2 2 [UInt8.ofNat (N / 256), UInt8.ofNat N] from rd_lit8 w1 #[.int .u8 (H : Int), .int .u8 (G : Int)] [UInt8.ofNat (N / 256), UInt8.ofNat N] (by
        have e1 : (UInt8.ofNat (N / 256)).toNat = H := by rw [UInt8.toNat_ofNat']; omega
        have e2 : (UInt8.ofNat N).toNat = G := by rw [UInt8.toNat_ofNat']; omega
        simp [bv, e1, e2]) (by simp [maxLen]) _ rfl)
      clear hH hG hwo
      go_wp2_with (go_at_call 15; ((with_reducible refine (HO2.out _ _ _ HLT.out).mono ?_); intro e w2 h2; obtain ⟨A2, c2, rfl, r2, _, b2⟩ := newi_len h2; have R2 := Lib.hid r2; have B2 := Lib.hid ((B1.out.alloc B1.out.size _).trans (b2.mono (by have := B1.out.size; simp; omega))); clear h2 r2 b2))
      obtain ⟨E, hE⟩ : ∃ E, E = es.length := ⟨_, rfl⟩
      have R2' := Lib.hid (show Ri w2 A2 E c2 es by rw [hE]; exact R2.out)
      have hVE : V ≤ E := by rw [hE]; exact HL2.out
      have hcap := R2'.out.cap
      have hcs := fun X => run_cutIH (A := A2) (n := E) (c := c2) (m := V) (h := (V : Int)) rfl (by omega) X
      have hcs' := fun X => run_cutIHAt (A := A2) (n := E) (c := c2) (m := V) (h := (V : Int)) rfl (by omega) X
      have HRD := Lib.hid (show Rd w2.drew A n c xs from (HR.out.below B2.out).drew)
      have HD := Lib.hid (show Below W.heap.size W w2.drew from B2.out.drew)
      have RD := Lib.hid (show Ri w2.drew A2 E c2 es from R2'.out.drew)
      rw [← hE]
      clear hE hcap
      go_region_held3 (fun _ => True) (trivial) (first
        | (go_at_call 15; ((with_reducible refine (HOF.out _ HRD.out).mono ?_); intro e w3 h3; obtain ⟨A3, c3, rfl, r3, o3, b3⟩ := newi_len h3; have O3 := Lib.hid o3; have B3 := Lib.hid b3; have RE := Lib.hid (RD.out.below b3); clear h3 r3 o3 b3))
        | (refine step_append_ri (by rfl) (.tmp 42) (.tmp 45) (by rfl) w2.drew.heap.size _ ds.length ds (by rfl) O3.out A2 V c2 (es.take V) (by rfl) (RE.out.take hVE) (by omega) B3.out.size ?_; intro v4 w4 o4 g4 _; have O4 := Lib.hid o4; have B4 := Lib.hid (B3.out.grown g4 B3.out.size (fun g hg => (O3.out.lt g hg).1)); clear o4 g4)
        | fail)
      go_wp2
      go_ret
      exact NewI.mk (own_basei O4.out HD.out.size) (HD.out.trans (B4.out.mono HD.out.size))
end Go.Proofs.YtfhbnfhmicaklaaDoor.S7
