/-
  The call of the statement DigitsTell of layer 7.
-/
import Derived.Test.YtfhbnfhmicaklaaDoorDigW
import Derived.RegionTactic
namespace Go.Proofs.YtfhbnfhmicaklaaDoor.S7
set_option linter.unusedSimpArgs false
set_option linter.unusedVariables false
open Go.RowKit

theorem own_nz {w : World} {B e n : Nat} {v : Value} {xs : List UInt8} (h : w.ownsRow B e 1 v (0 + n) (bv ([] ++ xs))) : w.ownsRow B e 1 v n (bv xs) := by simpa using h
set_option maxHeartbeats 4000000 in
theorem digitsTell_walk (M : DC) (W : World) (hk : M.ok W) (A : Option Addr) (n c : Nat) (xs : List UInt8) (hr : Rd W A n c xs) (w m : Int) :
    Calls Tryd.prog 3 #[.slice A n c, .int .i64 w, .int .i64 m] W fun e w' => e = .returned (.bool true) ∧ Below W.heap.size W w' := by
  have HK := Lib.hid hk
  have HR := Lib.hid hr
  have lm : n ≤ maxLen := Nat.le_trans hr.cap hr.max
  unfold maxLen at lm
  clear hk hr
  by_cases hn : n ≤ 2000
  · have i0 : ¬ 2000 < (n : Int) := by omega
    obtain ⟨s1, hs1⟩ : ∃ s, s = (shW m w).1 := ⟨_, rfl⟩
    obtain ⟨s2, hs2⟩ : ∃ s, s = (shW m w).2.1 := ⟨_, rfl⟩
    obtain ⟨s3, hs3⟩ : ∃ s, s = (shW m w).2.2 := ⟨_, rfl⟩
    obtain ⟨D, hD⟩ : ∃ D, D = ofW w xs := ⟨_, rfl⟩
    obtain ⟨E, hE⟩ : ∃ E, E = allW w xs := ⟨_, rfl⟩
    obtain ⟨K, hK⟩ : ∃ K, K = lackW w xs := ⟨_, rfl⟩
    obtain ⟨mb, hmb⟩ : ∃ b, b = mayB w := ⟨_, rfl⟩
    have HS := Lib.hid (show ∀ X, M.ok X → Calls Tryd.prog 9 #[.int .i64 m, .int .i64 w] X fun e w' => e = .returned (.tuple #[.int .i64 (s1 : Int), .int .i64 (s2 : Int), .int .i64 (s3 : Int)]) ∧ Below X.heap.size X w' from fun X g => by rw [hs1, hs2, hs3]; exact M.shape m w X g)
    have HSR := Lib.hid (show ∀ X, Calls Tryd.prog 10 #[.int .i64 m, .int .i64 w] X fun e w' => e = .returned (.tuple #[.int .i64 (s1 : Int), .int .i64 (s2 : Int), .int .i64 (s3 : Int)]) ∧ X = w' from fun X => by rw [hs1, hs2, hs3]; exact rshapeW m w X)
    have HM := Lib.hid (show ∀ X, M.ok X → Calls Tryd.prog 11 #[.int .i64 w] X fun e w' => e = .returned (.bool mb) ∧ Below X.heap.size X w' from fun X g => by rw [hmb]; exact M.may w X g)
    have HMR := Lib.hid (show ∀ X, Calls Tryd.prog 12 #[.int .i64 w] X fun e w' => e = .returned (.bool mb) ∧ X = w' from fun X => by rw [hmb]; exact rmay_any w X)
    have HO := Lib.hid (show ∀ X B d, M.ok X → Rd X B n d xs → Calls Tryd.prog 14 #[.slice B n d, .int .i64 w] X (GivesI X.heap.size X D) from fun X B d g h => by rw [hD]; exact M.of B n d xs w X g h (by omega))
    have HOR := Lib.hid (show ∀ X, Rd X A n c xs → Calls Tryd.prog 15 #[.slice A n c, .int .i64 w] X (GivesI X.heap.size X D) from fun X h => by rw [hD]; exact rofW A n c xs w X h (by omega))
    have HL := Lib.hid (show ∀ X B d, M.ok X → Rd X B n d xs → Calls Tryd.prog 16 #[.slice B n d, .int .i64 w] X fun e w' => e = .returned (.int .i64 (K : Int)) ∧ Below X.heap.size X w' from fun X B d g h => by rw [hK]; exact M.lack B n d xs w X g h (by omega))
    have HLR := Lib.hid (show ∀ X, Rd X A n c xs → Calls Tryd.prog 17 #[.slice A n c, .int .i64 w] X fun e w' => e = .returned (.int .i64 (K : Int)) ∧ Below X.heap.size X w' from fun X h => by rw [hK]; exact rlackW A n c xs w X h (by omega))
    have HA := Lib.hid (show ∀ X B d, M.ok X → Rd X B n d xs → Calls Tryd.prog 18 #[.slice B n d, .int .i64 w] X (GivesI X.heap.size X E) from fun X B d g h => by rw [hE]; exact M.all B n d xs w X g h (by omega))
    have HAR := Lib.hid (show ∀ X, Rd X A n c xs → Calls Tryd.prog 19 #[.slice A n c, .int .i64 w] X (GivesI X.heap.size X E) from fun X h => by rw [hE]; exact rallW A n c xs w X h)
    have qm : (mb != mb) = false := by simp
    clear hs1 hs2 hs3 hD hE hK hmb
    go_enter Tryd.func3, Tryd.ntmps3
    go_wp2_with (first
      | (go_at_call 8; ((with_reducible refine (awake_true M _ HK.out).mono ?_); rintro e w1 ⟨rfl, b1⟩; have B1 := Lib.hid b1; clear b1))
      | (at_builtin; refine append_rd rfl (.tmp 20) (.tmp 21) rfl w1.heap.size (.slice (some ⟨w1.heap.size, 0, none⟩) 0 0) 0 [] rfl (own_lit8 w1 w1.heap.size [] (Nat.le_refl _) (by simp [maxLen])) A n c xs rfl ((HR.out.below B1.out).alloc _) (by omega) (by simp) ?_; intro v2 w2 o2 g2; have B2 := Lib.hid ((B1.out.alloc B1.out.size _).grown g2 (by have := B1.out.size; simp; omega) (fun k hk => by have := B1.out.size; simp [Value.ownBlock] at hk; omega)); have O2 := Lib.hid (own_nz (show w2.ownsRow w1.heap.size 5 1 v2 (0 + n) (bv ([] ++ xs)) from o2)); clear o2 g2; obtain ⟨A2, c2, rfl⟩ := own_form O2.out; have RO := Lib.hid (Rd.own O2.out))
      | (go_at_call 9; ((with_reducible refine (HS.out w2 (M.bel HK.out B2.out)).mono ?_); rintro e w3 ⟨rfl, b3⟩; have B3 := Lib.hid (B2.out.trans (b3.mono B2.out.size)); have C3 := Lib.hid b3; clear b3))
      | (go_at_call 10; ((with_reducible refine (HSR.out _).mono ?_); rintro e w4 ⟨rfl, rfl⟩))
      | (go_at_call 11; ((with_reducible refine (HM.out w3 (M.bel HK.out B3.out)).mono ?_); rintro e w4 ⟨rfl, b4⟩; have B4 := Lib.hid (B3.out.trans (b4.mono B3.out.size)); have C4 := Lib.hid (C3.out.trans (b4.mono C3.out.size)); clear b4))
      | (go_at_call 12; ((with_reducible refine (HMR.out _).mono ?_); rintro e w5 ⟨rfl, rfl⟩))
      | (go_at_call 14; ((with_reducible refine (HO.out w4 A2 c2 (M.bel HK.out B4.out) (RO.out.below C4.out)).mono ?_); intro e w5 h5; obtain ⟨A5, c5, rfl, r5, b5⟩ := h5; have R5 := Lib.hid r5; have B5 := Lib.hid (B4.out.trans (b5.mono B4.out.size)); have C5 := Lib.hid (C4.out.trans (b5.mono C4.out.size)); clear r5 b5))
      | (go_at_call 15; ((with_reducible refine (HOR.out w5 (HR.out.below B5.out)).mono ?_); intro e w6 h6; obtain ⟨A6, c6, rfl, r6, b6⟩ := h6; have R6 := Lib.hid r6; have Q6 := Lib.hid (R5.out.below b6); have B6 := Lib.hid (B5.out.trans (b6.mono B5.out.size)); have C6 := Lib.hid (C5.out.trans (b6.mono C5.out.size)); clear r6 b6))
      | (go_at_call 13; ((with_reducible refine (rints_true A5 A6 D.length c5 c6 D w6 Q6.out R6.out).mono ?_); rintro e w7 ⟨rfl, b7⟩; have B7 := Lib.hid (B6.out.trans (b7.mono B6.out.size)); have C7 := Lib.hid (C6.out.trans (b7.mono C6.out.size)); clear b7))
      | (go_at_call 16; ((with_reducible refine (HL.out w7 A2 c2 (M.bel HK.out B7.out) (RO.out.below C7.out)).mono ?_); rintro e w8 ⟨rfl, b8⟩; have B8 := Lib.hid (B7.out.trans (b8.mono B7.out.size)); have C8 := Lib.hid (C7.out.trans (b8.mono C7.out.size)); clear b8))
      | (go_at_call 17; ((with_reducible refine (HLR.out w8 (HR.out.below B8.out)).mono ?_); rintro e w9 ⟨rfl, b9⟩; have B9 := Lib.hid (B8.out.trans (b9.mono B8.out.size)); have C9 := Lib.hid (C8.out.trans (b9.mono C8.out.size)); clear b9))
      | (go_at_call 18; ((with_reducible refine (HA.out w9 A2 c2 (M.bel HK.out B9.out) (RO.out.below C9.out)).mono ?_); intro e w10 h10; obtain ⟨A10, c10, rfl, r10, b10⟩ := h10; have R10 := Lib.hid r10; have B10 := Lib.hid (B9.out.trans (b10.mono B9.out.size)); have C10 := Lib.hid (C9.out.trans (b10.mono C9.out.size)); clear r10 b10))
      | (go_at_call 19; ((with_reducible refine (HAR.out w10 (HR.out.below B10.out)).mono ?_); intro e w11 h11; obtain ⟨A11, c11, rfl, r11, b11⟩ := h11; have R11 := Lib.hid r11; have Q11 := Lib.hid (R10.out.below b11); have B11 := Lib.hid (B10.out.trans (b11.mono B10.out.size)); have C11 := Lib.hid (C10.out.trans (b11.mono C10.out.size)); clear r11 b11))
      | (go_at_call 13; ((with_reducible refine (rints_true A10 A11 E.length c10 c11 E w11 Q11.out R11.out).mono ?_); rintro e w12 ⟨rfl, b12⟩; have B12 := Lib.hid (B11.out.trans (b12.mono B11.out.size)); have C12 := Lib.hid (C11.out.trans (b12.mono C11.out.size)); clear b12)))
    have r1 := RO.out.below C12.out
    have r2 := HR.out.below B12.out
    have HB12 := Lib.hid B12.out
    clear qm
    go_loopw [14] (fun i wr => ∃ k q : Nat, k ≤ n ∧ i = .int .i64 (k : Int) ∧ wr = w12.drewN q) (fun i _ => n - (intOf i).toNat)
    case atStart => exact ⟨0, 0, Nat.zero_le _, rfl, rfl⟩
    case round =>
      obtain ⟨k, q, hk, rfl, rfl⟩ := hrel
      by_cases hlt : k < n
      · obtain ⟨b1, o1, rfl, hb1, hc1⟩ := r1.at_ (by omega)
        obtain ⟨b2, o2, rfl, hb2, hc2⟩ := r2.at_ (by omega)
        have g1 := hc1 k hlt
        have g2 := hc2 k hlt
        have hki : (k : Int) < n := by omega
        obtain ⟨d, hd⟩ : ∃ d, d = (xs.getD k 0).toNat := ⟨_, rfl⟩
        rw [← hd] at g1 g2
        clear hc1 hc2 hd r1 r2
        go_wp2
        go_region
        go_wp2
        go_roundw
        case rel => exact ⟨k + 1, q + 1, by omega, by go_num, rfl⟩
        case measure => simp [intOf]; omega
      · obtain rfl : k = n := by omega
        clear r1 r2
        go_wp2
        go_ret
        exact ⟨rfl, below_drewN HB12.out q⟩
  · have i0 : 2000 < (n : Int) := by omega
    go_enter Tryd.func3, Tryd.ntmps3
    go_wp2_with (go_at_call 8; ((with_reducible refine (awake_true M _ HK.out).mono ?_); rintro e w1 ⟨rfl, b1⟩; have B1 := Lib.hid b1; clear b1))
    go_ret
    exact ⟨rfl, B1.out⟩
end Go.Proofs.YtfhbnfhmicaklaaDoor.S7
