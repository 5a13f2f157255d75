/-
  The call of the statement MacKinds of layer 6.
-/
import Derived.Test.YtjgcaodicbikiaaDoorMacA
namespace Go.Proofs.YtjgcaodicbikiaaDoor.S6
set_option linter.unusedSimpArgs false
set_option linter.unusedVariables false
open Go.RowKit

set_option maxHeartbeats 4000000 in
set_option maxRecDepth 20000 in
theorem macKinds_walk (M : MC) (w : World) (hk : M.ok w) (k : Int) (A : Option Addr) (n c : Nat) (xs : List UInt8) (hr : Rd w A n c xs) :
    Calls Tryd.prog 6 #[.int .i64 k, .slice A n c] w fun e w' => e = .returned (.bool true) ∧ Below w.heap.size w w' := by
  have HK := Lib.hid hk
  have HR := Lib.hid hr
  have lm : n ≤ maxLen := Nat.le_trans hr.cap hr.max
  unfold maxLen at lm
  clear hr hk
  by_cases hn : n ≤ 1000
  · have i0 : ¬ 1000 < (n : Int) := by omega
    obtain ⟨U0, hU0⟩ : ∃ U, U = sumK 0 xs := ⟨_, rfl⟩
    obtain ⟨U1, hU1⟩ : ∃ U, U = sumK 1 xs := ⟨_, rfl⟩
    have HM0 := Lib.hid (show ∀ X, M.ok X → Rd X A n c xs → Calls Tryd.prog 12 #[.int .i64 0, .slice A n c] X (Gives X.heap.size X U0) from fun X g h => by rw [hU0]; exact M.sum 0 A n c xs X g h (by omega))
    have HM1 := Lib.hid (show ∀ X, M.ok X → Rd X A n c xs → Calls Tryd.prog 12 #[.int .i64 1, .slice A n c] X (Gives X.heap.size X U1) from fun X g h => by rw [hU1]; exact M.sum 1 A n c xs X g h (by omega))
    have HO2 := Lib.hid (show ∀ X, M.ok X → Rd X A n c xs → Calls Tryd.prog 18 #[.slice A n c] X (Gives X.heap.size X U0) from fun X g h => by rw [hU0]; exact M.one2 A n c xs X g h (by omega))
    have HO5 := Lib.hid (show ∀ X, M.ok X → Rd X A n c xs → Calls Tryd.prog 19 #[.slice A n c] X (Gives X.heap.size X U1) from fun X g h => by rw [hU1]; exact M.one5 A n c xs X g h (by omega))
    have L0 := Lib.hid (show U0.length = 32 by rw [hU0, sumK_length]; rfl)
    have L1 := Lib.hid (show U1.length = 64 by rw [hU1, sumK_length]; rfl)
    clear hU0 hU1
    by_cases h0 : k = 0
    · subst h0
      have HS := Lib.hid (show ∀ X, M.ok X → Calls Tryd.prog 9 #[.int .i64 0] X fun e w' => e = .returned (.tuple #[.int .i64 32, .int .i64 64]) ∧ Below X.heap.size X w' from fun X g => M.size 0 X g)
      go_enter Tryd.func6, Tryd.ntmps6
      go_wp2_with (first
        | (go_at_call 8; ((with_reducible refine (awake_true M _ HK.out).mono ?_); rintro e w1 ⟨rfl, b1⟩; have B1 := Lib.hid b1; clear b1))
        | (go_at_call 9; ((with_reducible refine (HS.out _ (M.bel HK.out B1.out)).mono ?_); rintro e w2 ⟨rfl, b2⟩; have B2 := Lib.hid (B1.out.trans (b2.mono B1.out.size)); clear b2))
        | (go_at_call 12; ((with_reducible refine (HM0.out w2 (M.bel HK.out B2.out) (HR.out.below B2.out)).mono ?_); intro e w3 h3; obtain ⟨A3, c3, rfl, r3, b3⟩ := h3; have B3 := Lib.hid (B2.out.trans (b3.mono B2.out.size)); rw [L0.out]; clear r3 b3))
        | (go_at_call 12; ((with_reducible refine (HM0.out w3 (M.bel HK.out B3.out) (HR.out.below B3.out)).mono ?_); intro e w4 h4; obtain ⟨A4, c4, rfl, r4, b4⟩ := h4; have R4 := Lib.hid r4; have B4 := Lib.hid (B3.out.trans (b4.mono B3.out.size)); clear r4 b4))
        | (go_at_call 18; ((with_reducible refine (HO2.out w4 (M.bel HK.out B4.out) (HR.out.below B4.out)).mono ?_); intro e w5 h5; obtain ⟨A5, c5, rfl, r5, b5⟩ := h5; have R5 := Lib.hid r5; have Q5 := Lib.hid (R4.out.below b5); have B5 := Lib.hid (B4.out.trans (b5.mono B4.out.size)); clear r5 b5))
        | (go_at_call 11; ((with_reducible refine (rsame_true A4 A5 U0.length c4 U0.length c5 U0 U0 w5 Q5.out R5.out rfl).mono ?_); rintro e w6 ⟨rfl, b6⟩; have B6 := Lib.hid (B5.out.trans (b6.mono B5.out.size)); clear b6))
        | (go_at_call 12; ((with_reducible refine (HM1.out w6 (M.bel HK.out B6.out) (HR.out.below B6.out)).mono ?_); intro e w7 h7; obtain ⟨A7, c7, rfl, r7, b7⟩ := h7; have R7 := Lib.hid r7; have B7 := Lib.hid (B6.out.trans (b7.mono B6.out.size)); clear r7 b7))
        | (go_at_call 19; ((with_reducible refine (HO5.out w7 (M.bel HK.out B7.out) (HR.out.below B7.out)).mono ?_); intro e w8 h8; obtain ⟨A8, c8, rfl, r8, b8⟩ := h8; have R8 := Lib.hid r8; have Q8 := Lib.hid (R7.out.below b8); have B8 := Lib.hid (B7.out.trans (b8.mono B7.out.size)); clear r8 b8))
        | (go_at_call 11; ((with_reducible refine (rsame_true A7 A8 U1.length c7 U1.length c8 U1 U1 w8 Q8.out R8.out rfl).mono ?_); rintro e w9 ⟨rfl, b9⟩; have B9 := Lib.hid (B8.out.trans (b9.mono B8.out.size)); clear b9)))
      go_ret
      exact ⟨rfl, B9.out⟩
    · by_cases h1 : k = 1
      · subst h1
        clear h0
        have HS := Lib.hid (show ∀ X, M.ok X → Calls Tryd.prog 9 #[.int .i64 1] X fun e w' => e = .returned (.tuple #[.int .i64 64, .int .i64 128]) ∧ Below X.heap.size X w' from fun X g => M.size 1 X g)
        go_enter Tryd.func6, Tryd.ntmps6
        go_wp2_with (first
          | (go_at_call 8; ((with_reducible refine (awake_true M _ HK.out).mono ?_); rintro e w1 ⟨rfl, b1⟩; have B1 := Lib.hid b1; clear b1))
          | (go_at_call 9; ((with_reducible refine (HS.out _ (M.bel HK.out B1.out)).mono ?_); rintro e w2 ⟨rfl, b2⟩; have B2 := Lib.hid (B1.out.trans (b2.mono B1.out.size)); clear b2))
          | (go_at_call 12; ((with_reducible refine (HM1.out w2 (M.bel HK.out B2.out) (HR.out.below B2.out)).mono ?_); intro e w3 h3; obtain ⟨A3, c3, rfl, r3, b3⟩ := h3; have B3 := Lib.hid (B2.out.trans (b3.mono B2.out.size)); rw [L1.out]; clear r3 b3))
          | (go_at_call 12; ((with_reducible refine (HM0.out w3 (M.bel HK.out B3.out) (HR.out.below B3.out)).mono ?_); intro e w4 h4; obtain ⟨A4, c4, rfl, r4, b4⟩ := h4; have R4 := Lib.hid r4; have B4 := Lib.hid (B3.out.trans (b4.mono B3.out.size)); clear r4 b4))
          | (go_at_call 18; ((with_reducible refine (HO2.out w4 (M.bel HK.out B4.out) (HR.out.below B4.out)).mono ?_); intro e w5 h5; obtain ⟨A5, c5, rfl, r5, b5⟩ := h5; have R5 := Lib.hid r5; have Q5 := Lib.hid (R4.out.below b5); have B5 := Lib.hid (B4.out.trans (b5.mono B4.out.size)); clear r5 b5))
          | (go_at_call 11; ((with_reducible refine (rsame_true A4 A5 U0.length c4 U0.length c5 U0 U0 w5 Q5.out R5.out rfl).mono ?_); rintro e w6 ⟨rfl, b6⟩; have B6 := Lib.hid (B5.out.trans (b6.mono B5.out.size)); clear b6))
          | (go_at_call 12; ((with_reducible refine (HM1.out w6 (M.bel HK.out B6.out) (HR.out.below B6.out)).mono ?_); intro e w7 h7; obtain ⟨A7, c7, rfl, r7, b7⟩ := h7; have R7 := Lib.hid r7; have B7 := Lib.hid (B6.out.trans (b7.mono B6.out.size)); clear r7 b7))
          | (go_at_call 19; ((with_reducible refine (HO5.out w7 (M.bel HK.out B7.out) (HR.out.below B7.out)).mono ?_); intro e w8 h8; obtain ⟨A8, c8, rfl, r8, b8⟩ := h8; have R8 := Lib.hid r8; have Q8 := Lib.hid (R7.out.below b8); have B8 := Lib.hid (B7.out.trans (b8.mono B7.out.size)); clear r8 b8))
          | (go_at_call 11; ((with_reducible refine (rsame_true A7 A8 U1.length c7 U1.length c8 U1 U1 w8 Q8.out R8.out rfl).mono ?_); rintro e w9 ⟨rfl, b9⟩; have B9 := Lib.hid (B8.out.trans (b9.mono B8.out.size)); clear b9)))
        go_ret
        exact ⟨rfl, B9.out⟩
      · have e1 : szK k = 0 := by simp [szK, h0, h1]
        have e2 : blK k = 0 := by simp [blK, h0, h1]
        have HS := Lib.hid (show ∀ X, M.ok X → Calls Tryd.prog 9 #[.int .i64 k] X fun e w' => e = .returned (.tuple #[.int .i64 0, .int .i64 0]) ∧ Below X.heap.size X w' from fun X g => by have := M.size k X g; rw [e1, e2] at this; exact this)
        have HN1 := Lib.hid (show ∀ X, M.ok X → Rd X A n c xs → Calls Tryd.prog 12 #[.int .i64 k, .slice A n c] X (Gives X.heap.size X []) from fun X g h => by have := M.sum k A n c xs X g h (by omega); rwa [show sumK k xs = [] by simp [sumK, h0, h1]] at this)
        have HN2 := Lib.hid (show ∀ X, M.ok X → Rd X A n c xs → Calls Tryd.prog 14 #[.int .i64 k, .slice A n c, .slice A n c] X (Gives X.heap.size X []) from fun X g h => by have := M.mac k A n c xs A n c xs X g h h (by omega) (by omega); rwa [show macK k xs xs = [] by simp [macK, e2]] at this)
        have HN3 := Lib.hid (show ∀ X, M.ok X → Rd X A n c xs → Calls Tryd.prog 16 #[.int .i64 k, .slice A n c, .int .i64 5] X (Gives X.heap.size X []) from fun X g h => by have := M.mask k A n c xs 5 X g h (by omega); rwa [show maskK k xs 5 = [] by simp [maskK, e2]] at this)
        have q0 : (k != 0) = true := by simpa using h0
        have q1 : (k != 1) = true := by simpa using h1
        clear e1 e2
        go_enter Tryd.func6, Tryd.ntmps6
        go_wp2_with (first
          | (go_at_call 8; ((with_reducible refine (awake_true M _ HK.out).mono ?_); rintro e w1 ⟨rfl, b1⟩; have B1 := Lib.hid b1; clear b1))
          | (go_at_call 9; ((with_reducible refine (HS.out _ (M.bel HK.out B1.out)).mono ?_); rintro e w2 ⟨rfl, b2⟩; have B2 := Lib.hid (B1.out.trans (b2.mono B1.out.size)); clear b2))
          | (go_at_call 12; ((with_reducible refine (HN1.out w2 (M.bel HK.out B2.out) (HR.out.below B2.out)).mono ?_); intro e w3 h3; obtain ⟨A3, c3, rfl, r3, b3⟩ := h3; have B3 := Lib.hid (B2.out.trans (b3.mono B2.out.size)); clear r3 b3))
          | (go_at_call 14; ((with_reducible refine (HN2.out w3 (M.bel HK.out B3.out) (HR.out.below B3.out)).mono ?_); intro e w4 h4; obtain ⟨A4, c4, rfl, r4, b4⟩ := h4; have B4 := Lib.hid (B3.out.trans (b4.mono B3.out.size)); clear r4 b4))
          | (go_at_call 16; ((with_reducible refine (HN3.out w4 (M.bel HK.out B4.out) (HR.out.below B4.out)).mono ?_); intro e w5 h5; obtain ⟨A5, c5, rfl, r5, b5⟩ := h5; have B5 := Lib.hid (B4.out.trans (b5.mono B4.out.size)); clear r5 b5)))
        go_ret
        exact ⟨rfl, B5.out⟩
  · have i0 : 1000 < (n : Int) := by omega
    go_enter Tryd.func6, Tryd.ntmps6
    go_wp2_with (go_at_call 8; ((with_reducible refine (awake_true M _ HK.out).mono ?_); rintro e w1 ⟨rfl, b1⟩; have B1 := Lib.hid b1; clear b1))
    go_ret
    exact ⟨rfl, B1.out⟩
end Go.Proofs.YtjgcaodicbikiaaDoor.S6
