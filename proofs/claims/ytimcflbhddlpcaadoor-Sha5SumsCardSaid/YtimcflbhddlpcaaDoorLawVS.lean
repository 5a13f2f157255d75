/-
  The call of the statement Sha5Sums of layer 3.
-/
import Derived.Test.YtimcflbhddlpcaaDoorAwakeV
import Derived.Test.YtimcflbhddlpcaaDoorROneV
namespace Go.Proofs.YtimcflbhddlpcaaDoor.S5
set_option linter.unusedSimpArgs false
set_option linter.unusedVariables false
open Go.RowKit

set_option maxHeartbeats 2000000 in
theorem sha5Sums_frame (w : World) (hk : GOk w) (A : Option Addr) (n c : Nat) (xs : List UInt8) (hr : Rd w A n c xs) (t : Int) (wt : (Lit.int .i64 t).wf = true) :
    Calls Tryd.prog 3 #[.slice A n c, .int .i64 t] w fun e w' => e = .returned (.bool true) ∧ Below w.heap.size w w' := by
  have HK := Lib.hid hk
  have HR := Lib.hid hr
  have lm : n ≤ maxLen := Nat.le_trans hr.cap hr.max
  unfold maxLen at lm
  have HL := Lib.hid hr.len
  clear hk hr wt
  by_cases hn : n ≤ 5000
  · have hni : ¬ 5000 < (n : Int) := by omega
    obtain ⟨U, hU⟩ : ∃ U, U = sum xs := ⟨_, rfl⟩
    have UL := Lib.hid (show U.length = 64 by rw [hU]; exact sum_length xs)
    have HO := Lib.hid (show ∀ W A c, Rd W A n c xs → GOk W → Calls Tryd.prog 9 #[.slice A n c] W (New W.heap.size W U) from fun W A c h g => by rw [hU]; exact one_any A n c xs W h g (by omega))
    have HRO := Lib.hid (show ∀ W A c, Rd W A n c xs → Calls Tryd.prog 10 #[.slice A n c] W (New W.heap.size W U) from fun W A c h => by rw [hU]; exact rone_any A n c xs W h (by omega))
    obtain ⟨V, hV⟩ : ∃ V : Nat, V = (if 0 ≤ t ∧ t < 80 then kT.getD t.toNat 0 else 0).toNat := ⟨_, rfl⟩
    have HKA := Lib.hid (show ∀ W, KOk W → Calls Tryd.prog 11 #[.int .i64 t] W fun e w' => e = .returned (.int .u64 (V : Int)) ∧ W = w' from fun W h => by rw [hV]; exact k_any t W h)
    have HKR := Lib.hid (show ∀ W, Calls Tryd.prog 12 #[.int .i64 t] W fun e w' => e = .returned (.int .u64 (V : Int)) ∧ Below W.heap.size W w' from fun W => by rw [hV]; exact rk_any t W)
    clear hU hV
    go_enter Tryd.func3, Tryd.ntmps3
    go_wp2_with (first
      | (go_at_call 7; ((with_reducible refine (awake_true _ HK.out).mono ?_); rintro e w1 ⟨rfl, hb1⟩; have B1 := Lib.hid hb1; have R1 := Lib.hid (HR.out.below hb1); clear hb1))
      | (at_builtin; refine append_rd rfl (.tmp 11) (.tmp 12) rfl w1.heap.size (.slice (some ⟨w1.heap.size, 0, none⟩) 0 0) 0 [] rfl (own_lit_u8 w1 w1.heap.size [] (Nat.le_refl _) (by simp [maxLen])) A n c xs rfl (R1.out.alloc _) (by omega) (by simp) ?_; intro v2 w2 o2 g2; have B2 := Lib.hid ((B1.out.alloc B1.out.size _).grown g2 (by have := B1.out.size; simp; omega) (fun k hk => by have := B1.out.size; simp [Value.ownBlock] at hk; omega)); have O2 := Lib.hid (own_n (show w2.ownsRow w1.heap.size 5 1 v2 (0 + n) (bv ([] ++ xs)) from o2)); clear o2 g2; obtain ⟨A2, c2, rfl⟩ := own_form O2.out)
      | (go_at_call 9; ((with_reducible refine (HO.out _ A2 c2 (Rd.own O2.out) (HK.out.below (Nat.le_refl _) B2.out)).mono ?_); intro e w3 h3; obtain ⟨A3, c3, rfl, r3, b3⟩ := new_len h3; have R3 := Lib.hid r3; have O3 := Lib.hid ((Rd.own O2.out).below b3); have B3 := Lib.hid (B2.out.trans (b3.mono B2.out.size)); clear h3 r3 b3))
      | (go_at_call 10; ((with_reducible refine (HRO.out _ A c (HR.out.below B3.out)).mono ?_); intro e w4 h4; obtain ⟨A4, c4, rfl, r4, b4⟩ := new_len h4; have R4 := Lib.hid r4; have Q4 := Lib.hid (R3.out.below b4); have O4 := Lib.hid (O3.out.below b4); have B4 := Lib.hid (B3.out.trans (b4.mono B3.out.size)); clear h4 r4 b4))
      | (go_at_call 8; ((with_reducible refine (rsame_true A3 A4 _ c3 _ c4 U U w4 Q4.out R4.out rfl).mono ?_); rintro e w5 ⟨rfl, b5⟩; have O5 := Lib.hid (O4.out.below b5); have B5 := Lib.hid (B4.out.trans (b5.mono B4.out.size)); clear b5))
      | (go_at_call 8; ((with_reducible refine (rsame_true A2 A n c2 n c xs xs w5 O5.out (HR.out.below B5.out) rfl).mono ?_); rintro e w6 ⟨rfl, b6⟩; have B6 := Lib.hid (B5.out.trans (b6.mono B5.out.size)); clear b6))
      | (go_at_call 11; ((with_reducible refine (HKA.out _ (HK.out.below (Nat.le_refl _) B6.out).k).mono ?_); rintro e w7 ⟨rfl, rfl⟩))
      | (go_at_call 12; ((with_reducible refine (HKR.out _).mono ?_); rintro e w8 ⟨rfl, b8⟩; have B8 := Lib.hid (B6.out.trans (b8.mono B6.out.size)); clear b8)))
    go_ret
    exact ⟨rfl, B8.out⟩
  · have hni : 5000 < (n : Int) := by omega
    go_enter Tryd.func3, Tryd.ntmps3
    go_wp2_with (go_at_call 7; ((with_reducible refine (awake_true _ HK.out).mono ?_); rintro e w1 ⟨rfl, hb1⟩; have B1 := Lib.hid hb1; clear hb1))
    go_ret
    exact ⟨rfl, B1.out⟩
end Go.Proofs.YtimcflbhddlpcaaDoor.S5
