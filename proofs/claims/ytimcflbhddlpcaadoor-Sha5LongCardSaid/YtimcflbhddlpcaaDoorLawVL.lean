/-
  The call of the statement Sha5Long of layer 3.
-/
import Derived.Test.YtimcflbhddlpcaaDoorAwakeV
import Derived.Deep.RegionHeld3
namespace Go.Proofs.YtimcflbhddlpcaaDoor.S5
set_option linter.unusedSimpArgs false
set_option linter.unusedVariables false
open Go.RowKit

theorem u8b {n : Int} (h : (Lit.int .u8 n).wf = true) : ∃ b : UInt8, n = (b.toNat : Int) := by
  have : 0 ≤ n ∧ n ≤ 255 := by simpa [Lit.wf, IntKind.min, IntKind.max, IntKind.signed, IntKind.bits] using h
  exact ⟨UInt8.ofNat n.toNat, by simp; omega⟩
theorem rd_one (w : World) (b : UInt8) : Rd (w.alloc (.cells #[.int .u8 (b.toNat : Int)] 5)) (some ⟨w.heap.size, 0, none⟩) 1 1 [b] := rd_lit w _ [b] rfl (by simp [maxLen]) _ rfl
theorem rd_two (w : World) {A A' : Option Addr} {n c n' c' : Nat} {xs ys : List UInt8} (h : Rd w A n c xs) (h' : Rd w A' n' c' ys) :
    RdBs (w.alloc (.cells #[.slice A n c, .slice A' n' c'] 22)).drew (some ⟨w.heap.size, 0, none⟩) 2 2 [xs, ys] := (RdBs.built2 w _ h h').below (Below.refl _ _).drew
set_option maxHeartbeats 4000000 in
theorem sha5Long_frame (w : World) (hk : GOk w) (A : Option Addr) (n c : Nat) (xs : List UInt8) (hr : Rd w A n c xs) (y : Int) (wy : (Lit.int .u8 y).wf = true) :
    Calls Tryd.prog 5 #[.slice A n c, .int .u8 y] w fun e w' => e = .returned (.bool true) ∧ Below w.heap.size w w' := by
  obtain ⟨b, rfl⟩ := u8b wy
  have HK := Lib.hid hk
  have HR := Lib.hid hr
  have lm : n ≤ maxLen := Nat.le_trans hr.cap hr.max
  unfold maxLen at lm
  have HL := Lib.hid hr.len
  clear hk hr wy
  by_cases hn : n ≤ 300
  · have hni : ¬ 300 < (n : Int) := by omega
    obtain ⟨T, hT⟩ : ∃ T, T = xs ++ [b] := ⟨_, rfl⟩
    have HT := Lib.hid hT
    have TL := Lib.hid (show T.length = n + 1 by rw [hT]; have := HL.out; simp; omega)
    obtain ⟨U, hU⟩ : ∃ U, U = sum T := ⟨_, rfl⟩
    have UL := Lib.hid (show U.length = 64 by rw [hU]; exact sum_length _)
    have HO := Lib.hid (show ∀ W A c, Rd W A (n + 1) c T → GOk W → Calls Tryd.prog 9 #[.slice A (n + 1) c] W (New W.heap.size W U) from fun W A c h g => by rw [hU]; exact one_any A (n + 1) c _ W h g (by omega))
    have HP := Lib.hid (show ∀ W A c k, RdBs W A 2 c [T.take k, T.drop k] → GOk W → Calls Tryd.prog 13 #[.slice A 2 c] W (New W.heap.size W U) from fun W A c k h g => by
      have e : [T.take k, T.drop k].flatten = T := by simp
      have h3 := parts_any A 2 c _ W h g (by rw [e, TL.out]; omega)
      rw [e] at h3
      rw [hU]
      exact h3)
    clear hT hU
    go_enter Tryd.func5, Tryd.ntmps5
    go_wp2_with (first
      | (go_at_call 7; ((with_reducible refine (awake_true _ HK.out).mono ?_); rintro e w1 ⟨rfl, hb1⟩; have B1 := Lib.hid hb1; have R1 := Lib.hid (HR.out.below hb1); clear hb1))
      | (at_builtin; refine append_rd rfl (.tmp 13) (.tmp 14) rfl w1.heap.size (.slice (some ⟨w1.heap.size, 0, none⟩) 0 0) 0 [] rfl (own_lit_u8 w1 w1.heap.size [] (Nat.le_refl _) (by simp [maxLen])) A n c xs rfl (R1.out.alloc _) (by omega) (by simp) ?_; intro v2 w2 o2 g2; have B2 := Lib.hid ((B1.out.alloc B1.out.size _).grown g2 (by have := B1.out.size; simp; omega) (fun k hk => by have := B1.out.size; simp [Value.ownBlock] at hk; omega)); have O2 := Lib.hid (own_n (show w2.ownsRow w1.heap.size 5 1 v2 (0 + n) (bv ([] ++ xs)) from o2)); have S2 := Lib.hid (show w1.heap.size ≤ w2.heap.size by have := g2.size; simp at this; omega); clear o2 g2; obtain ⟨A2, c2, rfl⟩ := own_form O2.out)
      | (at_builtin; refine append_rd rfl (.tmp 15) (.tmp 17) rfl w1.heap.size (.slice A2 n c2) n xs rfl (O2.out.alloc _) (some ⟨w2.heap.size, 0, none⟩) 1 1 [b] rfl (rd_one w2 b) (by omega) (by have := S2.out; simp; omega) ?_; intro v3 w3 o3 g3; rw [← HT.out] at o3; have O3 := Lib.hid o3; have B3 := Lib.hid ((B2.out.alloc B2.out.size _).grown g3 (by have := B2.out.size; simp; omega) (fun k hk => Nat.le_trans B1.out.size (O2.out.lt k hk).1)); clear o3 g3; obtain ⟨A3, c3, rfl⟩ := own_form O3.out)
      | (go_at_call 9; ((with_reducible refine (HO.out _ A3 c3 (Rd.own O3.out) (HK.out.below (Nat.le_refl _) B3.out)).mono ?_); intro e w4 h4; obtain ⟨A4, c4, rfl, r4, b4⟩ := new_len h4; rw [UL.out] at r4; rw [UL.out]; have R4 := Lib.hid r4; have T4 := Lib.hid ((Rd.own O3.out).below b4); have B4 := Lib.hid (B3.out.trans (b4.mono B3.out.size)); clear h4 r4 b4)))
    go_loopw [7] (fun i wr => ∃ k : Nat, i = .int .i64 (k : Int) ∧ k ≤ 2000 ∧ Hid (Rd wr A4 64 c4 U) ∧ Hid (Rd wr A3 (n + 1) c3 T) ∧ Below w.heap.size w wr) (fun i _ => 2000 - (intOf i).toNat)
    case atStart => exact ⟨0, rfl, by omega, R4, T4, B4.out⟩
    case round =>
      obtain ⟨k, rfl, hk2, RU, RT, hbel⟩ := hrel
      by_cases hlt : k ≤ n + 1
      · have hki : (k : Int) ≤ (n : Int) + 1 := by omega
        have hcap := RT.out.cap
        have hc1 := fun W => run_cutSlH (A := A3) (n := n + 1) (c := c3) (m := k) (h := (k : Int)) rfl (by omega) W
        have hc2 := fun W => run_cutSlHAt (A := A3) (n := n + 1) (c := c3) (m := k) (h := (k : Int)) rfl (by omega) W
        have hc3 := fun W => run_cutSl (A := A3) (n := n + 1) (c := c3) (k := k) (l := (k : Int)) rfl hlt W
        have hc4 := fun W => run_cutSlAt (A := A3) (n := n + 1) (c := c3) (k := k) (l := (k : Int)) rfl hlt W
        have R1 := Lib.hid (RT.out.take (k := k) hlt)
        have R2 := Lib.hid (RT.out.cut (k := k) hlt)
        obtain ⟨A5, hA5⟩ : ∃ A5, A5 = (if c3 = k then A3 else A3.map (·.add k)) := ⟨_, rfl⟩
        rw [← hA5] at R2 hc3 hc4
        have HLB := Lib.hid hbel
        clear hA5 hcap hbel
        have hdv : ((n : Int) + 1) / 8 = (((n + 1) / 8 : Nat) : Int) := by omega
        obtain ⟨q, hq⟩ : ∃ q, q = (n + 1) / 8 := ⟨_, rfl⟩
        rw [← hq] at hdv
        have hq8 : q ≤ 40 := by omega
        clear hq
        go_wp2
        go_region_held3 (fun _ => True) (trivial) (first
          | (go_at_call 13; ((with_reducible refine (HP.out _ (some ⟨wr.heap.size, 0, none⟩) 2 k (rd_two wr R1.out R2.out) (HK.out.below (Nat.le_refl _) (HLB.out.alloc HLB.out.size _).drew)).mono ?_); intro e w5 h5; obtain ⟨A6, c6, rfl, r6, b6⟩ := new_len h5; rw [UL.out] at r6; rw [UL.out]; have R6 := Lib.hid r6; have U6 := Lib.hid ((RU.out.alloc _).drew.below b6); have T6 := Lib.hid ((RT.out.alloc _).drew.below b6); have B6 := Lib.hid ((HLB.out.alloc HLB.out.size _).drew.trans (b6.mono (by have := HLB.out.size; simp; omega))); clear h5 r6 b6))
          | (go_at_call 8; ((with_reducible refine (rsame_true A6 A4 64 c6 64 c4 U U _ R6.out U6.out rfl).mono ?_); rintro e w6 ⟨rfl, b7⟩; have U7 := Lib.hid (U6.out.below b7); have T7 := Lib.hid (T6.out.below b7); have B7 := Lib.hid (B6.out.trans (b7.mono B6.out.size)); clear b7))
          | fail)
        go_wp2
        go_roundw
        case rel => exact ⟨k + 1 + q, by go_num, by omega, U7, T7, B7.out⟩
        case measure => simp [intOf]; omega
      · have hki : ¬ (k : Int) ≤ (n : Int) + 1 := by omega
        go_wp2
        go_ret
        exact ⟨rfl, hbel⟩
  · have hni : 300 < (n : Int) := by omega
    go_enter Tryd.func5, Tryd.ntmps5
    go_wp2_with (go_at_call 7; ((with_reducible refine (awake_true _ HK.out).mono ?_); rintro e w1 ⟨rfl, hb1⟩; have B1 := Lib.hid hb1; clear hb1))
    go_ret
    exact ⟨rfl, B1.out⟩
end Go.Proofs.YtimcflbhddlpcaaDoor.S5
