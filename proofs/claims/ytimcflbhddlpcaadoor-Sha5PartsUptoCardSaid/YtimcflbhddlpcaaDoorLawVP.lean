/-
  The call of the statement Sha5Parts of layer 3.
-/
import Derived.Test.YtimcflbhddlpcaaDoorAwakeV
import Derived.Test.YtimcflbhddlpcaaDoorROneV
namespace Go.Proofs.YtimcflbhddlpcaaDoor.S5
set_option linter.unusedSimpArgs false
set_option linter.unusedVariables false
open Go.RowKit

set_option maxHeartbeats 2000000 in
theorem sha5Parts_walk (w : World) (hk : GOk w) (A : Option Addr) (n c : Nat) (xss : List (List UInt8)) (h : RdBs w A n c xss) (hb : xss.flatten.length ≤ 1048576) :
    Calls Tryd.prog 4 #[.slice A n c] w fun e w' => e = .returned (.bool true) ∧ Below w.heap.size w w' := by
  have HK := Lib.hid hk
  have lm : n ≤ maxLen := Nat.le_trans h.cap h.max
  unfold maxLen at lm
  have H := Lib.hid h
  have HB := Lib.hid hb
  clear hk h hb
  by_cases hn : n ≤ 60
  · have hni : ¬ 60 < (n : Int) := by omega
    obtain ⟨U, hU⟩ : ∃ U, U = sum xss.flatten := ⟨_, rfl⟩
    have HU := Lib.hid hU
    have UL := Lib.hid (show U.length = 64 by rw [hU]; exact sum_length _)
    clear hU
    go_enter Tryd.func4, Tryd.ntmps4
    go_wp2_with (first
      | (go_at_call 7; ((with_reducible refine (awake_true _ HK.out).mono ?_); rintro e w1 ⟨rfl, hb1⟩; have B1 := Lib.hid hb1; clear hb1)))
    go_loopw [3, 4] (fun v i wr => ∃ k m : Nat, k ≤ n ∧ i = .int .i64 (k : Int) ∧ wr.ownsRow w1.heap.size 5 1 v m (bv (cats xss k)) ∧ Below w.heap.size w wr ∧ Hid (w1.heap.size ≤ wr.heap.size)) (fun _ i _ => n - (intOf i).toNat)
    case atStart => exact ⟨0, 0, Nat.zero_le _, rfl, ⟨by simp [cats, bv], .inl ⟨rfl, rfl⟩⟩, B1.out, Nat.le_refl _⟩
    case round =>
      obtain ⟨k, m, hk, rfl, hown, hbel, HS⟩ := hrel
      by_cases hlt : k < n
      · obtain ⟨b, off, rfl, hb, hcell⟩ := (H.out.below hbel).at_ (by omega)
        obtain ⟨A', n', c', hc, hr⟩ := hcell k hlt
        have e1 := cats_succ xss k (by have := H.out.len; omega)
        have e2 := tot_le xss (k + 1)
        have hm := own_len hown
        have e3 : m + n' ≤ 140737488355328 := by have := HB.out; unfold tot at e2; rw [e1, List.length_append, hr.len] at e2; omega
        have E := Lib.hid e1
        clear hcell e1 e2 hm
        go_wp2_with (at_builtin; refine append_rd rfl _ _ rfl w1.heap.size _ m _ rfl hown A' n' c' _ rfl hr e3 HS.out ?_; intro v' w2 hown1 hg1)
        go_roundw
        case rel => exact ⟨k + 1, m + n', by omega, by go_num, by rw [E.out]; exact hown1, hbel.grown hg1 hbel.size (fun g hg => Nat.le_trans B1.out.size (hown.lt g hg).1), Nat.le_trans HS.out hg1.size⟩
        case measure => simp [intOf]; omega
      · obtain rfl : k = n := by omega
        have e := cats_all xss k H.out.len
        rw [e] at hown
        clear e
        obtain ⟨A1, c1, rfl⟩ := own_form hown
        have hml := own_len hown
        have HR := Lib.hid (Rd.own hown)
        have HL := Lib.hid hbel
        have ML := Lib.hid hml
        have hmb : m ≤ 1048576 := by have := HB.out; omega
        have hki : ¬ (k : Int) < (k : Int) := by omega
        clear hown hbel
        by_cases hm : m ≤ 2000
        · have hmi : ¬ 2000 < (m : Int) := by omega
          have HP := Lib.hid (show ∀ W, RdBs W A k c xss → GOk W → Calls Tryd.prog 13 #[.slice A k c] W (New W.heap.size W U) from fun W h g => by rw [HU.out]; exact parts_any A k c _ W h g (by rw [ML.out]; omega))
          have HO := Lib.hid (show ∀ W, Rd W A1 m c1 xss.flatten → GOk W → Calls Tryd.prog 9 #[.slice A1 m c1] W (New W.heap.size W U) from fun W h g => by rw [HU.out]; exact one_any A1 m c1 _ W h g (by omega))
          have HRO := Lib.hid (show ∀ W, Rd W A1 m c1 xss.flatten → Calls Tryd.prog 10 #[.slice A1 m c1] W (New W.heap.size W U) from fun W h => by rw [HU.out]; exact rone_any A1 m c1 _ W h (by omega))
          clear hml
          go_wp2_with (first
            | (go_at_call 13; ((with_reducible refine (HP.out _ (H.out.below HL.out) (HK.out.below (Nat.le_refl _) HL.out)).mono ?_); intro e w3 h3; obtain ⟨A3, c3, rfl, r3, b3⟩ := new_len h3; rw [UL.out] at r3; rw [UL.out]; have R3 := Lib.hid r3; have O3 := Lib.hid (HR.out.below b3); have B3 := Lib.hid (HL.out.trans (b3.mono HL.out.size)); clear h3 r3 b3))
            | (go_at_call 10; ((with_reducible refine (HRO.out _ O3.out).mono ?_); intro e w4 h4; obtain ⟨A4, c4, rfl, r4, b4⟩ := new_len h4; have R4 := Lib.hid r4; have Q4 := Lib.hid (R3.out.below b4); have O4 := Lib.hid (O3.out.below b4); have B4 := Lib.hid (B3.out.trans (b4.mono B3.out.size)); clear h4 r4 b4))
            | (go_at_call 8; ((with_reducible refine (rsame_true A3 A4 64 c3 _ c4 U U w4 Q4.out R4.out rfl).mono ?_); rintro e w5 ⟨rfl, b5⟩; have O5 := Lib.hid (O4.out.below b5); have Q5 := Lib.hid (Q4.out.below b5); have B5 := Lib.hid (B4.out.trans (b5.mono B4.out.size)); clear b5))
            | (go_at_call 9; ((with_reducible refine (HO.out _ O5.out (HK.out.below (Nat.le_refl _) B5.out)).mono ?_); intro e w6 h6; obtain ⟨A6, c6, rfl, r6, b6⟩ := new_len h6; have R6 := Lib.hid r6; have Q6 := Lib.hid (Q5.out.below b6); have B6 := Lib.hid (B5.out.trans (b6.mono B5.out.size)); clear h6 r6 b6))
            | (go_at_call 8; ((with_reducible refine (rsame_true A3 A6 64 c3 _ c6 U U w6 Q6.out R6.out rfl).mono ?_); rintro e w7 ⟨rfl, b7⟩; have B7 := Lib.hid (B6.out.trans (b7.mono B6.out.size)); clear b7)))
          go_ret
          exact ⟨rfl, B7.out⟩
        · have hmi : 2000 < (m : Int) := by omega
          go_wp2
          go_ret
          exact ⟨rfl, HL.out⟩
  · have hni : 60 < (n : Int) := by omega
    go_enter Tryd.func4, Tryd.ntmps4
    go_wp2_with (go_at_call 7; ((with_reducible refine (awake_true _ HK.out).mono ?_); rintro e w1 ⟨rfl, hb1⟩; have B1 := Lib.hid hb1; clear hb1))
    go_ret
    exact ⟨rfl, B1.out⟩
end Go.Proofs.YtimcflbhddlpcaaDoor.S5
