/-
  The statement's first question of layer 13 is answered true. No statement is proved here.
-/
import Derived.Test.YtccnbepccajdoaaDoorHs9
import Derived.Test.YtccnbepccajdoaaDoorHs10
namespace Go.Proofs.YtccnbepccajdoaaDoor.S13
set_option linter.unusedSimpArgs false
set_option linter.unusedVariables false
open Go.RowKit S7 S8

theorem ru_of_bk {w : World} {b : Nat} {xs : List Nat} (h : Bk w b 31 (uv xs).toArray) (hm : xs.length ≤ maxLen) : Ru w (some ⟨b, 0, none⟩) xs.length xs.length xs :=
  ⟨rfl, Nat.le_refl _, hm, fun hn => ⟨b, 0, rfl, h.lt, fun j hj => by
    rw [Nat.zero_add, h.cell, List.getElem?_toArray, uv_at xs j hj]
    simp [List.getD, hj]⟩⟩
set_option maxHeartbeats 1000000 in
theorem rwords_true (A A' : Option Addr) (n c c' : Nat) (xs : List Nat) (w : World) (h1 : Ru w A n c xs) (h2 : Ru w A' n c' xs) :
    Calls Tryd.prog 10 #[.slice A n c, .slice A' n c'] w fun e w' => e = .returned (.bool true) ∧ Below w.heap.size w w' := by
  have l1 : n ≤ maxLen := Nat.le_trans h1.cap h1.max
  unfold maxLen at l1
  go_enter Tryd.func10, Tryd.ntmps10
  go_wp2
  go_loopw [5] (fun i wr => ∃ k q : Nat, k ≤ n ∧ i = .int .i64 (k : Int) ∧ wr = w.drewN q) (fun i _ => n - (intOf i).toNat)
  case atStart => exact ⟨0, 0, Nat.zero_le _, rfl, rfl⟩
  case round =>
    obtain ⟨k, q, hk, rfl, rfl⟩ := hrel
    by_cases hlt : k < n
    · obtain ⟨b1, o1, rfl, hb1, hc1⟩ := h1.at_ (by omega)
      obtain ⟨b2, o2, rfl, hb2, hc2⟩ := h2.at_ (by omega)
      have g1 := hc1 k hlt
      have g2 := hc2 k hlt
      have hki : (k : Int) < n := by omega
      obtain ⟨d, hd⟩ : ∃ d, d = xs.getD k 0 := ⟨_, rfl⟩
      rw [← hd] at g1 g2
      clear hc1 hc2 hd
      go_wp2
      go_region
      go_wp2
      go_roundw
      case rel => exact ⟨k + 1, q + 1, by omega, by go_num, rfl⟩
      case measure => simp [intOf]; omega
    · obtain rfl : k = n := by omega
      go_wp2
      go_ret
      exact ⟨rfl, ⟨rfl, rfl, rfl, Nat.le_refl _, fun _ _ => rfl⟩⟩
def L0 : List Pr := [(7, 4026531845), (7, 4026531846)]
theorem L0_may : mayL L0 = true := by decide +kernel
theorem L0_sum : sumH L0 = 3 := by decide +kernel
theorem L0_tot : totL L0 = 8 := by decide +kernel
theorem L0_plc : places L0 5 = [1, 1] := by decide +kernel
theorem nil_may : mayL [] = false := by decide
theorem rp_nil (w : World) : Rp w none 0 0 [] := ⟨rfl, Nat.le_refl _, by simp [maxLen], fun i => by simp [at_], fun h => absurd h (by omega)⟩
theorem rp_L0 {w : World} {b : Nat} (h : Bk w b 34 #[.int .u32 7, .int .u32 4026531845, .int .u32 7, .int .u32 4026531846]) : Rp w (some ⟨b, 0, none⟩) 2 2 L0 := by
  refine ⟨rfl, Nat.le_refl _, by simp [maxLen], fun i => ?_, fun _ => ⟨b, 0, rfl, h.lt, fun j hj => ?_⟩⟩
  · rcases i with _ | _ | i
    · simp [at_, L0]
    · simp [at_, L0]
    · simp [at_, L0]
  · rcases j with _ | _ | j
    · exact ⟨h.cell 0, h.cell 1⟩
    · exact ⟨h.cell 2, h.cell 3⟩
    · omega
set_option maxRecDepth 100000 in
set_option maxHeartbeats 4000000 in
theorem awake_true (w : World) (hk : S0.ok w) : Calls Tryd.prog 4 #[] w fun e w' => e = .returned (.bool true) ∧ Below w.heap.size w w' := by
  have HK := Lib.hid hk
  have H5 := Lib.hid (show ∀ X b, S0.ok X → Bk X b 34 #[.int .u32 7, .int .u32 4026531845, .int .u32 7, .int .u32 4026531846] → Calls Tryd.prog 7 #[.slice (some ⟨b, 0, none⟩) 2 2, .int .u64 5] X fun e w' => ∃ g, e = .returned (.tuple #[.slice (some ⟨g, 0, none⟩) 2 2, .int .i64 0]) ∧ Bk w' g 31 (uv [1, 1]).toArray ∧ Below X.heap.size X w' from fun X b g hb =>
    (places_full _ 2 2 L0 5 X g (rp_L0 hb) L0_may (by rw [L0_sum]; decide)).mono fun e w' ⟨q, h1, h2, h3⟩ => ⟨q, h1, by rw [← L0_plc]; exact h2, h3⟩)
  have H8 := Lib.hid (show ∀ X b, S0.ok X → Bk X b 34 #[.int .u32 7, .int .u32 4026531845, .int .u32 7, .int .u32 4026531846] → Calls Tryd.prog 7 #[.slice (some ⟨b, 0, none⟩) 2 2, .int .u64 8] X fun e w' => e = .returned (.tuple #[.slice none 0 0, .int .i64 9]) ∧ Below X.heap.size X w' from fun X b g hb =>
    places_gone _ 2 2 L0 8 X g (rp_L0 hb) L0_may (by rw [L0_sum]; decide))
  have HM := Lib.hid (show ∀ X b, S0.ok X → Bk X b 34 #[.int .u32 7, .int .u32 4026531845, .int .u32 7, .int .u32 4026531846] → Calls Tryd.prog 9 #[.slice (some ⟨b, 0, none⟩) 2 2] X fun e w' => e = .returned (.bool true) ∧ Below X.heap.size X w' from fun X b g hb => by
    have h := hmay_any _ 2 2 L0 X g (rp_L0 hb)
    rw [L0_may] at h
    exact h)
  have HT := Lib.hid (show ∀ X b, S0.ok X → Bk X b 34 #[.int .u32 7, .int .u32 4026531845, .int .u32 7, .int .u32 4026531846] → Calls Tryd.prog 6 #[.slice (some ⟨b, 0, none⟩) 2 2] X fun e w' => e = .returned (.int .u64 8) ∧ Below X.heap.size X w' from fun X b g hb => by
    have h := total_any _ 2 2 L0 X g (rp_L0 hb)
    rw [L0_tot] at h
    exact h)
  have HN := Lib.hid (show ∀ X, S0.ok X → Calls Tryd.prog 9 #[.slice none 0 0] X fun e w' => e = .returned (.bool false) ∧ Below X.heap.size X w' from fun X g => by
    have h := hmay_any none 0 0 [] X g (rp_nil X)
    rw [nil_may] at h
    exact h)
  have HR := Lib.hid (fun X b => hread_short (some ⟨b, 0, none⟩) none 2 2 0 0 (by omega) X)
  have HW := Lib.hid (show ∀ X g g', Bk X g 31 (uv [1, 1]).toArray → Bk X g' 31 (uv [1, 1]).toArray → Calls Tryd.prog 10 #[.slice (some ⟨g, 0, none⟩) 2 2, .slice (some ⟨g', 0, none⟩) 2 2] X fun e w' => e = .returned (.bool true) ∧ Below X.heap.size X w' from fun X g g' h h' =>
    rwords_true _ _ 2 2 2 [1, 1] X (ru_of_bk h (by simp [maxLen])) (ru_of_bk h' (by simp [maxLen])))
  clear hk
  have HL := Lib.hid (Bk.new w 34 #[.int .u32 7, .int .u32 4026531845, .int .u32 7, .int .u32 4026531846])
  have B0 := Lib.hid ((Below.refl w.heap.size w).alloc (Nat.le_refl _) (.cells #[.int .u32 7, .int .u32 4026531845, .int .u32 7, .int .u32 4026531846] 34))
  go_enter Tryd.func4, Tryd.ntmps4
  go_wp2_with (first
    | (go_at_call 7; ((with_reducible refine (H5.out _ _ (S0.bel HK.out B0.out) HL.out).mono ?_); rintro e w1 ⟨g, rfl, q1, b1⟩; have Q1 := Lib.hid q1; have L1 := Lib.hid (HL.out.below b1 HL.out.lt); have B1 := Lib.hid (B0.out.trans (b1.mono B0.out.size)); clear q1 b1))
    | (go_at_call 7; ((with_reducible refine (H8.out _ _ (S0.bel HK.out B1.out) L1.out).mono ?_); rintro e w2 ⟨rfl, b2⟩; have Q2 := Lib.hid (Q1.out.below b2 Q1.out.lt); have L2 := Lib.hid (L1.out.below b2 L1.out.lt); have B2 := Lib.hid (B1.out.trans (b2.mono B1.out.size)); clear b2))
    | (go_at_call 8; ((with_reducible refine (HR.out _ _).mono ?_); rintro e w3 ⟨rfl, b3⟩; have Q3 := Lib.hid ((Q2.out.alloc (.cells #[.int .u8 0, .int .u8 0] 5)).below b3 (by have := Q2.out.lt; simp; omega)); have L3 := Lib.hid ((L2.out.alloc (.cells #[.int .u8 0, .int .u8 0] 5)).below b3 (by have := L2.out.lt; simp; omega)); have B3 := Lib.hid ((B2.out.alloc B2.out.size (.cells #[.int .u8 0, .int .u8 0] 5)).trans (b3.mono (by have := B2.out.size; simp; omega))); clear b3))
    | (go_at_call 9; ((with_reducible refine (HM.out _ _ (S0.bel HK.out B3.out) L3.out).mono ?_); rintro e w4 ⟨rfl, b4⟩; have Q4 := Lib.hid (Q3.out.below b4 Q3.out.lt); have L4 := Lib.hid (L3.out.below b4 L3.out.lt); have B4 := Lib.hid (B3.out.trans (b4.mono B3.out.size)); clear b4))
    | (go_at_call 6; ((with_reducible refine (HT.out _ _ (S0.bel HK.out B4.out) L4.out).mono ?_); rintro e w5 ⟨rfl, b5⟩; have Q5 := Lib.hid (Q4.out.below b5 Q4.out.lt); have R5 := Lib.hid (Bk.new w5 31 #[.int .u32 1, .int .u32 1]); have B5 := Lib.hid (B4.out.trans (b5.mono B4.out.size)); clear b5))
    | (go_at_call 10; ((with_reducible refine (HW.out _ _ _ (Q5.out.alloc _) R5.out).mono ?_); rintro e w6 ⟨rfl, b6⟩; have B6 := Lib.hid ((B5.out.alloc B5.out.size (.cells #[.int .u32 1, .int .u32 1] 31)).trans (b6.mono (by have := B5.out.size; simp; omega))); clear b6))
    | (go_at_call 9; ((with_reducible refine (HN.out _ (S0.bel HK.out B6.out)).mono ?_); rintro e w7 ⟨rfl, b7⟩; have B7 := Lib.hid (B6.out.trans (b7.mono B6.out.size)); clear b7)))
  go_ret
  exact ⟨rfl, B7.out⟩
end Go.Proofs.YtccnbepccajdoaaDoor.S13
