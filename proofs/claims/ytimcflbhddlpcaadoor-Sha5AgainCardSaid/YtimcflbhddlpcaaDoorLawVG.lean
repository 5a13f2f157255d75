/-
  The call of the statement Sha5Again of layer 3.
-/
import Derived.Test.YtimcflbhddlpcaaDoorAwakeV
namespace Go.Proofs.YtimcflbhddlpcaaDoor.S5
set_option linter.unusedSimpArgs false
set_option linter.unusedVariables false
open Go.RowKit

theorem kT_nodup : kT.Nodup := by decide +kernel
theorem kT_no0 : ∀ x ∈ kT, x ≠ 0 := by decide +kernel
theorem kT_ne (a : Nat) (h : a < 80) : (kT.getD a 0).toNat ≠ 0 := by
  have h1 : a < kT.length := h
  have := kT_no0 kT[a] (List.getElem_mem h1)
  simp only [List.getD, List.getElem?_eq_getElem h1, Option.getD_some]
  intro e
  exact this (UInt64.toNat_inj.1 e)
theorem kT_inj (a b : Nat) (ha : a < 80) (hb : b < 80) : (kT.getD a 0).toNat = (kT.getD b 0).toNat ↔ a = b := by
  have h1 : a < kT.length := ha
  have h2 : b < kT.length := hb
  simp only [List.getD, List.getElem?_eq_getElem h1, List.getElem?_eq_getElem h2, Option.getD_some]
  constructor
  · intro e
    exact (List.getElem_inj kT_nodup).1 (UInt64.toNat_inj.1 e)
  · rintro rfl; rfl
theorem k_in (p : Nat) (V : Nat) (hp : p < 80) (hV : V = (kT.getD p 0).toNat) (w : World) (hk : KOk w) : Calls Tryd.prog 11 #[.int .i64 (p : Int)] w fun e w' => e = .returned (.int .u64 (V : Int)) ∧ w = w' := by
  have := k_any (p : Int) w hk
  rw [if_pos (by omega), Int.toNat_natCast, ← hV] at this
  exact this
theorem k_out (i : Int) (hi : 0 ≤ i) (w : World) (hk : KOk w) : Calls Tryd.prog 11 #[.int .i64 (80 + i)] w fun e w' => e = .returned (.int .u64 0) ∧ w = w' := by
  have := k_any (80 + i) w hk
  rw [if_neg (by omega)] at this
  exact this
theorem u8_bounds {n : Int} (h : (Lit.int .u8 n).wf = true) : 0 ≤ n ∧ n ≤ 255 := by
  simpa [Lit.wf, IntKind.min, IntKind.max, IntKind.signed, IntKind.bits] using h
set_option maxHeartbeats 2000000 in
theorem sha5Again_frame (w : World) (hk : GOk w) (A : Option Addr) (n c : Nat) (xs : List UInt8) (hr : Rd w A n c xs) (i : Int) (wi : (Lit.int .u8 i).wf = true) (k : Int) (wk : (Lit.int .u8 k).wf = true) :
    Calls Tryd.prog 6 #[.slice A n c, .int .u8 i, .int .u8 k] w fun e w' => e = .returned (.bool true) ∧ Below w.heap.size w w' := by
  have HK := Lib.hid hk
  have HR := Lib.hid hr
  have lm : n ≤ maxLen := Nat.le_trans hr.cap hr.max
  unfold maxLen at lm
  have HL := Lib.hid hr.len
  obtain ⟨i0, i1⟩ := u8_bounds wi
  obtain ⟨k0, k1⟩ := u8_bounds wk
  clear hk hr wi wk
  by_cases hn : n ≤ 1000
  · obtain ⟨U, hU⟩ : ∃ U, U = sum xs := ⟨_, rfl⟩
    have UL := Lib.hid (show U.length = 64 by rw [hU]; exact sum_length xs)
    have HO := Lib.hid (show ∀ W A c, Rd W A n c xs → GOk W → Calls Tryd.prog 9 #[.slice A n c] W (New W.heap.size W U) from fun W A c h g => by rw [hU]; exact one_any A n c xs W h g (by omega))
    have hni : ¬ 1000 < (n : Int) := by omega
    clear hU
    obtain ⟨p, hp⟩ : ∃ p : Nat, i % 80 = (p : Int) := ⟨(i % 80).toNat, by omega⟩
    obtain ⟨q, hq⟩ : ∃ q : Nat, k % 80 = (q : Int) := ⟨(k % 80).toNat, by omega⟩
    have hp8 : p < 80 := by omega
    have hq8 : q < 80 := by omega
    obtain ⟨VA, hVA⟩ : ∃ V : Nat, V = (kT.getD p 0).toNat := ⟨_, rfl⟩
    obtain ⟨VC, hVC⟩ : ∃ V : Nat, V = (kT.getD q 0).toNat := ⟨_, rfl⟩
    have HKA := Lib.hid (fun W h => k_in p VA hp8 hVA W h)
    have HKC := Lib.hid (fun W h => k_in q VC hq8 hVC W h)
    have HKZ := Lib.hid (fun W h => k_out i i0 W h)
    have hv0 : ((VA : Int) != 0) = true := by
      have := kT_ne p hp8
      rw [← hVA] at this
      simp only [bne_iff_ne, ne_eq]
      omega
    have hinj := kT_inj p q hp8 hq8
    rw [← hVA, ← hVC] at hinj
    have heq : ((VA : Int) == (VC : Int)) = ((p : Int) == (q : Int)) := by
      rw [Bool.eq_iff_iff]
      simp only [beq_iff_eq]
      omega
    obtain ⟨bb, hbb⟩ : ∃ bb : Bool, bb = ((p : Int) == (q : Int)) := ⟨_, rfl⟩
    rw [← hbb] at heq
    replace hbb := hbb.symm
    have hwi : IntKind.i64.wrap i = i := by rw [IntKind.wrap_i64]; omega
    have hwk : IntKind.i64.wrap k = k := by rw [IntKind.wrap_i64]; omega
    have hw8 : IntKind.i64.wrap (80 + i) = 80 + i := by rw [IntKind.wrap_i64]; omega
    clear hVA hVC hinj
    go_enter Tryd.func6, Tryd.ntmps6
    go_wp2_with (first
      | (go_at_call 7; ((with_reducible refine (awake_true _ HK.out).mono ?_); rintro e w1 ⟨rfl, hb1⟩; have B1 := Lib.hid hb1; clear hb1))
      | (go_at_call 9; ((with_reducible refine (HO.out _ A c (HR.out.below B1.out) (HK.out.below (Nat.le_refl _) B1.out)).mono ?_); rintro e w4 ⟨A4, n4, c4, rfl, o4, b4⟩; have O4 := Lib.hid o4; have B4 := Lib.hid (B1.out.trans (b4.mono B1.out.size)); have S4 := Lib.hid (show w1.heap.size ≤ w4.heap.size from b4.size); have B34 := Lib.hid b4; obtain rfl : 64 = n4 := (by have := own_len o4; rw [UL.out] at this; exact this); clear o4 b4))
      | (at_builtin; refine append_rd rfl (.tmp 19) (.tmp 20) rfl w4.heap.size (.slice (some ⟨w4.heap.size, 0, none⟩) 0 0) 0 [] rfl (own_lit_u8 w4 w4.heap.size [] (Nat.le_refl _) (by simp [maxLen])) A4 64 c4 U rfl ((Rd.own O4.out).alloc _) (by decide) (by simp) ?_; intro v5 w5 hown5 hg5))
    obtain ⟨A5, c5, rfl⟩ := own_form hown5
    have hown5 : w5.ownsRow w4.heap.size 5 1 (.slice A5 64 c5) 64 (bv U) := hown5
    obtain ⟨b4, cap4, hv4, hb4, hlt4⟩ := O4.out.form (by decide)
    injection hv4 with hA4 _ hc4
    subst hA4
    have hown4 : w5.ownsRow w1.heap.size 5 1 (.slice (some ⟨b4, 0, none⟩) 64 c4) 64 (bv U) := own_keep (O4.out.alloc _) hg5 (by simp [Value.ownBlock]; omega)
    have hB5 : Below w1.heap.size w1 w5 := (B34.out.alloc B34.out.size _).grown hg5 (by have := S4.out; simp; omega) (fun k hk => by have := S4.out; simp [Value.ownBlock] at hk; omega)
    clear hg5 hc4
    go_loopw [9] (fun i wr => ∃ (k : Nat) (zs : List UInt8), k ≤ 64 ∧ i = .int .i64 (k : Int) ∧ wr.ownsRow w1.heap.size 5 1 (.slice (some ⟨b4, 0, none⟩) 64 c4) 64 (bv zs) ∧ wr.ownsRow w4.heap.size 5 1 (.slice A5 64 c5) 64 (bv U) ∧ Below w1.heap.size w1 wr)
      (fun i _ => 64 - (intOf i).toNat)
    case atStart => exact ⟨0, U, by omega, rfl, hown4, hown5, hB5⟩
    case round =>
      obtain ⟨j, zs, hj64, rfl, ho4, ho5, hB⟩ := hrel
      clear hown4 hown5 hB5
      by_cases hlt : j < 64
      · have zl := own_len ho4
        have hc := ho4.cellAt j (by omega)
        have hf := ho4.frozenAt j
        have hs := ho4.stored j
        rw [bv_at _ _ (by omega)] at hc
        have hinc := u8_inc (zs[j]'(by omega))
        obtain ⟨z, hz⟩ : ∃ z, z = zs[j]'(by omega) := ⟨_, rfl⟩
        rw [← hz] at hc hinc
        have hbB : w1.heap.size ≤ b4 := hb4
        have i2 : (j : Int) < 64 := by omega
        clear hz zl hwi hwk hw8 hp hq
        go_wp2
        clear hinc
        go_roundw
        case rel => exact ⟨j + 1, zs.set j (z + 1), by omega, by go_num, by rw [← bv_set]; exact (hs _).1, ownsRow_setCell_below ho5 (by simp; omega) _, hB.setCell (by simp; omega) _⟩
        case measure => simp [intOf]; omega
      · obtain rfl : j = 64 := by omega
        clear ho4 hlt hj64 hlt4 hb4
        have B5 := Lib.hid (B1.out.trans (hB.mono B1.out.size))
        have R5 := Lib.hid (Rd.own ho5)
        have R0 := Lib.hid (HR.out.below B5.out)
        clear ho5 hB
        go_wp2_with (first
          | (go_at_call 9; ((with_reducible refine (HO.out _ A c R0.out (HK.out.below (Nat.le_refl _) B5.out)).mono ?_); intro e w7 h7; obtain ⟨A7, c7, rfl, r7, b7⟩ := new_len h7; have R7 := Lib.hid r7; have Y7 := Lib.hid (R5.out.below b7); have B7 := Lib.hid (B5.out.trans (b7.mono B5.out.size)); clear h7 r7 b7))
          | (go_at_call 8; ((with_reducible refine (rsame_true A7 A5 _ c7 64 c5 U U w7 R7.out Y7.out rfl).mono ?_); rintro e w8 ⟨rfl, b8⟩; have B8 := Lib.hid (B7.out.trans (b8.mono B7.out.size)); clear b8))
          | (go_at_call 11; ((with_reducible refine (HKA.out _ (HK.out.below (Nat.le_refl _) B8.out).k).mono ?_); rintro e w9 ⟨rfl, rfl⟩))
          | (go_at_call 11; ((with_reducible refine (HKC.out _ (HK.out.below (Nat.le_refl _) B8.out).k).mono ?_); rintro e w9 ⟨rfl, rfl⟩))
          | (go_at_call 11; ((with_reducible refine (HKZ.out _ (HK.out.below (Nat.le_refl _) B8.out).k).mono ?_); rintro e w9 ⟨rfl, rfl⟩)))
        go_ret
        exact ⟨rfl, B8.out⟩
  · have hni : 1000 < (n : Int) := by omega
    go_enter Tryd.func6, Tryd.ntmps6
    go_wp2_with (go_at_call 7; ((with_reducible refine (awake_true _ HK.out).mono ?_); rintro e w1 ⟨rfl, hb1⟩; have B1 := Lib.hid hb1; clear hb1))
    go_ret
    exact ⟨rfl, B1.out⟩
end Go.Proofs.YtimcflbhddlpcaaDoor.S5
