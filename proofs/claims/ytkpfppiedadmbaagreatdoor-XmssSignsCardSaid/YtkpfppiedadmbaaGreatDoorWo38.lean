/-
  Texts put together: XmQ, XmS, Yf1. No statement is proved here.
-/
import Derived.Test.YtkpfppiedadmbaaGreatDoorWo37
import Derived.Test.YtkpfppiedadmbaaGreatDoorWo18
import Derived.Test.YtkpfppiedadmbaaGreatDoorWo23

/-
  What the first question of each statement of layer 16 answers. No statement is proved here.
-/
namespace Go.Proofs.YtkpfppiedadmbaaGreatDoor.S16
set_option linter.unusedSimpArgs false
set_option linter.unusedVariables false
set_option maxRecDepth 4096
open Go.RowKit S15

abbrev zz32 : List UInt8 := List.replicate 32 0
set_option maxHeartbeats 4000000 in
theorem awake16_core (M : XC) (w : World) (hk : M.ok w) (PB SG : List UInt8)
    (hpb : ∀ X z, M.ok X → Rd X (some ⟨z, 0, none⟩) 32 32 zz32 → Calls Tryz.prog 10 #[.agg #[.int .i64 1, .int .i64 1], .agg #[.slice (some ⟨z, 0, none⟩) 32 32, .slice (some ⟨z, 0, none⟩) 32 32, .slice (some ⟨z, 0, none⟩) 32 32]] X (GivesN X 64 PB))
    (hs1 : ∀ X z, M.ok X → Rd X (some ⟨z, 0, none⟩) 32 32 zz32 → Calls Tryz.prog 7 #[.agg #[.int .i64 1, .int .i64 1], .agg #[.slice (some ⟨z, 0, none⟩) 32 32, .slice (some ⟨z, 0, none⟩) 32 32, .slice (some ⟨z, 0, none⟩) 32 32], .int .u64 1, .slice (some ⟨z, 0, none⟩) 32 32] X (GivesSN X 2216 SG 0))
    (hs2 : ∀ X z, M.ok X → Rd X (some ⟨z, 0, none⟩) 32 32 zz32 → Calls Tryz.prog 7 #[.agg #[.int .i64 1, .int .i64 1], .agg #[.slice (some ⟨z, 0, none⟩) 32 32, .slice (some ⟨z, 0, none⟩) 32 32, .slice (some ⟨z, 0, none⟩) 32 32], .int .u64 2, .slice (some ⟨z, 0, none⟩) 32 32] X (GivesSN X 0 [] 9))
    (hmy : ∀ X, M.ok X → Calls Tryz.prog 16 #[.agg #[.int .i64 1, .int .i64 1]] X (GivesB true X))
    (htt : ∀ X, M.ok X → Calls Tryz.prog 17 #[.agg #[.int .i64 1, .int .i64 1]] X (GivesV (.int .u64 2) X))
    (hz1 : ∀ X, M.ok X → Calls Tryz.prog 18 #[.agg #[.int .i64 1, .int .i64 1]] X (GivesV (.int .i64 2216) X))
    (hz2 : ∀ X, M.ok X → Calls Tryz.prog 18 #[.agg #[.int .i64 2, .int .i64 2]] X (GivesV (.int .i64 4456) X))
    (hft : ∀ X z A c A' c', M.ok X → Rd X A 64 c PB → Rd X (some ⟨z, 0, none⟩) 32 32 zz32 → Rd X A' 2216 c' SG → Calls Tryz.prog 14 #[.agg #[.int .i64 1, .int .i64 1], .slice A 64 c, .slice (some ⟨z, 0, none⟩) 32 32, .slice A' 2216 c'] X (GivesB true X))
    (hfn : ∀ X z A c, M.ok X → Rd X A 64 c PB → Rd X (some ⟨z, 0, none⟩) 32 32 zz32 → Calls Tryz.prog 14 #[.agg #[.int .i64 1, .int .i64 1], .slice A 64 c, .slice (some ⟨z, 0, none⟩) 32 32, .slice none 0 0] X (GivesB false X)) :
    Calls Tryz.prog 5 #[] w (GivesB true w) := by
  have HK := Lib.hid hk
  have HPB := Lib.hid hpb
  have HS1 := Lib.hid hs1
  have HS2 := Lib.hid hs2
  have HMY := Lib.hid hmy
  have HTT := Lib.hid htt
  have HZ1 := Lib.hid hz1
  have HZ2 := Lib.hid hz2
  have HFT := Lib.hid hft
  have HFN := Lib.hid hfn
  clear hk hpb hs1 hs2 hmy htt hz1 hz2 hft hfn
  have hmk : ∀ X, (Instr.makeSlice 24 (.int .i64 32) (.int .i64 32)).run Tryz.prog X = .ok (.slice (some ⟨X.heap.size, 0, none⟩) 32 32) (X.alloc (.cells (madeCells #[Value.int .u8 0] 32) 5)) := fun _ => by kernel_rfl
  have hmc := bv_zero 32
  generalize madeCells #[Value.int .u8 0] 32 = mc at hmk hmc
  obtain ⟨z, hz⟩ : ∃ z, w.heap.size = z := ⟨_, rfl⟩
  obtain ⟨w0, hw0⟩ : ∃ w0, w.alloc (.cells mc 5) = w0 := ⟨_, rfl⟩
  have B0 := Lib.hid (show Below w.heap.size w w0 by rw [← hw0]; exact (Below.refl _ _).alloc (Nat.le_refl _) _)
  have R0 := Lib.hid (show Rd w0 (some ⟨z, 0, none⟩) 32 32 zz32 by
    rw [← hw0, ← hz]
    obtain ⟨mc⟩ := mc
    simp only at hmc
    subst hmc
    have ho := own_lit_u8 w w.heap.size (List.replicate 32 0) (Nat.le_refl _) (by simp [maxLen])
    simp only [List.length_replicate] at ho
    exact Rd.own ho)
  go_enter Tryz.func5, Tryz.ntmps5
  go_upto_region 3 with (fail)
  obtain ⟨d, hd⟩ : ∃ d, w0.heap.size = d := ⟨_, rfl⟩
  obtain ⟨w1, hw1⟩ : ∃ w1, w0.alloc (.cells (mkA (some ⟨z, 0, none⟩) 32 32 (some ⟨z, 0, none⟩) 32 32 (some ⟨z, 0, none⟩) 32 32) 26) = w1 := ⟨_, rfl⟩
  have M1 := Lib.hid (show Bk w1 d 26 (mkA (some ⟨z, 0, none⟩) 32 32 (some ⟨z, 0, none⟩) 32 32 (some ⟨z, 0, none⟩) 32 32) by rw [← hw1]; exact Bk.newAt _ _ _ _ hd)
  have B1 := Lib.hid (show Below w.heap.size w w1 by rw [← hw1]; exact B0.out.alloc B0.out.size _)
  have R1 := Lib.hid (show Rd w1 (some ⟨z, 0, none⟩) 32 32 zz32 by rw [← hw1]; exact R0.out.alloc _)
  have s1 : w1.heap.size = d + 1 := by rw [← hw1]; simp [hd]
  first
    | rw [hw1, hd]
    | rw [hd]
    | skip
  clear hw1 hd hw0 hz hmk hmc
  go_upto_region 4 with (fail)
  obtain ⟨w2, hw2⟩ : ∃ w2, w1.alloc (.cells (shA 1 1) 23) = w2 := ⟨_, rfl⟩
  have X2 := Lib.hid (show Bk w2 (d + 1) 23 (shA 1 1) by rw [← hw2]; exact Bk.newAt _ _ _ _ s1)
  have M2 := Lib.hid (show Bk w2 d 26 (mkA (some ⟨z, 0, none⟩) 32 32 (some ⟨z, 0, none⟩) 32 32 (some ⟨z, 0, none⟩) 32 32) by rw [← hw2]; exact M1.out.alloc _)
  have B2 := Lib.hid (show Below w.heap.size w w2 by rw [← hw2]; exact B1.out.alloc B1.out.size _)
  have R2 := Lib.hid (show Rd w2 (some ⟨z, 0, none⟩) 32 32 zz32 by rw [← hw2]; exact R1.out.alloc _)
  first
    | rw [hw2]
    | skip
  clear hw2 s1
  have KS := Lib.hid (show ∀ X, Below w2.heap.size w2 X → X.cell? ⟨d + 1, 0, none⟩ = some (.int .i64 1) ∧ X.cell? ⟨d + 1, 1, none⟩ = some (.int .i64 1) ∧ X.cell? ⟨d, 0, none⟩ = some (.slice (some ⟨z, 0, none⟩) 32 32) ∧ X.cell? ⟨d, 1, none⟩ = some (.slice (some ⟨z, 0, none⟩) 32 32) ∧ X.cell? ⟨d, 2, none⟩ = some (.slice (some ⟨z, 0, none⟩) 32 32) from fun X hX =>
    ⟨(X2.out.below hX X2.out.lt).cell 0, (X2.out.below hX X2.out.lt).cell 1, (M2.out.below hX M2.out.lt).cell 0, (M2.out.below hX M2.out.lt).cell 1, (M2.out.below hX M2.out.lt).cell 2⟩)
  have BW := Lib.hid (show ∀ X, Below w2.heap.size w2 X → Below w.heap.size w X from fun X hX => B2.out.trans (hX.mono B2.out.size))
  have OK := Lib.hid (show ∀ X, Below w2.heap.size w2 X → M.ok X ∧ Rd X (some ⟨z, 0, none⟩) 32 32 zz32 from fun X hX => ⟨M.bel HK.out (BW.out X hX), R2.out.below hX⟩)
  have BR := Lib.hid (Below.refl w2.heap.size w2)
  obtain ⟨k0, k1, k2, k3, k4⟩ := KS.out _ BR.out
  go_upto_region 5 with (go_at_call 10; ((with_reducible refine (HPB.out _ z (OK.out _ BR.out).1 (OK.out _ BR.out).2).mono ?_); rintro e w3 ⟨A3, c3, rfl, r3, b3⟩; have P3 := Lib.hid r3; have B3 := Lib.hid b3; clear r3 b3))
  clear k0 k1 k2 k3 k4
  obtain ⟨k0, k1, k2, k3, k4⟩ := KS.out _ B3.out
  go_upto_region 6 with (go_at_call 7; ((with_reducible refine (HS1.out _ z (OK.out _ B3.out).1 (OK.out _ B3.out).2).mono ?_); rintro e w4 ⟨A4, c4, rfl, r4, b4⟩; have S4 := Lib.hid r4; have B4 := Lib.hid (B3.out.trans (b4.mono B3.out.size)); have P4 := Lib.hid (P3.out.below b4); clear r4 b4))
  clear k0 k1 k2 k3 k4
  obtain ⟨k0, k1, k2, k3, k4⟩ := KS.out _ B4.out
  go_upto_region 7 with (go_at_call 7; ((with_reducible refine (HS2.out _ z (OK.out _ B4.out).1 (OK.out _ B4.out).2).mono ?_); rintro e w5 ⟨A5, c5, rfl, r5, b5⟩; have S5 := Lib.hid (S4.out.below b5); have B5 := Lib.hid (B4.out.trans (b5.mono B4.out.size)); have P5 := Lib.hid (P4.out.below b5); clear r5 b5))
  clear k0 k1 k2 k3 k4
  obtain ⟨k0, k1, k2, k3, k4⟩ := KS.out _ B5.out
  go_wp2_with (first
    | (go_at_call 16; ((with_reducible refine (HMY.out _ (OK.out _ B5.out).1).mono ?_); rintro e w6 ⟨rfl, b6⟩; have B6 := Lib.hid (B5.out.trans (b6.mono B5.out.size)); have S6 := Lib.hid (S5.out.below b6); have P6 := Lib.hid (P5.out.below b6); obtain ⟨l0, l1, l2, l3, l4⟩ := KS.out _ B6.out; clear b6))
    | (go_at_call 17; ((with_reducible refine (HTT.out _ (OK.out _ B6.out).1).mono ?_); rintro e w7 ⟨rfl, b7⟩; have B7 := Lib.hid (B6.out.trans (b7.mono B6.out.size)); have S7 := Lib.hid (S6.out.below b7); have P7 := Lib.hid (P6.out.below b7); clear b7))
    | (go_at_call 18; ((with_reducible refine (HZ2.out _ (OK.out _ B7.out).1).mono ?_); rintro e w8 ⟨rfl, b8⟩; have B8 := Lib.hid (B7.out.trans (b8.mono B7.out.size)); have S8 := Lib.hid (S7.out.below b8); have P8 := Lib.hid (P7.out.below b8); obtain ⟨m0, m1, m2, m3, m4⟩ := KS.out _ B8.out; clear b8))
    | (go_at_call 18; ((with_reducible refine (HZ1.out _ (OK.out _ B8.out).1).mono ?_); rintro e w9 ⟨rfl, b9⟩; have B9 := Lib.hid (B8.out.trans (b9.mono B8.out.size)); have S9 := Lib.hid (S8.out.below b9); have P9 := Lib.hid (P8.out.below b9); obtain ⟨n0, n1, n2, n3, n4⟩ := KS.out _ B9.out; clear b9))
    | (go_at_call 14; ((with_reducible refine (HFT.out _ z A3 c3 A4 c4 (OK.out _ B9.out).1 P9.out (OK.out _ B9.out).2 S9.out).mono ?_); rintro e w10 ⟨rfl, b10⟩; have B10 := Lib.hid (B9.out.trans (b10.mono B9.out.size)); have P10 := Lib.hid (P9.out.below b10); obtain ⟨o0, o1, o2, o3, o4⟩ := KS.out _ B10.out; clear b10))
    | (go_at_call 14; ((with_reducible refine (HFN.out _ z A3 c3 (OK.out _ B10.out).1 P10.out (OK.out _ B10.out).2).mono ?_); rintro e w11 ⟨rfl, b11⟩; have B11 := Lib.hid (B10.out.trans (b11.mono B10.out.size)); clear b11)))
  go_ret
  exact ⟨rfl, BW.out _ B11.out⟩
theorem zz_len : zz32.length = 32 := by simp
theorem putL_mod' (V n : Nat) : getL (putL V n) = V % 256 ^ n := by
  have gen : ∀ (n a : Nat), (putL V n).foldl (fun v c => v * 256 + c.toNat) a = a * 256 ^ n + V % 256 ^ n := by
    intro n
    induction n with
    | zero => intro a; simp [putL, Nat.mod_one]
    | succ n ih =>
      intro a
      rw [putL, List.foldl_cons, ih]
      have e : (UInt8.ofNat (V / 256 ^ n)).toNat = V / 256 ^ n % 256 := by simp
      have h : V % 256 ^ (n + 1) = V / 256 ^ n % 256 * 256 ^ n + V % 256 ^ n := by
        rw [Nat.pow_succ, Nat.mod_mul, Nat.add_comm, Nat.mul_comm]
      rw [e, h, Nat.pow_succ, Nat.add_mul, Nat.add_assoc]
      congr 1
      rw [Nat.mul_assoc, Nat.mul_comm 256]
  simpa [getL] using gen n 0
theorem putL_mod16 (n : Nat) (hn : n < 18446744073709551616) : getL (putL n 8) = n := by
  rw [putL_mod']
  exact Nat.mod_eq_of_lt (by simpa using hn)
theorem awake16 (M : XC) (w : World) (hk : M.ok w) : Calls Tryz.prog 5 #[] w (GivesB true w) := by
  have hz := zz_len
  have hm : madeX 1 1 zz32.length zz32.length zz32.length = true := by rw [hz]; rfl
  have hm1 : mayX 1 1 = true := rfl
  have t1 : totN 1 1 = 2 := rfl
  have e1 : pubX 1 1 zz32 zz32 zz32 = pubN zz32 zz32 1 1 := by rw [pubX, if_pos hm]; rfl
  have e2 : sigX 1 1 zz32 zz32 zz32 1 zz32 = sigN zz32 zz32 zz32 1 1 1 zz32 := by rw [sigX, if_pos ⟨hm, by rw [hz]; omega, by show 1 < totN 1 1; rw [t1]; omega⟩]; rfl
  have e3 : codeX 1 1 zz32 zz32 zz32 1 zz32 = 0 := by rw [codeX, if_pos ⟨hm, by rw [hz]; omega⟩, if_pos (by show 1 < totN 1 1; rw [t1]; omega)]
  have e4 : sigX 1 1 zz32 zz32 zz32 2 zz32 = [] := by rw [sigX, if_neg]; rintro ⟨_, _, h⟩; have : 2 < totN 1 1 := h; rw [t1] at this; omega
  have e5 : codeX 1 1 zz32 zz32 zz32 2 zz32 = 9 := by rw [codeX, if_pos ⟨hm, by rw [hz]; omega⟩, if_neg (by show ¬ 2 < totN 1 1; rw [t1]; omega)]
  have l1 : (pubN zz32 zz32 1 1).length = 64 := pub_len _ _ _ _ hz
  have l2 : (sigN zz32 zz32 zz32 1 1 1 zz32).length = 2216 := sig_len _ _ _ _ _ _ _
  have e6 : fitX 1 1 (pubN zz32 zz32 1 1) zz32 (sigN zz32 zz32 zz32 1 1 1 zz32) = true := by
    rw [fitX, if_pos ⟨hm1, l1, l2, by rw [hz]; omega⟩]
    exact fits_signed zz32 zz32 zz32 1 1 1 zz32 hz (by omega) (by rw [t1]; omega) (by omega) (putL_mod16 1 (by omega))
  have e7 : fitX 1 1 (pubN zz32 zz32 1 1) zz32 [] = false := cut_unfit 1 1 _ _ _ (by show 0 ≠ sizeX 1 1; decide)
  generalize pubN zz32 zz32 1 1 = PB at *
  generalize sigN zz32 zz32 zz32 1 1 1 zz32 = SG at *
  refine awake16_core M w hk PB SG ?_ ?_ ?_ ?_ ?_ ?_ ?_ ?_ ?_
  · intro X z g h
    have h9 := M.pub 1 1 (some ⟨z, 0, none⟩) 32 32 zz32 (some ⟨z, 0, none⟩) 32 32 zz32 (some ⟨z, 0, none⟩) 32 32 zz32 X g h h h
    rw [e1] at h9
    exact h9.mono fun _ _ h => givesN h l1
  · intro X z g h
    have h9 := M.sign 1 1 (some ⟨z, 0, none⟩) 32 32 zz32 (some ⟨z, 0, none⟩) 32 32 zz32 (some ⟨z, 0, none⟩) 32 32 zz32 1 (some ⟨z, 0, none⟩) 32 32 zz32 X g h h h (by omega) h
    rw [e2, e3] at h9
    exact h9.mono fun _ _ h => givesSN h l2
  · intro X z g h
    have h9 := M.sign 1 1 (some ⟨z, 0, none⟩) 32 32 zz32 (some ⟨z, 0, none⟩) 32 32 zz32 (some ⟨z, 0, none⟩) 32 32 zz32 2 (some ⟨z, 0, none⟩) 32 32 zz32 X g h h h (by omega) h
    rw [e4, e5] at h9
    exact h9.mono fun _ _ h => givesSN h rfl
  · intro X g
    exact M.may 1 1 X g
  · intro X g
    exact M.total 1 1 X g
  · intro X g
    exact M.size 1 1 X g
  · intro X g
    exact M.size 2 2 X g
  · intro X z A c A' c' g h1 h2 h3
    have h9 := M.fits 1 1 A 64 c PB (some ⟨z, 0, none⟩) 32 32 zz32 A' 2216 c' SG X g h1 h2 h3
    rw [e6] at h9
    exact h9
  · intro X z A c g h1 h2
    have h9 := M.fits 1 1 A 64 c PB (some ⟨z, 0, none⟩) 32 32 zz32 none 0 0 [] X g h1 h2 (Rd.nil_ X)
    rw [e7] at h9
    exact h9
end Go.Proofs.YtkpfppiedadmbaaGreatDoor.S16

/-
  The walk of layer 16's fourth statement. No statement is proved here. (Written by genxms.py.)
-/
namespace Go.Proofs.YtkpfppiedadmbaaGreatDoor.S16
set_option linter.unusedSimpArgs false
set_option linter.unusedVariables false
set_option maxRecDepth 4096
open Go.RowKit S15

def lightX (L H : Int) : Bool := !mayX L H || (decide (6 < H) || (decide (H ≤ 2) && decide (L ≤ 2)))
set_option maxHeartbeats 2000000 in
theorem rlight_any (L H : Int) (w : World) : Calls Tryz.prog 6 #[.agg (shA L H)] w (GivesB (lightX L H) w) := by
  have HM := Lib.hid (show ∀ X, Calls Tryz.prog 19 #[.agg #[.int .i64 L, .int .i64 H]] X (GivesB (mayX L H) X) from fun X => rmay16_any L H X)
  obtain ⟨g, hg⟩ : ∃ g, w.heap.size = g := ⟨_, rfl⟩
  obtain ⟨w0, hw0⟩ : ∃ w0, w.alloc (.cells (shA L H) 23) = w0 := ⟨_, rfl⟩
  have M0 := Lib.hid (show Bk w0 g 23 (shA L H) by rw [← hw0, ← hg]; exact Bk.new _ _ _)
  have B0 := Lib.hid (show Below w.heap.size w w0 by rw [← hw0]; exact (Below.refl _ _).alloc (Nat.le_refl _) _)
  have k0 : w0.cell? ⟨g, 0, none⟩ = some (.int .i64 L) := M0.out.cell 0
  have k1 : w0.cell? ⟨g, 1, none⟩ = some (.int .i64 H) := M0.out.cell 1
  by_cases c : mayX L H = true
  · rw [c] at HM
    by_cases c6 : 6 < H
    · have e : lightX L H = true := by simp [lightX, c6]
      rw [e]
      clear e c
      go_enter Tryz.func6, Tryz.ntmps6
      go_upto_region 1 with (fail)
      clear hw0 hg
      go_wp2_with (go_at_call 19; ((with_reducible refine (HM.out _).mono ?_); rintro e w1 ⟨rfl, b1⟩; have B1 := Lib.hid (B0.out.trans (b1.mono B0.out.size)); have M1 := M0.out.below b1 M0.out.lt; have j0 := M1.cell 0; have j1 := M1.cell 1; simp only [List.getElem?_toArray, List.getElem?_cons_zero, List.getElem?_cons_succ] at j0 j1; clear b1 M1))
      go_ret
      exact ⟨rfl, B1.out⟩
    · by_cases c2 : H ≤ 2
      · have d6 : decide ((6 : Int) < H) = false := by simpa using c6
        have e : lightX L H = decide (L ≤ 2) := by simp [lightX, c, c2, c6]
        rw [e]
        clear e c
        go_enter Tryz.func6, Tryz.ntmps6
        go_upto_region 1 with (fail)
        clear hw0 hg
        go_wp2_with (go_at_call 19; ((with_reducible refine (HM.out _).mono ?_); rintro e w1 ⟨rfl, b1⟩; have B1 := Lib.hid (B0.out.trans (b1.mono B0.out.size)); have M1 := M0.out.below b1 M0.out.lt; have j0 := M1.cell 0; have j1 := M1.cell 1; simp only [List.getElem?_toArray, List.getElem?_cons_zero, List.getElem?_cons_succ] at j0 j1; clear b1 M1))
        go_ret
        exact ⟨rfl, B1.out⟩
      · have d6 : decide ((6 : Int) < H) = false := by simpa using c6
        have e : lightX L H = false := by simp [lightX, c, c2, c6]
        rw [e]
        clear e c
        go_enter Tryz.func6, Tryz.ntmps6
        go_upto_region 1 with (fail)
        clear hw0 hg
        go_wp2_with (go_at_call 19; ((with_reducible refine (HM.out _).mono ?_); rintro e w1 ⟨rfl, b1⟩; have B1 := Lib.hid (B0.out.trans (b1.mono B0.out.size)); have M1 := M0.out.below b1 M0.out.lt; have j0 := M1.cell 0; have j1 := M1.cell 1; simp only [List.getElem?_toArray, List.getElem?_cons_zero, List.getElem?_cons_succ] at j0 j1; clear b1 M1))
        go_ret
        exact ⟨rfl, B1.out⟩
  · have c : mayX L H = false := by simpa using c
    have e : lightX L H = true := by simp [lightX, c]
    rw [e]
    rw [c] at HM
    clear e c
    go_enter Tryz.func6, Tryz.ntmps6
    go_upto_region 1 with (fail)
    clear hw0 hg
    go_wp2_with (go_at_call 19; ((with_reducible refine (HM.out _).mono ?_); rintro e w1 ⟨rfl, b1⟩; have B1 := Lib.hid (B0.out.trans (b1.mono B0.out.size)); have M1 := M0.out.below b1 M0.out.lt; have j0 := M1.cell 0; have j1 := M1.cell 1; simp only [List.getElem?_toArray, List.getElem?_cons_zero, List.getElem?_cons_succ] at j0 j1; clear b1 M1))
    go_ret
    exact ⟨rfl, B1.out⟩
theorem rget_step16 (xs : List UInt8) (k : Nat) (hk : k < xs.length) (h8 : k < 8) :
    IntKind.u64.wrap (IntKind.u64.wrap ((getL (xs.take k) : Nat) * 256) + IntKind.u64.wrap ((xs[k]?.getD 0).toNat : Int)) = (getL (xs.take (k + 1)) : Nat) := by
  have hg := getL_lt (xs.take k)
  rw [List.length_take, Nat.min_eq_left (by omega)] at hg
  have h7 : 256 ^ k ≤ 256 ^ 7 := Nat.pow_le_pow_right (by omega) (by omega)
  have hc := (xs[k]'hk).toNat_lt
  rw [List.take_succ_eq_append_getElem hk, getL_snoc, List.getElem?_eq_getElem hk, Option.getD_some]
  simp only [IntKind.wrap_u64]
  omega

theorem rget_any16 (A : Option Addr) (n c : Nat) (xs : List UInt8) (w : World) (hn : n ≤ 8) (h : Rd w A n c xs) :
    Calls Tryz.prog 49 #[.slice A n c] w fun e w' => e = .returned (.tuple #[.int .u64 (getL xs : Nat), .bool true]) ∧ w = w' := by
  go_enter Tryz.func49, Tryz.ntmps49
  go_wp2
  go_loop [4, 5] (fun v i => ∃ k : Nat, k ≤ n ∧ i = .int .i64 k ∧ v = .int .u64 (getL (xs.take k) : Nat)) (fun _ i => n - (intOf i).toNat)
  case atStart => exact ⟨0, Nat.zero_le _, rfl, rfl⟩
  case round =>
    obtain ⟨k, hk, rfl, rfl⟩ := hrel
    by_cases hlt : k < n
    · obtain ⟨b, off, rfl, hb, hcell⟩ := h.at_ (by omega)
      have hc := hcell k hlt
      clear hcell
      go_wp2
      go_round
      case rel =>
        exact ⟨k + 1, by omega, by go_num, by rw [← rget_step16 xs k (by have := h.len; omega) (by omega)]⟩
      case measure => simp [intOf]; omega
    · obtain rfl : k = n := by omega
      go_wp2
      go_ret2
      have e := h.len
      exact ⟨by rw [List.take_of_length_le (by omega)]; rfl, rfl⟩
abbrev toA (N : Nat) (At : Option Addr) (nt ct : Nat) : Array Value := #[.int .u64 (N : Int), .slice At nt ct]
/-- What the arguments are, boxed. -/
theorem sh3 {w : World} {L H : Int} {As Al Ae At : Option Addr} {ns cs nl cl ne ce N nt ct : Nat} {g : Nat} {w0 : World} (hg : w.heap.size = g) (hw : ((w.alloc (.cells (shA L H) 23)).alloc (.cells (mkA As ns cs Al nl cl Ae ne ce) 26)).alloc (.cells (toA N At nt ct) 29) = w0) :
    Bk w0 g 23 (shA L H) ∧ Bk w0 (g + 1) 26 (mkA As ns cs Al nl cl Ae ne ce) ∧ Bk w0 (g + 2) 29 (toA N At nt ct) ∧ Below w.heap.size w w0 := by
  obtain ⟨h1, h2, h3⟩ := sh_m (w := w) (L := L) (H := H) (As := As) (ns := ns) (cs := cs) (Al := Al) (nl := nl) (cl := cl) (Ae := Ae) (ne := ne) (ce := ce) hg
  rw [← hw]
  exact ⟨h1.alloc _, h2.alloc _, Bk.newAt _ _ _ _ (by simp [hg]), h3.alloc h3.size _⟩
theorem cells7 {w : World} {g : Nat} {L H : Int} {As Al Ae At : Option Addr} {ns cs nl cl ne ce N nt ct : Nat} (h : Bk w g 23 (shA L H)) (h' : Bk w (g + 1) 26 (mkA As ns cs Al nl cl Ae ne ce)) (h'' : Bk w (g + 2) 29 (toA N At nt ct)) :
    w.cell? ⟨g, 0, none⟩ = some (.int .i64 L) ∧ w.cell? ⟨g, 1, none⟩ = some (.int .i64 H) ∧ w.cell? ⟨g + 1, 0, none⟩ = some (.slice As ns cs) ∧ w.cell? ⟨g + 1, 1, none⟩ = some (.slice Al nl cl) ∧ w.cell? ⟨g + 1, 2, none⟩ = some (.slice Ae ne ce) ∧ w.cell? ⟨g + 2, 0, none⟩ = some (.int .u64 (N : Int)) ∧ w.cell? ⟨g + 2, 1, none⟩ = some (.slice At nt ct) :=
  ⟨h.cell 0, h.cell 1, h'.cell 0, h'.cell 1, h'.cell 2, h''.cell 0, h''.cell 1⟩
end Go.Proofs.YtkpfppiedadmbaaGreatDoor.S16

/-
  The document's own Fits of layer 16: where the shape, the lengths or the index don't allow it. No statement is proved here.
-/
namespace Go.Proofs.YtkpfppiedadmbaaGreatDoor.S16
set_option linter.unusedSimpArgs false
set_option linter.unusedVariables false
set_option maxRecDepth 4096
open Go.RowKit S15

set_option maxHeartbeats 4000000 in
theorem rfits_not (L H : Int) (Ap : Option Addr) (np cp : Nat) (At : Option Addr) (nt ct : Nat) (Ag : Option Addr) (ng cg : Nat) (w : World) (h : mayX L H = false ∨ np ≠ 64 ∨ ng ≠ sizeX L H ∨ 65536 < nt) :
    Calls Tryz.prog 15 #[.agg (shA L H), .slice Ap np cp, .slice At nt ct, .slice Ag ng cg] w (GivesB false w) := by
  have CM := Lib.hid (show ∀ X, Calls Tryz.prog 19 #[.agg #[.int .i64 L, .int .i64 H]] X (GivesB (mayX L H) X) from fun X => rmay16_any L H X)
  have CS := Lib.hid (show ∀ X, Calls Tryz.prog 48 #[.agg #[.int .i64 L, .int .i64 H]] X (GivesV (.int .i64 (sizeX L H : Int)) X) from fun X => rsize_any L H X)
  obtain ⟨g, hg⟩ : ∃ g, w.heap.size = g := ⟨_, rfl⟩
  obtain ⟨w0, hw0⟩ : ∃ w0, w.alloc (.cells (shA L H) 23) = w0 := ⟨_, rfl⟩
  have M0 := Lib.hid (show Bk w0 g 23 (shA L H) by rw [← hw0, ← hg]; exact Bk.new _ _ _)
  have B0 := Lib.hid (show Below w.heap.size w w0 by rw [← hw0]; exact (Below.refl _ _).alloc (Nat.le_refl _) _)
  have k0 : w0.cell? ⟨g, 0, none⟩ = some (.int .i64 L) := M0.out.cell 0
  have k1 : w0.cell? ⟨g, 1, none⟩ = some (.int .i64 H) := M0.out.cell 1
  generalize sizeX L H = sz at *
  by_cases c1 : mayX L H = true
  case neg =>
    have c1 : mayX L H = false := by simpa using c1
    rw [c1] at CM
    clear h c1
    go_enter Tryz.func15, Tryz.ntmps15
    go_upto_region 1 with (fail)
    clear hw0 hg
    go_wp2_with ((go_at_call 19; ((with_reducible refine (CM.out _).mono ?_); rintro e w1 ⟨rfl, b1⟩; have B1 := Lib.hid (B0.out.trans (b1.mono B0.out.size)); have M1 := Lib.hid (M0.out.below b1 M0.out.lt); have j1 := M1.out.cell 0; have i1 := M1.out.cell 1; simp only [List.getElem?_toArray, List.getElem?_cons_zero, List.getElem?_cons_succ] at j1 i1; clear b1)))
    go_ret
    exact ⟨rfl, B1.out⟩
  rw [c1] at CM
  by_cases c2 : np = 64
  case neg =>
    have t2 : ¬ (np : Int) = 64 := by omega
    clear h c1 c2
    go_enter Tryz.func15, Tryz.ntmps15
    go_upto_region 1 with (fail)
    clear hw0 hg
    go_wp2_with ((go_at_call 19; ((with_reducible refine (CM.out _).mono ?_); rintro e w1 ⟨rfl, b1⟩; have B1 := Lib.hid (B0.out.trans (b1.mono B0.out.size)); have M1 := Lib.hid (M0.out.below b1 M0.out.lt); have j1 := M1.out.cell 0; have i1 := M1.out.cell 1; simp only [List.getElem?_toArray, List.getElem?_cons_zero, List.getElem?_cons_succ] at j1 i1; clear b1)))
    go_ret
    exact ⟨rfl, B1.out⟩
  subst c2
  by_cases c3 : ng = sz
  case neg =>
    have t3 : ¬ (ng : Int) = (sz : Int) := by omega
    clear h c1 c3
    go_enter Tryz.func15, Tryz.ntmps15
    go_upto_region 1 with (fail)
    clear hw0 hg
    go_wp2_with (first
      | (go_at_call 19; ((with_reducible refine (CM.out _).mono ?_); rintro e w1 ⟨rfl, b1⟩; have B1 := Lib.hid (B0.out.trans (b1.mono B0.out.size)); have M1 := Lib.hid (M0.out.below b1 M0.out.lt); have j1 := M1.out.cell 0; have i1 := M1.out.cell 1; simp only [List.getElem?_toArray, List.getElem?_cons_zero, List.getElem?_cons_succ] at j1 i1; clear b1))
      | (go_at_call 48; ((with_reducible refine (CS.out _).mono ?_); rintro e w2 ⟨rfl, b2⟩; have B2 := Lib.hid (B1.out.trans (b2.mono B1.out.size)); have M2 := Lib.hid (M1.out.below b2 M1.out.lt); have j2 := M2.out.cell 0; have i2 := M2.out.cell 1; simp only [List.getElem?_toArray, List.getElem?_cons_zero, List.getElem?_cons_succ] at j2 i2; clear b2)))
    go_ret
    exact ⟨rfl, B2.out⟩
  subst c3
  have t4 : (65536 : Int) < (nt : Int) := by
    rcases h with h | h | h | h
    · rw [h] at c1; cases c1
    · exact absurd rfl h
    · exact absurd rfl h
    · omega
  clear h c1
  go_enter Tryz.func15, Tryz.ntmps15
  go_upto_region 1 with (fail)
  clear hw0 hg
  go_wp2_with (first
    | (go_at_call 19; ((with_reducible refine (CM.out _).mono ?_); rintro e w1 ⟨rfl, b1⟩; have B1 := Lib.hid (B0.out.trans (b1.mono B0.out.size)); have M1 := Lib.hid (M0.out.below b1 M0.out.lt); have j1 := M1.out.cell 0; have i1 := M1.out.cell 1; simp only [List.getElem?_toArray, List.getElem?_cons_zero, List.getElem?_cons_succ] at j1 i1; clear b1))
    | (go_at_call 48; ((with_reducible refine (CS.out _).mono ?_); rintro e w2 ⟨rfl, b2⟩; have B2 := Lib.hid (B1.out.trans (b2.mono B1.out.size)); have M2 := Lib.hid (M1.out.below b2 M1.out.lt); have j2 := M2.out.cell 0; have i2 := M2.out.cell 1; simp only [List.getElem?_toArray, List.getElem?_cons_zero, List.getElem?_cons_succ] at j2 i2; clear b2)))
  go_ret
  exact ⟨rfl, B2.out⟩
end Go.Proofs.YtkpfppiedadmbaaGreatDoor.S16
