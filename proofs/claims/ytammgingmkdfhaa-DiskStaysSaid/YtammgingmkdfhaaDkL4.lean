/-
  The walk of layer 19's second statement, over the contracts. No statement is proved here. (Written by gendk4.py.)
-/
import Derived.Test.YtammgingmkdfhaaDk6
import Derived.Test.YtammgingmkdfhaaDkO
import Derived.Test.YtammgingmkdfhaaSteady
import Derived.Deep.CutRange
import Derived.Deep.LoopGhost
import Derived.Deep.CutBlock
namespace Go.Proofs.Ytammgingmkdfhaa.S19
set_option linter.unusedSimpArgs false
set_option linter.unusedVariables false
set_option maxRecDepth 4096
open Go.RowKit

theorem Try.infoB : (Try.prog.info? 30).map (fun i => (i.zero, i.size, i.bytes)) = some (some (.slice none 0 0), 1, 24) := by kernel_rfl
theorem rep_made (k : Nat) (v : Value) : (madeCells #[v] k).toList = List.replicate k v := by rw [toList_madeCells_one]
theorem rep_slice (k : Nat) : (madeCells (Value.slice none 0 0).cells (k * 1)).toList = List.replicate k (.slice none 0 0) := by rw [Nat.mul_one]; exact rep_made k _
def Z64 : List UInt8 := List.replicate 64 0
theorem rep_u8 : (madeCells (Value.int .u8 0).cells (64 * 1)).toList = bv Z64 := bv_zero 64
def upto (i : Nat) : Nat → List UInt8 := fun j => if j < i then Z64 else []
theorem upto_step (i k : Nat) : ∀ j, j < k → upto (i + 1) j = upd (upto i) i Z64 j := by
  intro j _
  unfold upto upd
  by_cases h1 : j = i
  · subst h1; simp
  · by_cases h2 : j < i
    · simp [h1, h2, show j < i + 1 by omega]
    · simp [h1, h2, show ¬ j < i + 1 by omega]
def mix (j : Nat) (s f : Nat → List UInt8) : Nat → List UInt8 := fun q => if q < j then s q else f q
theorem mix_step {k : Nat} (j : Nat) (s f : Nat → List UInt8) : ∀ q, q < k → mix (j + 1) s f q = upd (mix j s f) j (s j) q := by
  intro q _
  unfold mix upd
  by_cases h1 : q = j
  · subst h1; simp
  · by_cases h2 : q < j
    · simp [h1, h2, show q < j + 1 by omega]
    · simp [h1, h2, show ¬ q < j + 1 by omega]
set_option maxHeartbeats 16000000 in
theorem diskStays_walk (M : DC) (w : World) (hk : M.ok w) (sn : Nat) (hsn : sn < 256) (A : Option Addr) (nA cA : Nat) (acts : List AcV) (hA : RA w A nA cA acts) : Calls Try.prog 4 #[.int .u8 (sn : Int), .slice A nA cA] w fun e w' => e = .returned (.bool true) ∧ Below w.heap.size w w' := by
  have HK := Lib.hid hk
  obtain ⟨N, hN⟩ : ∃ N, w.heap.size = N := ⟨_, rfl⟩
  have OKN := Lib.hid (show ∀ X, Below N w X → M.ok X from fun X hX => M.bel hk (by rw [hN]; exact hX))
  have hN0 := Lib.hid hN
  have BN := Lib.hid (show ∀ X Y, Below N w X → Below X.heap.size X Y → Below N w Y from fun X Y h h' => h.trans (h'.mono (by have := h.size; omega)))
  obtain ⟨r, hr⟩ : ∃ r, r = sn % 20 := ⟨_, rfl⟩
  have rB : r < 20 := by rw [hr]; exact Nat.mod_lt _ (by omega)
  have f1' : (sn : Int) % 20 = (r : Int) := by rw [hr]; simp
  have f1 : (sn : Int).tmod 20 = (r : Int) := by rw [Int.tmod_eq_emod_of_nonneg (Int.natCast_nonneg sn), f1']
  clear hr
  obtain ⟨k, hkk⟩ : ∃ k, k = 1 + r := ⟨_, rfl⟩
  have k1 : 1 ≤ k := by omega
  have k20 : k ≤ 20 := by omega
  have f2' : (1 : Int) + (r : Int) = (k : Int) := by omega
  have f2 : IntKind.i64.wrap (1 + (r : Int)) = (k : Int) := by rw [f2']; exact IntWalk.i64_in _ (by omega)
  have f3 : wrap64 (1 + (r : Int)) = (k : Int) := by rw [f2']; unfold wrap64; omega
  have HKB := Lib.hid (show 1 ≤ k ∧ k ≤ 20 from ⟨k1, k20⟩)
  have C1 := Lib.hid (show ∀ X, Below N w X → Calls Try.prog 9 #[.int .i64 (k : Int)] X fun e w' => ∃ g F, e = .returned (.tuple #[.pointer (some ⟨g, 0, none⟩), .int .i64 0]) ∧ M.Is N w' g (Dk.new k) F ∧ (∀ b, F b → X.heap.size ≤ b) ∧ Below X.heap.size X w' from fun X hX => M.new N X k (OKN.out X hX) (by rw [← hN]; exact hX.size) k1 (Nat.le_trans k20 (by decide)))
  have HA := Lib.hid hA
  obtain ⟨i8, hi8, hz80, hz81, hz82⟩ := info_parts Try.infoU8
  obtain ⟨iB, hiB, hzB0, hzB1, hzB2⟩ := info_parts Try.infoB
  have HIB := Lib.hid hiB
  have HI8 := Lib.hid hi8
  clear hiB hi8
  have kb2 : k ≤ maxLen := by unfold maxLen; omega
  clear hk hkk f2' rB hA
  go_enter Try.func4, Try.ntmps4
  go_upto_region 7 with (first
    | (go_at_call 8; ((with_reducible refine (awake_any M w HK.out).mono ?_); rintro e w1 ⟨rfl, b1⟩; have B1 := Lib.hid (b1.mono (Nat.le_of_eq hN0.out.symm)); clear b1))
    | (go_at_call 9; ((with_reducible refine (C1.out _ B1.out).mono ?_); rintro e w2 ⟨g, F, rfl, i2, s2, b2⟩; have I2 := Lib.hid i2; have B2 := Lib.hid (BN.out _ _ B1.out b2); clear i2 s2 b2)))
  have HNN := Lib.hid (show N ≤ w2.heap.size by have := B2.out.size; omega)
  have LF2 := Lib.hid (show ∀ x, F x → x < w2.heap.size from fun x hx => (M.lt I2.out x hx).2)
  go_upto_region 8 with (at_make; refine wpList_make_full _ rfl _ _ 38 rfl w2.heap.size 30 iB (.slice none 0 0) 1 Try.underlying38 HIB.out hzB0 hzB1 _ _ _ _ k rfl rfl rfl rfl (by rw [hzB2]; have := HKB.out.2; omega) kb2 (Nat.le_refl _) ?_; intro w3 o3 g3; rw [rep_slice] at o3; have G3 := Lib.hid (show Below w2.heap.size w2 w3 from (Below.refl _ _).grown g3 (Nat.le_refl _) (fun q hq => by cases hq)); have O3 := Lib.hid o3; clear o3 g3)
  go_upto_region 9 with (at_make; refine wpList_make_full _ rfl _ _ 38 rfl w3.heap.size 30 iB (.slice none 0 0) 1 Try.underlying38 HIB.out hzB0 hzB1 _ _ _ _ k rfl rfl rfl rfl (by rw [hzB2]; have := HKB.out.2; omega) kb2 (Nat.le_refl _) ?_; intro w4 o4 g4; rw [rep_slice] at o4; have G4 := Lib.hid (show Below w3.heap.size w3 w4 from (Below.refl _ _).grown g4 (Nat.le_refl _) (fun q hq => by cases hq)); have O4 := Lib.hid o4; clear o4 g4)
  obtain ⟨bc, hbc⟩ : ∃ bc, bc = w2.heap.size := ⟨_, rfl⟩
  obtain ⟨bl, hbl⟩ : ∃ bl, bl = w3.heap.size := ⟨_, rfl⟩
  have NE := Lib.hid (show bc ≠ bl by
    have h := (O3.out.lt w2.heap.size rfl).2
    omega)
  have NB := Lib.hid (show N ≤ bc ∧ N ≤ bl by have := HNN.out; have := G3.out.size; omega)
  have FB := Lib.hid (show ¬ F bc ∧ ¬ F bl from ⟨fun e => by have := LF2.out _ e; omega, fun e => by have := LF2.out _ e; have := G3.out.size; omega⟩)
  rw [← hbc] at O3
  rw [← hbl] at O4
  have B4 := Lib.hid (BN.out _ _ (BN.out _ _ B2.out G3.out) G4.out)
  have I4 := Lib.hid (M.grow (M.grow I2.out G3.out) G4.out)
  have LF4 := Lib.hid (show ∀ x, F x → x < w3.heap.size from fun x hx => Nat.lt_of_lt_of_le (LF2.out x hx) G3.out.size)
  have CW := Lib.hid (show Ws w4 N F bc k (fun _ => []) from (Ws.new O3.out NB.out.1 FB.out.1).grow G4.out LF4.out)
  have LW := Lib.hid (show Ws w4 N F bl k (fun _ => []) from Ws.new O4.out NB.out.2 FB.out.2)
  rw [← hbc, ← hbl]
  clear hbc hbl O3 O4 G3 G4 I2 LF2 LF4 C1 HNN
  go_wp2_with (fail)
  go_loopw [10] (fun jv wr => ∃ (j : Nat), j ≤ k ∧ jv = .int .i64 (j : Int) ∧ Ws wr N F bc k (upto j) ∧ Ws wr N F bl k (upto j) ∧ M.Is N wr g (Dk.new k) F ∧ Below N w wr)
    (fun jv _ => k - (intOf jv).toNat)
  case atStart => exact ⟨0, Nat.zero_le _, rfl, CW.out.ext (fun j _ => by simp [upto]), LW.out.ext (fun j _ => by simp [upto]), I4.out, B4.out⟩
  case round =>
    obtain ⟨j, hj, rfl, hc, hl, hI, hB⟩ := hrel
    have CR := Lib.hid hc
    have LR := Lib.hid hl
    have IR := Lib.hid hI
    have BR := Lib.hid hB
    clear hc hl hI hB CW LW I4 B4
    have FLT := Lib.hid (show ∀ x, F x → x < wr.heap.size from fun x hx => (M.lt IR.out x hx).2)
    by_cases hlt : j < k
    · have t0 : (j : Int) < (k : Int) := by omega
      go_upto_region 12 with (fail)
      go_upto_region 13 with (at_make; refine wpList_make_full _ rfl _ _ 30 rfl wr.heap.size 5 i8 (.int .u8 0) 1 Try.underlying30 HI8.out hz80 hz81 _ _ _ _ 64 rfl rfl rfl rfl (by rw [hz82]; decide) (by unfold maxLen; decide) (Nat.le_refl _) ?_; intro w5 o5 g5; rw [rep_u8] at o5; have G5 := Lib.hid (show Below wr.heap.size wr w5 from (Below.refl _ _).grown g5 (Nat.le_refl _) (fun q hq => by cases hq)); have R5 := Lib.hid (show Rd w5 (some ⟨wr.heap.size, 0, none⟩) 64 64 Z64 from Rd.own o5); have C5 := Lib.hid (CR.out.grow G5.out FLT.out); have L5 := Lib.hid (LR.out.grow G5.out FLT.out); have I5 := Lib.hid (M.grow IR.out G5.out); have B5 := Lib.hid (BN.out _ _ BR.out G5.out); obtain ⟨A9, n9, c9, hc9, _, _⟩ := C5.out.at_ hlt; have hf9 := C5.out.frozen j; clear o5 g5)
      obtain ⟨p5, hp5⟩ : ∃ p5, p5 = wr.heap.size := ⟨_, rfl⟩
      rw [← hp5] at R5 ⊢
      have FP5 := Lib.hid (show ¬ F p5 from fun e => by have := FLT.out _ e; omega)
      obtain ⟨w6, hw6⟩ : ∃ w6, w5.setCell ⟨bc, j, none⟩ (.slice (some ⟨p5, 0, none⟩) 64 64) = w6 := ⟨_, rfl⟩
      have C6 := Lib.hid (show Ws w6 N F bc k (upd (upto j) j Z64) by rw [← hw6]; exact C5.out.set hlt R5.out (fun a _ e => by injection e with e; rw [← e]; exact FP5.out))
      have L6 := Lib.hid (show Ws w6 N F bl k (upto j) by rw [← hw6]; exact L5.out.other C5.out NE.out.symm _ _)
      have I6 := Lib.hid (show M.Is N w6 g (Dk.new k) F by rw [← hw6]; exact M.keepSet I5.out C5.out.lo C5.out.own _ _)
      have B6 := Lib.hid (show Below N w w6 by rw [← hw6]; exact B5.out.setCell (p := ⟨bc, j, none⟩) C5.out.lo _)
      rw [hw6]
      clear hw6 hp5 C5 L5 I5 B5 R5 G5 hc9 hf9
      have FLT6 := Lib.hid (show ∀ x, F x → x < w6.heap.size from fun x hx => (M.lt I6.out x hx).2)
      go_wp2_with (at_make; refine wpList_make_full _ rfl _ _ 30 rfl w6.heap.size 5 i8 (.int .u8 0) 1 Try.underlying30 HI8.out hz80 hz81 _ _ _ _ 64 rfl rfl rfl rfl (by rw [hz82]; decide) (by unfold maxLen; decide) (Nat.le_refl _) ?_; intro w7 o7 g7; rw [rep_u8] at o7; have G7 := Lib.hid (show Below w6.heap.size w6 w7 from (Below.refl _ _).grown g7 (Nat.le_refl _) (fun q hq => by cases hq)); have R7 := Lib.hid (show Rd w7 (some ⟨w6.heap.size, 0, none⟩) 64 64 Z64 from Rd.own o7); have C7 := Lib.hid (C6.out.grow G7.out FLT6.out); have L7 := Lib.hid (L6.out.grow G7.out FLT6.out); have I7 := Lib.hid (M.grow I6.out G7.out); have B7 := Lib.hid (BN.out _ _ B6.out G7.out); obtain ⟨A9, n9, c9, hc9, _, _⟩ := L7.out.at_ hlt; have hf9 := L7.out.frozen j; clear o7 g7)
      obtain ⟨p7, hp7⟩ : ∃ p7, p7 = w6.heap.size := ⟨_, rfl⟩
      rw [← hp7] at R7 ⊢
      have FP7 := Lib.hid (show ¬ F p7 from fun e => by have := FLT6.out _ e; omega)
      obtain ⟨w8, hw8⟩ : ∃ w8, w7.setCell ⟨bl, j, none⟩ (.slice (some ⟨p7, 0, none⟩) 64 64) = w8 := ⟨_, rfl⟩
      have L8 := Lib.hid (show Ws w8 N F bl k (upd (upto j) j Z64) by rw [← hw8]; exact L7.out.set hlt R7.out (fun a _ e => by injection e with e; rw [← e]; exact FP7.out))
      have C8 := Lib.hid (show Ws w8 N F bc k (upd (upto j) j Z64) by rw [← hw8]; exact C7.out.other L7.out NE.out _ _)
      have I8 := Lib.hid (show M.Is N w8 g (Dk.new k) F by rw [← hw8]; exact M.keepSet I7.out L7.out.lo L7.out.own _ _)
      have B8 := Lib.hid (show Below N w w8 by rw [← hw8]; exact B7.out.setCell (p := ⟨bl, j, none⟩) L7.out.lo _)
      rw [hw8]
      clear hw8 hp7 L7 C7 I7 B7 R7 G7 hc9 hf9
      go_roundw
      case rel => exact ⟨j + 1, by omega, by go_num, C8.out.ext (upto_step j k), L8.out.ext (upto_step j k), I8.out, B8.out⟩
      case measure => simp [intOf]; omega
    · obtain rfl : k = j := by omega
      have t0 : ¬ (k : Int) < (k : Int) := by omega
      have CW := Lib.hid (CR.out.ext (f' := fun _ => List.replicate 64 0) (fun i hi => by simp [upto, hi, Z64]))
      have LW := Lib.hid (LR.out.ext (f' := fun _ => List.replicate 64 0) (fun i hi => by simp [upto, hi, Z64]))
      clear CR LR hj
      go_wp2_with (fail)
      clear t0
      have S0 := Lib.hid (Sd.start HKB.out.1 (Nat.le_trans HKB.out.2 (by decide)))
      go_loopg [11, 12, 13, 14, 15, 16, 17, 18] 81 (fun f iv s12 s13 s14 s15 s16 s17 s18 wr => ∃ (i : Nat) (D : Dk) (F : Nat → Prop) (cf lf : Nat → List UInt8), i + f = 81 ∧ i ≤ nA ∧ iv = .int .i64 (i : Int) ∧ Ws wr N F bc k cf ∧ Ws wr N F bl k lf ∧ M.Is N wr g D F ∧ Sd k D cf lf ∧ D.cnt ≤ i ∧ Below N w wr)
      case atStart => exact ⟨0, Dk.new k, F, _, _, rfl, Nat.zero_le _, rfl, CW.out, LW.out, IR.out, S0.out, Nat.le_refl _, BR.out⟩
      case round =>
        clear CW LW IR BR S0 FLT NB FB
        obtain ⟨i, D, F', cf, lf, hif, hin, rfl, hC, hL, hI, hS, hcn, hB⟩ := hrel
        have CR := Lib.hid hC
        have LR := Lib.hid hL
        have IR := Lib.hid hI
        have SR := Lib.hid hS
        have BR := Lib.hid hB
        clear hC hL hI hS hB
        by_cases h1 : i < nA ∧ i < 80
        · obtain ⟨h1, h2⟩ := h1
          have t1 : (i : Int) < (nA : Int) := by omega
          have t2 : (i : Int) < 80 := by omega
          obtain ⟨ba, oa, rfl, hba, hat⟩ := HA.out.at_ (by omega)
          obtain ⟨ac, hac⟩ : ∃ ac, ac = acts.getD i default := ⟨_, rfl⟩
          obtain ⟨hok, hcl⟩ := hat i h1
          rw [← hac] at hok hcl
          have HBA := Lib.hid (show ba < N by rw [← hN0.out]; exact hba)
          have KC := Lib.hid (show ∀ q, q < 7 → wr.cell? ⟨ba, oa + i * 7 + q, none⟩ = ac.cells[q]? from fun q hq => (BR.out.cell (p := ⟨ba, oa + i * 7 + q, none⟩) HBA.out).trans (hcl q hq))
          have HOK := Lib.hid hok
          have HIF := Lib.hid hif
          clear hac hba hat hok hcl hif
          obtain ⟨kk, ai, ac1, as1, ca, cn, cc, ch, fa, fn, fc, fs, st⟩ := ac
          have c0 : wr.cell? ⟨ba, oa + i * 7, none⟩ = some (.int .i64 kk) := KC.out 0 (by omega)
          have c1 : wr.cell? ⟨ba, oa + i * 7 + 1, none⟩ = some (.int .i64 ai) := KC.out 1 (by omega)
          have c2 : wr.cell? ⟨ba, oa + i * 7 + 2, none⟩ = some (.int .u8 (ac1.toNat : Int)) := KC.out 2 (by omega)
          have c3 : wr.cell? ⟨ba, oa + i * 7 + 3, none⟩ = some (.bool as1) := KC.out 3 (by omega)
          have c4 : wr.cell? ⟨ba, oa + i * 7 + 4, none⟩ = some (.slice ca cn cc) := KC.out 4 (by omega)
          have c5 : wr.cell? ⟨ba, oa + i * 7 + 5, none⟩ = some (.slice fa fn fc) := KC.out 5 (by omega)
          have c6 : wr.cell? ⟨ba, oa + i * 7 + 6, none⟩ = some (.int .i64 st) := KC.out 6 (by omega)
          go_upto_region 18 with (fail)
          obtain ⟨pa, hpa⟩ : ∃ pa, pa = wr.heap.size := ⟨_, rfl⟩
          obtain ⟨wa, hwa⟩ : ∃ wa, wr.alloc (.cells #[.int .i64 kk, .int .i64 ai, .int .u8 (ac1.toNat : Int), .bool as1, .slice ca cn cc, .slice fa fn fc, .int .i64 st] 35) = wa := ⟨_, rfl⟩
          have LF := Lib.hid (show ∀ x, F' x → x < wr.heap.size from fun x hx => (M.lt IR.out x hx).2)
          have GA := Lib.hid (show Below wr.heap.size wr wa by rw [← hwa]; exact (Below.refl _ _).alloc (Nat.le_refl _) _)
          have TA := Lib.hid (show Bk wa pa 35 #[.int .i64 kk, .int .i64 ai, .int .u8 (ac1.toNat : Int), .bool as1, .slice ca cn cc, .slice fa fn fc, .int .i64 st] by rw [← hwa]; exact Bk.newAt _ _ _ _ hpa.symm)
          have CA := Lib.hid (CR.out.grow GA.out LF.out)
          have LA := Lib.hid (LR.out.grow GA.out LF.out)
          have IA := Lib.hid (M.grow IR.out GA.out)
          have BA := Lib.hid (BN.out _ _ BR.out GA.out)
          have PA := Lib.hid (show N ≤ pa ∧ ¬ F' pa from ⟨by have := BR.out.size; have := hN0.out; omega, fun e => by have := LF.out _ e; omega⟩)
          have PN := Lib.hid (show pa ≠ bc ∧ pa ≠ bl by have := CR.out.lt; have := LR.out.lt; omega)
          rw [hwa, ← hpa]
          clear hwa hpa CR LR IR BR LF GA c0 c1 c2 c3 c4 c5 c6 KC HBA
          have c0 : wa.cell? ⟨pa, 0, none⟩ = some (.int .i64 kk) := TA.out.cell 0
          have c1 : wa.cell? ⟨pa, 1, none⟩ = some (.int .i64 ai) := TA.out.cell 1
          have c2 : wa.cell? ⟨pa, 2, none⟩ = some (.int .u8 (ac1.toNat : Int)) := TA.out.cell 2
          have c3 : wa.cell? ⟨pa, 3, none⟩ = some (.bool as1) := TA.out.cell 3
          have c4 : wa.cell? ⟨pa, 4, none⟩ = some (.slice ca cn cc) := TA.out.cell 4
          have c5 : wa.cell? ⟨pa, 5, none⟩ = some (.slice fa fn fc) := TA.out.cell 5
          have c6 : wa.cell? ⟨pa, 6, none⟩ = some (.int .i64 st) := TA.out.cell 6
          by_cases g1 : 300 < cn
          · have u1 : (300 : Int) < (cn : Int) := by omega
            clear g1
            go_wp2_with (fail)
            go_ret
            exact ⟨rfl, by first | exact BA.out | (rw [hN0.out]; exact BA.out)⟩
          have u1 : ¬ (300 : Int) < (cn : Int) := by omega
          by_cases g2 : 300 < fn
          · have u2 : (300 : Int) < (fn : Int) := by omega
            clear g2
            go_wp2_with (fail)
            go_ret
            exact ⟨rfl, by first | exact BA.out | (rw [hN0.out]; exact BA.out)⟩
          have u2 : ¬ (300 : Int) < (fn : Int) := by omega
          have FN3 := Lib.hid (show fn ≤ 1099511627776 by omega)
          clear g1 g2
          go_upto_block 4 with (fail)
          clear u1 u2
          go_cut [13, 14, 15] from 53 to 210 (fun s13 s14 s15 wx => ∃ (D1 : Dk) (F1 : Nat → Prop) (cf1 lf1 : Nat → List UInt8), Ws wx N F1 bc k cf1 ∧ Ws wx N F1 bl k lf1 ∧ M.Is N wx g D1 F1 ∧ Sd k D1 cf1 lf1 ∧ D1.cnt ≤ i + 1 ∧ Below N w wx)
          case first =>
            have KP := Lib.hid (show ∀ X, Bk X pa 35 #[.int .i64 kk, .int .i64 ai, .int .u8 (ac1.toNat : Int), .bool as1, .slice ca cn cc, .slice fa fn fc, .int .i64 st] → X.cell? ⟨pa, 0, none⟩ = some (.int .i64 kk) ∧ X.cell? ⟨pa, 1, none⟩ = some (.int .i64 ai) ∧ X.cell? ⟨pa, 2, none⟩ = some (.int .u8 (ac1.toNat : Int)) ∧ X.cell? ⟨pa, 3, none⟩ = some (.bool as1) ∧ X.cell? ⟨pa, 4, none⟩ = some (.slice ca cn cc) ∧ X.cell? ⟨pa, 5, none⟩ = some (.slice fa fn fc) ∧ X.cell? ⟨pa, 6, none⟩ = some (.int .i64 st) from fun X h => ⟨h.cell 0, h.cell 1, h.cell 2, h.cell 3, h.cell 4, h.cell 5, h.cell 6⟩)
            have LFA := Lib.hid (show ∀ x, F' x → x < wa.heap.size from fun x hx => (M.lt IA.out x hx).2)
            have hcn' : D.cnt < 1099511627776 := by omega
            have RCH := Lib.hid (show ∀ X, Below N w X → Rd X ca cn cc ch from fun X hX => HOK.out.ch.below (by rw [hN0.out]; exact hX))
            have RFS := Lib.hid (show ∀ X, Below N w X → RI X .i64 fa fn fc fs from fun X hX => HOK.out.fs.below (by rw [hN0.out]; exact hX))
            have CLN := Lib.hid (show ∀ a, 0 < cn → ca = some a → a.block < N from fun a h1 h2 => by
              obtain ⟨b, off, e, hb, _⟩ := HOK.out.ch.at_ h1
              rw [h2] at e
              injection e with e
              subst e
              rw [← hN0.out]; exact hb)
            have FLN := Lib.hid (show ∀ a, 0 < fn → fa = some a → a.block < N from fun a h1 h2 => by
              obtain ⟨b, off, e, hb, _⟩ := HOK.out.fs.at_ h1
              rw [h2] at e
              injection e with e
              subst e
              rw [← hN0.out]; exact hb)
            have FSUB := Lib.hid (show ∀ (F F1 : Nat → Prop) (X : World), (∀ b, F1 b → F b ∨ X.heap.size ≤ b ∨ N ≤ b ∧ ∃ a, 0 < fn ∧ fa = some a ∧ a.block = b) → ∀ b, F1 b → F b ∨ X.heap.size ≤ b from fun F F1 X h b hb => by
              rcases h b hb with h | h | ⟨h, a, h1, h2, h3⟩
              · exact .inl h
              · exact .inr h
              · have := FLN.out a h1 h2; omega)
            rcases Decidable.em (kk = 0) with z0 | y0
            · subst z0
              have hcd : ∃ cd : Nat, D.writeC ai (rowL ac1 (rowN as1)) = cd := ⟨_, rfl⟩
              obtain ⟨cd, hcd⟩ := hcd
              obtain ⟨nb, hnb⟩ : ∃ nb, nb = rowN as1 := ⟨_, rfl⟩
              obtain ⟨xb, hxb⟩ : ∃ xb, xb = rowL ac1 nb := ⟨_, rfl⟩
              rw [← hnb, ← hxb] at hcd
              have LRW := Lib.hid (show xb.length = nb by rw [hxb]; exact rowL_len _ _)
              have CRW := Lib.hid (show ∀ X, Calls Try.prog 16 #[.int .u8 (ac1.toNat : Int), .bool as1] X (New X.heap.size X xb) from fun X => by rw [hxb, hnb]; exact row_any ac1 as1 X)
              have WR := Lib.hid (show ∀ X A c, Below N w X → M.Is N X g D F' → Rd X A nb c xb → (∀ a, 0 < nb → A = some a → ¬ F' a.block) → Calls Try.prog 15 #[.pointer (some ⟨g, 0, none⟩), .int .i64 ai, .slice A nb c] X (Post M.Is N F' g X (D.write ai xb) (.int .i64 (cd : Int))) from fun X A c hX hI hR hZ => by
                have h := M.write N X g D F' ai A nb c xb (OKN.out X hX) hI hR hZ hcn'
                rw [hcd] at h
                exact h)
              have CD := Lib.hid (CA.out.grow (Below.refl _ _).drew LFA.out)
              have LD := Lib.hid (LA.out.grow (Below.refl _ _).drew LFA.out)
              have ID := Lib.hid (M.grow IA.out (Below.refl _ _).drew)
              have BD := Lib.hid (BN.out _ _ BA.out (Below.refl _ _).drew)
              have HCW := Lib.hid (Dk.write_cnt D ai xb)
              by_cases hz : cd = 0
              · subst hz
                obtain ⟨m, hm, hmk, hb64, hS1⟩ := SR.out.write0 hcd
                subst hm
                have SW := Lib.hid hS1
                have x64 : nb = 64 := LRW.out.symm.trans hb64
                have HNB := Lib.hid (show rowL ac1 64 = xb by rw [hxb, x64])
                have m1 : (m : Int) < (k : Int) := by omega
                clear hcd hnb hxb hS1 hb64 x64
                generalize D.write (m : Int) xb = D1 at *
                go_upto_region 22 with (fail)
                (go_region_held3 (fun X => X.cell? ⟨pa, 0, none⟩ = some (.int .i64 0) ∧ X.cell? ⟨pa, 1, none⟩ = some (.int .i64 (m : Int)) ∧ X.cell? ⟨pa, 2, none⟩ = some (.int .u8 (ac1.toNat : Int)) ∧ X.cell? ⟨pa, 3, none⟩ = some (.bool as1) ∧ X.cell? ⟨pa, 4, none⟩ = some (.slice ca cn cc) ∧ X.cell? ⟨pa, 5, none⟩ = some (.slice fa fn fc) ∧ X.cell? ⟨pa, 6, none⟩ = some (.int .i64 st)) (first
                  | exact KP.out _ T6.out
                  | exact KP.out _ T5.out
                  | exact KP.out _ TA.out.drew) (first
                  | (go_at_call 16; ((with_reducible refine (CRW.out _).mono ?_); rintro e w5 ⟨A5, n5, c5, rfl, q5, b5⟩; obtain rfl : n5 = nb := (own_len q5).symm.trans LRW.out; have R5 := Lib.hid (Rd.own q5); have Z5 := Lib.hid (own_off M ID.out q5); have T5 := Lib.hid (TA.out.drew.below b5 TA.out.lt); have C5 := Lib.hid (CD.out.grow b5 LFA.out); have L5 := Lib.hid (LD.out.grow b5 LFA.out); have I5 := Lib.hid (M.grow ID.out b5); have B5 := Lib.hid (BN.out _ _ BD.out b5); clear q5 b5))
                  | (go_at_call 15; ((with_reducible refine (WR.out _ A5 c5 B5.out I5.out R5.out Z5.out).mono ?_); rintro e w6 ⟨rfl, F6, i6, s6, m6⟩; have I6 := Lib.hid i6; have T6 := Lib.hid (m6.bk T5.out PA.out.2); have C6 := Lib.hid (C5.out.mv m6 s6); have L6 := Lib.hid (L5.out.mv m6 s6); have B6 := Lib.hid (B5.out.trans m6.bel); clear i6 s6 m6))
                  | fail))
                obtain ⟨c0, c1, c2, c3, c4, c5, c6⟩ := KP.out _ T6.out
                obtain ⟨A9, n9, c9, hc9, _, _⟩ := C6.out.at_ hmk
                have hf9 := C6.out.frozen m
                go_upto_region 24 with (fail)
                clear c0 c1 c2 c3 c4 c5 c6 hc9 hf9
                obtain ⟨w7, hw7⟩ : ∃ w7, w6.setCell ⟨bc, m, none⟩ (.slice none 0 0) = w7 := ⟨_, rfl⟩
                have C7 := Lib.hid (show Ws w7 N F6 bc k (upd cf m []) by rw [← hw7]; exact C6.out.set hmk (Rd.nil_ _) (fun a h => absurd h (by omega)))
                have L7 := Lib.hid (show Ws w7 N F6 bl k lf by rw [← hw7]; exact L6.out.other C6.out NE.out.symm _ _)
                have I7 := Lib.hid (show M.Is N w7 g D1 F6 by rw [← hw7]; exact M.keepSet I6.out C6.out.lo C6.out.own _ _)
                have B7 := Lib.hid (show Below N w w7 by rw [← hw7]; exact B6.out.setCell (p := ⟨bc, m, none⟩) C6.out.lo _)
                have T7 := Lib.hid (show Bk w7 pa 35 #[.int .i64 0, .int .i64 (m : Int), .int .u8 (ac1.toNat : Int), .bool as1, .slice ca cn cc, .slice fa fn fc, .int .i64 st] by rw [← hw7]; exact T6.out.far (by exact PN.out.1) _)
                rw [hw7]
                clear hw7 C6 L6 I6 B6 T6
                have LF7 := Lib.hid (show ∀ x, F6 x → x < w7.heap.size from fun x hx => (M.lt I7.out x hx).2)
                have CR2 := Lib.hid (show ∀ X, Calls Try.prog 16 #[.int .u8 (ac1.toNat : Int), .bool false] X (New X.heap.size X xb) from fun X => by rw [← HNB.out]; exact row_any ac1 false X)
                have L64 := Lib.hid (show xb.length = 64 by rw [← HNB.out]; exact rowL_len _ _)
                have G7 := Lib.hid (Below.refl w7.heap.size w7).drew
                have mk0 : (0 : Int) ≤ (m : Int) := by omega
                (go_region_held3 (fun X => X.cell? ⟨pa, 0, none⟩ = some (.int .i64 0) ∧ X.cell? ⟨pa, 1, none⟩ = some (.int .i64 (m : Int)) ∧ X.cell? ⟨pa, 2, none⟩ = some (.int .u8 (ac1.toNat : Int)) ∧ X.cell? ⟨pa, 3, none⟩ = some (.bool as1) ∧ X.cell? ⟨pa, 4, none⟩ = some (.slice ca cn cc) ∧ X.cell? ⟨pa, 5, none⟩ = some (.slice fa fn fc) ∧ X.cell? ⟨pa, 6, none⟩ = some (.int .i64 st)) (first
                  | exact KP.out _ (T8.out.far (by exact PN.out.2) _)
                  | exact KP.out _ T8.out
                  | exact KP.out _ T7.out.drew) (first
                  | (go_at_call 16; ((with_reducible refine (CR2.out _).mono ?_); rintro e w8 ⟨A8, n8, c8, rfl, q8, b8⟩; obtain rfl : n8 = 64 := (own_len q8).symm.trans L64.out; have R8 := Lib.hid (Rd.own q8); have P8 := Lib.hid (show ∀ a, A8 = some a → w7.heap.size ≤ a.block from fun a e => (q8.lt a.block (by rw [e]; rfl)).1); have T8 := Lib.hid (T7.out.drew.below b8 T7.out.lt); have C8 := Lib.hid ((C7.out.grow G7.out LF7.out).grow b8 LF7.out); have L8 := Lib.hid ((L7.out.grow G7.out LF7.out).grow b8 LF7.out); have I8 := Lib.hid (M.grow (M.grow I7.out G7.out) b8); have B8 := Lib.hid (BN.out _ _ (BN.out _ _ B7.out G7.out) b8); obtain ⟨A9, n9, c9, hc9, _, _⟩ := L8.out.at_ hmk; have hf9 := L8.out.frozen m; clear q8 b8))
                  | fail))
                go_wp2_with (fail)
                go_meet
                exact ⟨D1, F6, upd cf m [], upd lf m xb, C8.out.other L8.out NE.out _ _, L8.out.set hmk R8.out (fun a _ e h => by have := P8.out a e; have := LF7.out _ h; omega), M.keepSet I8.out L8.out.lo L8.out.own _ _, SW.out, by have := HCW.out; omega, B8.out.setCell (p := ⟨bl, m, none⟩) L8.out.lo _⟩
              · have SW := Lib.hid (SR.out.writeN (show D.writeC ai xb ≠ 0 by rw [hcd]; exact hz))
                have hz1 : ((cd : Int) == 0) = false := by simp; omega
                have hz2 : ¬ (cd : Int) = 0 := by omega
                clear hcd hnb hxb hz
                generalize D.write ai xb = D1 at *
                go_upto_region 22 with (fail)
                (go_region_held3 (fun X => X.cell? ⟨pa, 0, none⟩ = some (.int .i64 0) ∧ X.cell? ⟨pa, 1, none⟩ = some (.int .i64 ai) ∧ X.cell? ⟨pa, 2, none⟩ = some (.int .u8 (ac1.toNat : Int)) ∧ X.cell? ⟨pa, 3, none⟩ = some (.bool as1) ∧ X.cell? ⟨pa, 4, none⟩ = some (.slice ca cn cc) ∧ X.cell? ⟨pa, 5, none⟩ = some (.slice fa fn fc) ∧ X.cell? ⟨pa, 6, none⟩ = some (.int .i64 st)) (first
                  | exact KP.out _ T6.out
                  | exact KP.out _ T5.out
                  | exact KP.out _ TA.out.drew) (first
                  | (go_at_call 16; ((with_reducible refine (CRW.out _).mono ?_); rintro e w5 ⟨A5, n5, c5, rfl, q5, b5⟩; obtain rfl : n5 = nb := (own_len q5).symm.trans LRW.out; have R5 := Lib.hid (Rd.own q5); have Z5 := Lib.hid (own_off M ID.out q5); have T5 := Lib.hid (TA.out.drew.below b5 TA.out.lt); have C5 := Lib.hid (CD.out.grow b5 LFA.out); have L5 := Lib.hid (LD.out.grow b5 LFA.out); have I5 := Lib.hid (M.grow ID.out b5); have B5 := Lib.hid (BN.out _ _ BD.out b5); clear q5 b5))
                  | (go_at_call 15; ((with_reducible refine (WR.out _ A5 c5 B5.out I5.out R5.out Z5.out).mono ?_); rintro e w6 ⟨rfl, F6, i6, s6, m6⟩; have I6 := Lib.hid i6; have T6 := Lib.hid (m6.bk T5.out PA.out.2); have C6 := Lib.hid (C5.out.mv m6 s6); have L6 := Lib.hid (L5.out.mv m6 s6); have B6 := Lib.hid (B5.out.trans m6.bel); clear i6 s6 m6))
                  | fail))
                go_wp2_with (fail)
                go_meet
                exact ⟨D1, F6, cf, lf, C6.out, L6.out, I6.out, SW.out, by have := HCW.out; omega, B6.out⟩
            have y0b : (kk == 0) = false := by simpa using y0
            rcases Decidable.em (kk = 2) with z2 | y2
            · subst z2
              have HCW := Lib.hid (Dk.flush_cnt D)
              obtain ⟨cd, hcd⟩ : ∃ cd : Nat, D.stepC = cd := ⟨_, rfl⟩
              have FL := Lib.hid (show ∀ X, Below N w X → M.Is N X g D F' → Calls Try.prog 17 #[.pointer (some ⟨g, 0, none⟩)] X (Post M.Is N F' g X D.flush (.int .i64 (cd : Int))) from fun X hX hI => by
                have h := M.flush N X g D F' (OKN.out X hX) hI hcn'
                rw [hcd] at h
                exact h)
              by_cases hz : cd = 0
              · subst hz
                have SW := Lib.hid (SR.out.flush0 hcd)
                clear hcd
                generalize D.flush = D1 at *
                go_upto_region 27 with (go_at_call 17; ((with_reducible refine (FL.out _ BA.out IA.out).mono ?_); rintro e w6 ⟨rfl, F6, i6, s6, m6⟩; have I6 := Lib.hid i6; have C6 := Lib.hid (CA.out.mv m6 s6); have L6 := Lib.hid (LA.out.mv m6 s6); have B6 := Lib.hid (BA.out.trans m6.bel); clear i6 s6 m6))
                clear c0 c1 c2 c3 c4 c5 c6 CA LA IA BA TA LFA
                go_wp2_with (fail)
                go_loopg [13] (k + 1) (fun f jv wi => ∃ (j : Nat), j + f = k + 1 ∧ j ≤ k ∧ jv = .int .i64 (j : Int) ∧ Ws wi N F6 bc k (mix j lf cf) ∧ Ws wi N F6 bl k lf ∧ M.Is N wi g D1 F6 ∧ Below N w wi)
                case atStart => exact ⟨0, by omega, Nat.zero_le _, rfl, C6.out.ext (fun q _ => by simp [mix]), L6.out, I6.out, B6.out⟩
                case round =>
                  clear C6 L6 I6 B6
                  obtain ⟨j, hjf, hjk, rfl, hC, hL, hI, hB⟩ := hrel
                  have CR := Lib.hid hC
                  have LR := Lib.hid hL
                  have IR := Lib.hid hI
                  have BR := Lib.hid hB
                  clear hC hL hI hB
                  by_cases hlt : j < k
                  · have t5 : (j : Int) < (k : Int) := by omega
                    obtain ⟨A8, n8, c8, hc8, hr8, ha8⟩ := LR.out.at_ hlt
                    obtain ⟨A9, n9, c9, hc9, _, _⟩ := CR.out.at_ hlt
                    have hf9 := CR.out.frozen j
                    have R8 := Lib.hid hr8
                    have H8 := Lib.hid ha8
                    clear hr8 ha8
                    go_wp2_with (fail)
                    go_roundg (gk - 1)
                    case rel => exact ⟨j + 1, by omega, by omega, by go_num, (CR.out.set hlt R8.out H8.out).ext (mix_step j lf cf), LR.out.other CR.out NE.out.symm _ _, M.keepSet IR.out CR.out.lo CR.out.own _ _, BR.out.setCell (p := ⟨bc, j, none⟩) CR.out.lo _⟩
                    case measure => omega
                  · have t5 : ¬ (j : Int) < (k : Int) := by omega
                    obtain rfl : k = j := by omega
                    go_wp2_with (fail)
                    go_meet
                    exact ⟨D1, F6, lf, lf, CR.out.ext (fun q hq => by simp [mix, hq]), LR.out, IR.out, SW.out, by have := HCW.out; omega, BR.out⟩
              · have SW := Lib.hid (SR.out.flushN (show D.stepC ≠ 0 by rw [hcd]; exact hz))
                have hz1 : ((cd : Int) == 0) = false := by simp; omega
                have hz2 : ¬ (cd : Int) = 0 := by omega
                clear hcd hz
                generalize D.flush = D1 at *
                go_wp2_with (go_at_call 17; ((with_reducible refine (FL.out _ BA.out IA.out).mono ?_); rintro e w6 ⟨rfl, F6, i6, s6, m6⟩; have I6 := Lib.hid i6; have C6 := Lib.hid (CA.out.mv m6 s6); have L6 := Lib.hid (LA.out.mv m6 s6); have B6 := Lib.hid (BA.out.trans m6.bel); clear i6 s6 m6))
                go_meet
                exact ⟨D1, F6, cf, lf, C6.out, L6.out, I6.out, SW.out, by have := HCW.out; omega, B6.out⟩
            have y2b : (kk == 2) = false := by simpa using y2
            rcases Decidable.em (kk = 3) with z3 | y3
            · subst z3
              obtain ⟨hs, hl, hcm⟩ := SR.out.up ch fs st
              have UPC := Lib.hid (show ∀ X, Below N w X → M.Is N X g D F' → Calls Try.prog 18 #[.pointer (some ⟨g, 0, none⟩), .slice ca cn cc, .agg #[.slice fa fn fc, .int .i64 st]] X fun e w' => e = .returned (.tuple #[]) ∧ ∃ F1, M.Is N w' g (D.up ch fs st) F1 ∧ (∀ b, F1 b → F' b ∨ X.heap.size ≤ b) ∧ Mv N F' X w' from fun X hX hI => (M.up N X g D F' ca cn cc ch fa fn fc fs st (OKN.out X hX) hI (RCH.out X hX) (fun a h1 h2 h3 => by have := CLN.out a h1 h2; have := (M.lt hI _ h3).1; omega) (RFS.out X hX) (fun a h1 h2 h3 => by have := FLN.out a h1 h2; have := (M.lt hI _ h3).1; omega) FN3.out).mono (by
                rintro e w' ⟨h1, F1, h2, h3, h4⟩
                exact ⟨h1, F1, h2, FSUB.out F' F1 X h3, h4⟩))
              have HC := Lib.hid (show (D.up ch fs st).cnt ≤ i + 1 by show 0 ≤ i + 1; omega)
              generalize D.up ch fs st = D1 at *
              have SUC := Lib.hid (show ∀ X F, Below N w X → M.Is N X g D1 F → Calls Try.prog 13 #[.pointer (some ⟨g, 0, none⟩)] X fun e w' => ∃ A c F1, e = .returned (.slice A k c) ∧ Rs w' (fun b => X.heap.size ≤ b ∧ ¬ F1 b) A k c D1.sure ∧ M.Is N w' g D1 F1 ∧ (∀ b, F1 b → F b ∨ X.heap.size ≤ b) ∧ Mv N F X w' from fun X F hX hI => by
                have h := M.sure N X g D1 F (OKN.out X hX) hI
                rw [hl] at h
                exact h)
              have SW := Lib.hid hs
              have HCM := Lib.hid hcm
              have HR64 := Lib.hid (show ∀ q, q < k → (D1.sure.getD q []).length = 64 from fun q hq => (hs.rows hq).2)
              clear hs hl hcm
              obtain ⟨s, hsd⟩ : ∃ s : Nat → List UInt8, s = fun q => D1.sure.getD q [] := ⟨_, rfl⟩
              have HSD := Lib.hid (show ∀ q, D1.sure.getD q [] = s q from fun q => by rw [hsd])
              have SW2 := Lib.hid (show Sd k D1 s s by rw [hsd]; exact SW.out)
              clear hsd SW
              have zk : ((k : Int) != (k : Int)) = false := by simp
              go_upto_region 36 with (first
                | (go_at_call 18; ((with_reducible refine (UPC.out _ BA.out IA.out).mono ?_); rintro e w6 ⟨rfl, F6, i6, s6, m6⟩; have I6 := Lib.hid i6; have C6 := Lib.hid (CA.out.mv m6 s6); have L6 := Lib.hid (LA.out.mv m6 s6); have B6 := Lib.hid (BA.out.trans m6.bel); clear i6 s6 m6))
                | (go_at_call 13; ((with_reducible refine (SUC.out _ F6 B6.out I6.out).mono ?_); rintro e w7 ⟨A7, c7, F7, rfl, r7, i7, s7, m7⟩; have I7 := Lib.hid i7; have R7 := Lib.hid r7; have C7 := Lib.hid (C6.out.mv m7 s7); have L7 := Lib.hid (L6.out.mv m7 s7); have B7 := Lib.hid (B6.out.trans m7.bel); clear r7 i7 s7 m7)))
              obtain ⟨S, hS⟩ : ∃ S : Nat → Prop, S = fun b => w6.heap.size ≤ b ∧ ¬ F7 b := ⟨_, rfl⟩
              have NS := Lib.hid (show ¬ S bc ∧ ¬ S bl ∧ (∀ b, S b → ¬ F7 b) from by
                rw [hS]
                exact ⟨fun h => by have := C6.out.lt; have := h.1; omega, fun h => by have := L6.out.lt; have := h.1; omega, fun b h => h.2⟩)
              rw [← hS] at R7
              clear hS c0 c1 c2 c3 c4 c5 c6 CA LA IA BA TA LFA C6 L6 I6 B6 zk UPC SUC RCH RFS FLN CLN FSUB KP
              go_wp2_with (fail)
              go_loopg [15] (k + 1) (fun f jv wi => ∃ (j : Nat), j + f = k + 1 ∧ j ≤ k ∧ jv = .int .i64 (j : Int) ∧ Ws wi N F7 bc k (mix j s cf) ∧ Ws wi N F7 bl k (mix j s lf) ∧ M.Is N wi g D1 F7 ∧ Rs wi S A7 k c7 D1.sure ∧ Below N w wi)
              case atStart => exact ⟨0, by omega, Nat.zero_le _, rfl, C7.out.ext (fun q _ => by simp [mix]), L7.out.ext (fun q _ => by simp [mix]), I7.out, R7.out, B7.out⟩
              case round =>
                clear C7 L7 I7 B7 R7
                obtain ⟨j, hjf, hjk, rfl, hC, hL, hI, hR, hB⟩ := hrel
                have CR := Lib.hid hC
                have LR := Lib.hid hL
                have IR := Lib.hid hI
                have RR := Lib.hid hR
                have BR := Lib.hid hB
                clear hC hL hI hR hB
                by_cases hlt : j < k
                · have t5 : (j : Int) < (k : Int) := by omega
                  have LFR := Lib.hid (show ∀ x, F7 x → x < wr.heap.size from fun x hx => (M.lt IR.out x hx).2)
                  obtain ⟨ab, ao, rfl, hab, hSb, hrows⟩ := RR.out.at_ (by omega)
                  obtain ⟨A8, n8, c8, hc8, hr8, ha8⟩ := hrows j hlt
                  rw [HSD.out] at hr8
                  obtain rfl : n8 = 64 := hr8.len.symm.trans (by rw [← HSD.out]; exact HR64.out j hlt)
                  obtain ⟨A9, n9, c9, hc9, hr9, ha9⟩ := CR.out.at_ hlt
                  have hr9 : Rd wr A9 n9 c9 (cf j) := by have h := hr9; simp only [mix, Nat.lt_irrefl, if_false] at h; exact h
                  have KC8 := Lib.hid (show ∀ X, Below wr.heap.size wr X → X.cell? ⟨ab, ao + j, none⟩ = some (.slice A8 64 c8) ∧ X.cell? ⟨bc, j, none⟩ = some (.slice A9 n9 c9) from fun X hX => ⟨(hX.cell (p := ⟨ab, ao + j, none⟩) hab).trans hc8, (hX.cell (p := ⟨bc, j, none⟩) CR.out.lt).trans hc9⟩)
                  have R8 := Lib.hid hr8
                  have R9 := Lib.hid hr9
                  have H8 := Lib.hid (show ∀ a, 0 < 64 → A8 = some a → ¬ F7 a.block from fun a h1 h2 => NS.out.2.2 _ (ha8 a h1 h2))
                  have HAB := Lib.hid (show ab < wr.heap.size ∧ S ab from ⟨hab, hSb⟩)
                  have HS8 := Lib.hid ha8
                  clear hab hSb hrows hc8 hr8 ha8 hc9 hr9 ha9
                  go_upto_region 39 with (fail)
                  by_cases e0 : n9 = 0
                  · subst e0
                    refine wp_region_steady (fun X => Below wr.heap.size wr X) (by kernel_rfl) (by kernel_rfl) (Below.refl _ _).drew ?_
                    repeat (first | (refine seq_pure (v := ?_) (by rfl) ?_ ?_; rotate_left; (· (intro w' hS; obtain ⟨d8, d9⟩ := KC8.out w' hS; clear hS; go_simp; try with_reducible rfl)); simp only [Act.put, List.setIfInBounds_toArray, List.set_cons_zero, List.set_cons_succ]) | (refine seq_skip (by rfl) ?_; simp only [Act.put, List.setIfInBounds_toArray, List.set_cons_zero, List.set_cons_succ]) | fail)
                    refine seq_nil ?_
                    intro w5 s5
                    have G5 := Lib.hid s5
                    clear s5
                    have C5 := Lib.hid (CR.out.grow G5.out LFR.out)
                    have L5 := Lib.hid (LR.out.grow G5.out LFR.out)
                    have I5 := Lib.hid (M.grow IR.out G5.out)
                    have R5 := Lib.hid (RR.out.keep G5.out.size (fun b _ hlt => G5.out.block b hlt))
                    have B5 := Lib.hid (BN.out _ _ BR.out G5.out)
                    have Q5 := Lib.hid (R8.out.below G5.out)
                    obtain ⟨d8, d9⟩ := KC8.out _ G5.out
                    have hf9 := C5.out.frozen j
                    go_upto_region 42 with (fail)
                    clear d8 d9 hf9
                    obtain ⟨w6, hw6⟩ : ∃ w6, w5.setCell ⟨bc, j, none⟩ (.slice A8 64 c8) = w6 := ⟨_, rfl⟩
                    have C6 := Lib.hid (show Ws w6 N F7 bc k (upd (mix j s cf) j (s j)) by rw [← hw6]; exact C5.out.set hlt Q5.out H8.out)
                    have L6 := Lib.hid (show Ws w6 N F7 bl k (mix j s lf) by rw [← hw6]; exact L5.out.other C5.out NE.out.symm _ _)
                    have I6 := Lib.hid (show M.Is N w6 g D1 F7 by rw [← hw6]; exact M.keepSet I5.out C5.out.lo C5.out.own _ _)
                    have R6 := Lib.hid (show Rs w6 S (some ⟨ab, ao, none⟩) k c7 D1.sure by rw [← hw6]; exact R5.out.keep (by simp) (fun b hb _ => Below.heap_setCell _ ⟨bc, j, none⟩ _ b (fun e => NS.out.1 (by rw [← show b = bc from e]; exact hb))))
                    have B6 := Lib.hid (show Below N w w6 by rw [← hw6]; exact B5.out.setCell (p := ⟨bc, j, none⟩) C5.out.lo _)
                    have Q6 := Lib.hid (show Rd w6 A8 64 c8 (s j) by rw [← hw6]; exact rd_farB Q5.out (fun a h1 h2 e => NS.out.1 (by rw [← e]; exact HS8.out a h1 h2)) _ _)
                    have d8 : w6.cell? ⟨ab, ao + j, none⟩ = some (.slice A8 64 c8) := by
                      rw [← hw6]
                      exact (World.cell?_of_block (a := ⟨ab, ao + j, none⟩) (Below.heap_setCell _ ⟨bc, j, none⟩ _ ab (fun e => NS.out.1 (by rw [← show ab = bc from e]; exact HAB.out.2)))).trans (KC8.out _ G5.out).1
                    rw [hw6]
                    clear hw6 C5 L5 I5 R5 B5 Q5
                    obtain ⟨A4, n4, c4', hc4, _, _⟩ := L6.out.at_ hlt
                    have hf4 := L6.out.frozen j
                    go_wp2_with (fail)
                    clear d8 hc4 hf4
                    go_roundg (gk - 1)
                    case rel => exact ⟨j + 1, by omega, by omega, by go_num, (C6.out.other L6.out NE.out _ _).ext (mix_step j s cf), (L6.out.set hlt Q6.out H8.out).ext (mix_step j s lf), M.keepSet I6.out L6.out.lo L6.out.own _ _, R6.out.keep (by simp) (fun b hb _ => Below.heap_setCell _ ⟨bl, j, none⟩ _ b (fun e => NS.out.2.1 (by rw [← show b = bl from e]; exact hb))), B6.out.setCell (p := ⟨bl, j, none⟩) L6.out.lo _⟩
                    case measure => omega
                  · have e1 : (0 : Int) < (n9 : Int) := by omega
                    have e2 : 0 < n9 := by omega
                    have hne : cf j ≠ [] := fun e => e0 (by rw [← R9.out.len, e]; rfl)
                    have XE := Lib.hid (show s j = cf j by
                      rcases HCM.out j hlt with h | h
                      · exact absurd h hne
                      · rw [← HSD.out]; exact h)
                    clear e0 hne
                    have GD := Lib.hid (Below.refl wr.heap.size wr).drew
                    (go_region_held3 (fun X => X.cell? ⟨ab, ao + j, none⟩ = some (.slice A8 64 c8) ∧ X.cell? ⟨bc, j, none⟩ = some (.slice A9 n9 c9)) (first
                      | exact KC8.out _ G5.out
                      | exact KC8.out _ GD.out) (first
                      | (go_at_call 19; ((with_reducible refine (rsame_true A8 A9 64 c8 n9 c9 (s j) (cf j) _ (R8.out.below GD.out) (R9.out.below GD.out) XE.out).mono ?_); rintro e w5 ⟨rfl, b5⟩; have G5 := Lib.hid (GD.out.trans b5); clear b5))
                      | fail))
                    have C5 := Lib.hid (CR.out.grow G5.out LFR.out)
                    have L5 := Lib.hid (LR.out.grow G5.out LFR.out)
                    have I5 := Lib.hid (M.grow IR.out G5.out)
                    have R5 := Lib.hid (RR.out.keep G5.out.size (fun b _ hlt => G5.out.block b hlt))
                    have B5 := Lib.hid (BN.out _ _ BR.out G5.out)
                    have Q5 := Lib.hid (R8.out.below G5.out)
                    obtain ⟨d8, d9⟩ := KC8.out _ G5.out
                    have hf9 := C5.out.frozen j
                    go_upto_region 42 with (fail)
                    clear d8 d9 hf9
                    obtain ⟨w6, hw6⟩ : ∃ w6, w5.setCell ⟨bc, j, none⟩ (.slice A8 64 c8) = w6 := ⟨_, rfl⟩
                    have C6 := Lib.hid (show Ws w6 N F7 bc k (upd (mix j s cf) j (s j)) by rw [← hw6]; exact C5.out.set hlt Q5.out H8.out)
                    have L6 := Lib.hid (show Ws w6 N F7 bl k (mix j s lf) by rw [← hw6]; exact L5.out.other C5.out NE.out.symm _ _)
                    have I6 := Lib.hid (show M.Is N w6 g D1 F7 by rw [← hw6]; exact M.keepSet I5.out C5.out.lo C5.out.own _ _)
                    have R6 := Lib.hid (show Rs w6 S (some ⟨ab, ao, none⟩) k c7 D1.sure by rw [← hw6]; exact R5.out.keep (by simp) (fun b hb _ => Below.heap_setCell _ ⟨bc, j, none⟩ _ b (fun e => NS.out.1 (by rw [← show b = bc from e]; exact hb))))
                    have B6 := Lib.hid (show Below N w w6 by rw [← hw6]; exact B5.out.setCell (p := ⟨bc, j, none⟩) C5.out.lo _)
                    have Q6 := Lib.hid (show Rd w6 A8 64 c8 (s j) by rw [← hw6]; exact rd_farB Q5.out (fun a h1 h2 e => NS.out.1 (by rw [← e]; exact HS8.out a h1 h2)) _ _)
                    have d8 : w6.cell? ⟨ab, ao + j, none⟩ = some (.slice A8 64 c8) := by
                      rw [← hw6]
                      exact (World.cell?_of_block (a := ⟨ab, ao + j, none⟩) (Below.heap_setCell _ ⟨bc, j, none⟩ _ ab (fun e => NS.out.1 (by rw [← show ab = bc from e]; exact HAB.out.2)))).trans (KC8.out _ G5.out).1
                    rw [hw6]
                    clear hw6 C5 L5 I5 R5 B5 Q5
                    obtain ⟨A4, n4, c4', hc4, _, _⟩ := L6.out.at_ hlt
                    have hf4 := L6.out.frozen j
                    go_wp2_with (fail)
                    clear d8 hc4 hf4
                    go_roundg (gk - 1)
                    case rel => exact ⟨j + 1, by omega, by omega, by go_num, (C6.out.other L6.out NE.out _ _).ext (mix_step j s cf), (L6.out.set hlt Q6.out H8.out).ext (mix_step j s lf), M.keepSet I6.out L6.out.lo L6.out.own _ _, R6.out.keep (by simp) (fun b hb _ => Below.heap_setCell _ ⟨bl, j, none⟩ _ b (fun e => NS.out.2.1 (by rw [← show b = bl from e]; exact hb))), B6.out.setCell (p := ⟨bl, j, none⟩) L6.out.lo _⟩
                    case measure => omega
                · have t5 : ¬ (j : Int) < (k : Int) := by omega
                  obtain rfl : k = j := by omega
                  go_wp2_with (fail)
                  go_meet
                  exact ⟨D1, F7, s, s, CR.out.ext (fun q hq => by simp [mix, hq]), LR.out.ext (fun q hq => by simp [mix, hq]), IR.out, SW2.out, HC.out, BR.out⟩
            have y3b : (kk == 3) = false := by simpa using y3
            rcases Decidable.em (kk = 4) with z4 | y4
            · subst z4
              have hh := SR.out.halt
              have HC := Lib.hid (show D.halt.cnt ≤ i + 1 by show D.cnt ≤ i + 1; omega)
              have SW := Lib.hid hh
              have SP := Lib.hid (show ∀ X, Below N w X → M.Is N X g D F' → Calls Try.prog 20 #[.pointer (some ⟨g, 0, none⟩)] X (Post M.Is N F' g X D.halt (.tuple #[])) from fun X hX hI => M.stop N X g D F' (OKN.out X hX) hI)
              clear hh
              generalize D.halt = D1 at *
              go_wp2_with (go_at_call 20; ((with_reducible refine (SP.out _ BA.out IA.out).mono ?_); rintro e w6 ⟨rfl, F6, i6, s6, m6⟩; have I6 := Lib.hid i6; have C6 := Lib.hid (CA.out.mv m6 s6); have L6 := Lib.hid (LA.out.mv m6 s6); have B6 := Lib.hid (BA.out.trans m6.bel); clear i6 s6 m6))
              go_meet
              exact ⟨D1, F6, cf, lf, C6.out, L6.out, I6.out, SW.out, HC.out, B6.out⟩
            have y4b : (kk == 4) = false := by simpa using y4
            rcases Decidable.em (kk = 5) with z5 | y5
            · subst z5
              have hh := SR.out.plan fs st
              have HC := Lib.hid (show (D.plan fs st).cnt ≤ i + 1 by show D.cnt ≤ i + 1; omega)
              have SW := Lib.hid hh
              have SP := Lib.hid (show ∀ X, Below N w X → M.Is N X g D F' → Calls Try.prog 21 #[.pointer (some ⟨g, 0, none⟩), .agg #[.slice fa fn fc, .int .i64 st]] X fun e w' => e = .returned (.tuple #[]) ∧ ∃ F1, M.Is N w' g (D.plan fs st) F1 ∧ (∀ b, F1 b → F' b ∨ X.heap.size ≤ b) ∧ Mv N F' X w' from fun X hX hI => (M.plan N X g D F' fa fn fc fs st (OKN.out X hX) hI (RFS.out X hX) FN3.out).mono (by
                rintro e w' ⟨h1, F1, h2, h3, h4⟩
                exact ⟨h1, F1, h2, FSUB.out F' F1 X h3, h4⟩))
              clear hh
              generalize D.plan fs st = D1 at *
              go_wp2_with (go_at_call 21; ((with_reducible refine (SP.out _ BA.out IA.out).mono ?_); rintro e w6 ⟨rfl, F6, i6, s6, m6⟩; have I6 := Lib.hid i6; have C6 := Lib.hid (CA.out.mv m6 s6); have L6 := Lib.hid (LA.out.mv m6 s6); have B6 := Lib.hid (BA.out.trans m6.bel); clear i6 s6 m6))
              go_meet
              exact ⟨D1, F6, cf, lf, C6.out, L6.out, I6.out, SW.out, HC.out, B6.out⟩
            have y5b : (kk == 5) = false := by simpa using y5
            · go_wp2_with (fail)
              go_meet
              exact ⟨D, F', cf, lf, CA.out, LA.out, IA.out, SR.out, by omega, BA.out⟩
          case rest =>
            clear c0 c1 c2 c3 c4 c5 c6 TA CA LA IA BA SR HOK PA PN
            obtain ⟨D1, F1, cf1, lf1, hC, hL, hI, hS, hcn1, hB⟩ := hcut
            have CR := Lib.hid hC
            have LR := Lib.hid hL
            have IR := Lib.hid hI
            have SR := Lib.hid hS
            have BR := Lib.hid hB
            clear hC hL hI hS hB
            go_wp2_with (fail)
            go_loopg [16, 17, 18] (k + 1) (fun f jv s17 s18 wi => ∃ (j : Nat) (F2 : Nat → Prop), j + f = k + 1 ∧ j ≤ k ∧ jv = .int .i64 (j : Int) ∧ Ws wi N F2 bc k cf1 ∧ Ws wi N F2 bl k lf1 ∧ M.Is N wi g D1 F2 ∧ Below N w wi)
            case atStart => exact ⟨0, F1, by omega, Nat.zero_le _, rfl, CR.out, LR.out, IR.out, BR.out⟩
            case round =>
              clear CR LR IR BR
              obtain ⟨j, F2, hjf, hjk, rfl, hC, hL, hI, hB⟩ := hrel
              have CR := Lib.hid hC
              have LR := Lib.hid hL
              have IR := Lib.hid hI
              have BR := Lib.hid hB
              clear hC hL hI hB
              by_cases hlt : j < k
              · have t5 : (j : Int) < (k : Int) := by omega
                obtain ⟨hrc, hrb⟩ := SR.out.read hlt
                have l64 := (SR.out.rows hlt).1
                obtain ⟨xj, hxj⟩ : ∃ xj, xj = lf1 j := ⟨_, rfl⟩
                rw [← hxj] at l64 hrb
                have LX := Lib.hid l64
                cases ho : D1.off
                · rw [ho] at hrc
                  have RE := Lib.hid (show ∀ X F, Below N w X → M.Is N X g D1 F → Calls Try.prog 22 #[.pointer (some ⟨g, 0, none⟩), .int .i64 (j : Int)] X fun e w' => ∃ A c F', e = .returned (.tuple #[.slice A 64 c, .int .i64 0]) ∧ Rd w' A 64 c xj ∧ M.Is N w' g D1 F' ∧ (∀ b, F' b → F b ∨ X.heap.size ≤ b) ∧ Mv N F X w' from fun X F hX hI => by
                    have h := M.read N X g D1 F j (OKN.out X hX) hI
                    rw [hrb ho, l64, hrc] at h
                    exact h.mono fun e w' ⟨A, c, F', q1, q2, _, q4, q5, q6⟩ => ⟨A, c, F', q1, q2, q4, q5, q6⟩)
                  clear hrc hrb l64 ho
                  go_upto_region 51 with (go_at_call 22; ((with_reducible refine (RE.out _ F2 BR.out IR.out).mono ?_); rintro e w5 ⟨A5, c5, F5, rfl, r5, i5, s5, m5⟩; have R5 := Lib.hid r5; have I5 := Lib.hid i5; have B5 := Lib.hid (BR.out.trans m5.bel); have C5 := Lib.hid (CR.out.mv m5 s5); have L5 := Lib.hid (LR.out.mv m5 s5); obtain ⟨A6, n6, c6, hc6, hr6, _⟩ := L5.out.at_ hlt; clear r5 i5 s5 m5))
                  have R6 := Lib.hid (show Rd w5 A6 n6 c6 xj by rw [hxj]; exact hr6)
                  have LF5 := Lib.hid (show ∀ x, F5 x → x < w5.heap.size from fun x hx => (M.lt I5.out x hx).2)
                  clear hr6 hxj
                  obtain rfl : n6 = 64 := R6.out.len.symm.trans LX.out
                  go_wp2_with (go_at_call 19; ((with_reducible refine (rsame_true A5 A6 64 c5 64 c6 xj xj _ R5.out R6.out rfl).mono ?_); rintro e w6 ⟨rfl, b6⟩; have G6 := Lib.hid b6; clear b6))
                  go_roundg (gk - 1)
                  case rel => exact ⟨j + 1, F5, by omega, by omega, by go_num, C5.out.grow G6.out LF5.out, L5.out.grow G6.out LF5.out, M.grow I5.out G6.out, BN.out _ _ B5.out G6.out⟩
                  case measure => omega
                · rw [ho] at hrc
                  have RE := Lib.hid (show ∀ X F, Below N w X → M.Is N X g D1 F → Calls Try.prog 22 #[.pointer (some ⟨g, 0, none⟩), .int .i64 (j : Int)] X fun e w' => ∃ A n c F', e = .returned (.tuple #[.slice A n c, .int .i64 6]) ∧ M.Is N w' g D1 F' ∧ (∀ b, F' b → F b ∨ X.heap.size ≤ b) ∧ Mv N F X w' from fun X F hX hI => by
                    have h := M.read N X g D1 F j (OKN.out X hX) hI
                    rw [hrc] at h
                    exact h.mono fun e w' ⟨A, c, F', q1, _, _, q4, q5, q6⟩ => ⟨A, _, c, F', q1, q4, q5, q6⟩)
                  clear hrc hrb l64 ho hxj
                  go_wp2_with (go_at_call 22; ((with_reducible refine (RE.out _ F2 BR.out IR.out).mono ?_); rintro e w5 ⟨A5, n5, c5, F5, rfl, i5, s5, m5⟩; have I5 := Lib.hid i5; have B5 := Lib.hid (BR.out.trans m5.bel); have C5 := Lib.hid (CR.out.mv m5 s5); have L5 := Lib.hid (LR.out.mv m5 s5); clear i5 s5 m5))
                  go_roundg (gk - 1)
                  case rel => exact ⟨j + 1, F5, by omega, by omega, by go_num, C5.out, L5.out, I5.out, B5.out⟩
                  case measure => omega
              · have t5 : ¬ (j : Int) < (k : Int) := by omega
                go_wp2_with (fail)
                go_roundg (80 - i)
                case rel => exact ⟨i + 1, D1, F2, cf1, lf1, by omega, by omega, by go_num, CR.out, LR.out, IR.out, SR.out, hcn1, BR.out⟩
                case measure => have := HIF.out; omega
        · have HB := BR.out
          by_cases h3 : i < nA
          · have t1 : (i : Int) < (nA : Int) := by omega
            have t2 : ¬ (i : Int) < 80 := by omega
            clear h1 h3
            go_wp2_with (fail)
            go_ret
            exact ⟨rfl, by first | exact BR.out | (rw [hN0.out]; exact BR.out)⟩
          · have t1 : ¬ (i : Int) < (nA : Int) := by omega
            clear h1 h3
            go_wp2_with (fail)
            go_ret
            exact ⟨rfl, by first | exact BR.out | (rw [hN0.out]; exact BR.out)⟩
end Go.Proofs.Ytammgingmkdfhaa.S19
