/-
  Texts put together: XmG. No statement is proved here.
-/
import Derived.Test.YtkpfppiedadmbaaGreatDoorWo35

/-
  The landed package xmss: whether a signature fits. No statement is proved here. (Written by genxmg.py.)
-/
namespace Go.Proofs.YtkpfppiedadmbaaGreatDoor.S16
set_option linter.unusedSimpArgs false
set_option linter.unusedVariables false
set_option maxRecDepth 1024
open Go.RowKit Go.Shelf S15 RD
attribute [local go_sem] Oper.semAt_some

set_option maxHeartbeats 8000000 in
theorem fits_may (l k : Nat) (Ap : Option Addr) (cp : Nat) (pub : List UInt8) (At : Option Addr) (nt ct : Nat) (text : List UInt8) (Ag : Option Addr) (cg N : Nat) (sig : List UInt8) (w : World) (h : Ahead w l k Ap cp pub At nt ct text Ag cg N sig) (hn : getL (sig.take 8) < totN l k) :
    Calls Tryz.prog 14 #[.agg (shA l k), .slice Ap 64 cp, .slice At nt ct, .slice Ag N cg] w (GivesB (fitN l k pub text sig) w) := by
  have HM := Lib.hid (show ∀ X, Calls Tryz.prog 16 #[.agg #[.int .i64 (l : Int), .int .i64 (k : Int)]] X (GivesB true X) from fun X => by rw [← h.may]; exact may16_any l k X)
  have HS := Lib.hid (show ∀ X, Calls Tryz.prog 18 #[.agg #[.int .i64 (l : Int), .int .i64 (k : Int)]] X (GivesV (.int .i64 (N : Int)) X) from fun X => by rw [h.size, ← sizeX_may h.may]; exact size_any l k X)
  obtain ⟨T, hT⟩ : ∃ T, T = totN l k := ⟨_, rfl⟩
  have HTT := Lib.hid (show ∀ X, Calls Tryz.prog 17 #[.agg #[.int .i64 (l : Int), .int .i64 (k : Int)]] X (GivesV (.int .u64 (T : Int)) X) from fun X => by rw [hT, totN, ← totX_may h.may rfl]; exact tot_any l k X)
  have hN40 : 40 ≤ N := by rw [h.size, sizeN]; omega
  obtain ⟨v, hv⟩ : ∃ v, v = getL (sig.take 8) := ⟨_, rfl⟩
  rw [← hT, ← hv] at hn
  have hpc := h.pub.cap
  have hpm := h.pub.max
  have hsc := h.sig.cap
  have hsm := h.sig.max
  have K1 := Lib.hid (show ∀ X, Calls Tryz.prog 42 #[.slice Ap 64 cp, .int .i64 32] X fun e w' => e = .returned (.tuple #[.slice Ap 32 cp, .slice (cut2 Ap cp 32) 32 (cp - 32)]) ∧ Below X.heap.size X w' from fun X => take_any Ap 64 cp 32 (by omega) hpc hpm X)
  have K2 := Lib.hid (show ∀ X, Calls Tryz.prog 42 #[.slice Ag N cg, .int .i64 8] X fun e w' => e = .returned (.tuple #[.slice Ag 8 cg, .slice (cut2 Ag cg 8) (N - 8) (cg - 8)]) ∧ Below X.heap.size X w' from fun X => take_any Ag N cg 8 (by omega) hsc hsm X)
  have K3 := Lib.hid (show ∀ X, Calls Tryz.prog 42 #[.slice (cut2 Ag cg 8) (N - 8) (cg - 8), .int .i64 32] X fun e w' => e = .returned (.tuple #[.slice (cut2 Ag cg 8) 32 (cg - 8), .slice (cut2 (cut2 Ag cg 8) (cg - 8) 32) (N - 8 - 32) (cg - 8 - 32)]) ∧ Below X.heap.size X w' from fun X => take_any _ (N - 8) (cg - 8) 32 (by omega) (by omega) (by omega) X)
  have K4 := Lib.hid (show ∀ X, Below w.heap.size w X → Calls Tryz.prog 43 #[.slice Ag 8 cg] X fun e w' => e = .returned (.tuple #[.int .u64 (v : Int), .bool true]) ∧ X = w' from fun X hX => by rw [hv]; exact get_any Ag 8 cg _ X (by omega) ((h.sig.below hX).take (by omega)))
  have t1 : ((N : Int) != (N : Int)) = false := by simp
  have t2 : ¬ (65536 : Int) < (nt : Int) := by have := h.short; omega
  have t3 : (v : Int) < (T : Int) := by omega
  have t3' : ¬ (T : Int) ≤ (v : Int) := by omega
  obtain ⟨g, hg⟩ : ∃ g, g = w.heap.size := ⟨_, rfl⟩
  have HGS := Lib.hid (show w.heap.size = g from hg.symm)
  obtain ⟨w0, hw0⟩ : ∃ w0, w.alloc (.cells (shA l k) 23) = w0 := ⟨_, rfl⟩
  have M0 := Lib.hid (show Bk w0 g 23 (shA l k) by rw [← hw0, hg]; exact Bk.new _ _ _)
  have B0 := Lib.hid (show Below w.heap.size w w0 by rw [← hw0]; exact (Below.refl _ _).alloc (Nat.le_refl _) _)
  have k0 : w0.cell? ⟨g, 0, none⟩ = some (.int .i64 (l : Int)) := M0.out.cell 0
  have k1 : w0.cell? ⟨g, 1, none⟩ = some (.int .i64 (k : Int)) := M0.out.cell 1
  obtain ⟨A2, hA2⟩ : ∃ A2, cut2 Ap cp 32 = A2 := ⟨_, rfl⟩
  rw [hA2] at K1
  obtain ⟨A3, hA3⟩ : ∃ A3, cut2 Ag cg 8 = A3 := ⟨_, rfl⟩
  rw [hA3] at K2 K3
  obtain ⟨A4, hA4⟩ : ∃ A4, cut2 A3 (cg - 8) 32 = A4 := ⟨_, rfl⟩
  rw [hA4] at K3
  obtain ⟨N8, hN8⟩ : ∃ N8, N - 8 = N8 := ⟨_, rfl⟩
  obtain ⟨c8, hc8⟩ : ∃ c8, cg - 8 = c8 := ⟨_, rfl⟩
  rw [hN8, hc8] at K2 K3
  have hv64 : v < 18446744073709551616 := by
    have h9 := getL_lt (sig.take 8)
    have h8 : (sig.take 8).length = 8 := by rw [List.length_take, h.sig.len]; omega
    rw [h8] at h9
    omega
  have R0 := Lib.hid (show Rd w Ap 32 cp (pub.take 32) from h.pub.take (by omega))
  have S0 := Lib.hid (show Rd w A2 32 (cp - 32) (pub.drop 32) from by rw [← hA2]; exact h.pub.cut (by omega))
  have Y0 := Lib.hid (show Rd w A3 32 (cg - 8) ((sig.drop 8).take 32) from by rw [← hA3]; exact (h.sig.cut (k := 8) (by omega)).take (by omega))
  have Z0 := Lib.hid (show Rd w A4 (N - 8 - 32) (cg - 8 - 32) (sig.drop 40) from by
    have h9 := (h.sig.cut (k := 8) (by omega)).cut (k := 32) (by omega)
    rw [List.drop_drop] at h9
    rw [← hA4, ← hA3]
    exact h9)
  rw [hN8, hc8] at Z0
  rw [hc8] at Y0
  have HNL := Lib.hid (show N8 - 32 = l * (2144 + 32 * k) by have h9 := h.size; rw [sizeN] at h9; omega)
  have hlk := mayX_nat h.may
  have HL := Lib.hid (show 0 < l ∧ l < 13 ∧ 0 < k ∧ k < 21 by
    obtain ⟨l', k', e1, e2, q1, q2, q3, q4, _⟩ := hlk
    have e1' : l = l' := by exact_mod_cast e1
    have e2' : k = k' := by exact_mod_cast e2
    subst e1' e2'
    exact ⟨q1, q2, q3, q4⟩)
  have HTX := Lib.hid h.text
  have HGK := Lib.hid h.gk
  have HSH := Lib.hid h.short
  obtain ⟨root, hroot⟩ : ∃ root, root = pub.take 32 := ⟨_, rfl⟩
  obtain ⟨sd, hsd⟩ : ∃ sd, sd = pub.drop 32 := ⟨_, rfl⟩
  obtain ⟨salt, hsalt⟩ : ∃ salt, salt = (sig.drop 8).take 32 := ⟨_, rfl⟩
  obtain ⟨body, hbody⟩ : ∃ body, body = sig.drop 40 := ⟨_, rfl⟩
  rw [← hroot] at R0
  rw [← hsd] at S0
  rw [← hsalt] at Y0
  rw [← hbody] at Z0
  have TS := Lib.hid (show ∀ X, Below w.heap.size w X → Calls Tryz.prog 25 #[.slice A3 32 c8, .slice Ap 32 cp, .int .u64 (v : Int), .slice At nt ct] X (New X.heap.size X (textL salt root v text)) from fun X hX => textSum_any A3 c8 salt Ap cp root v hv64 At nt ct text X (h.gk.bel hX) (Y0.out.below hX) (R0.out.below hX) (h.text.below hX) h.short)
  have HV := Lib.hid hv64
  obtain ⟨R, hR⟩ : ∃ R, fitF sd k 0 l v (textL salt root v text) body = R := ⟨_, rfl⟩
  have HFR := Lib.hid hR
  have HFIN := Lib.hid (show fitN l k pub text sig = sameX R root by
    unfold fitN sameX
    rw [← hroot, ← hsd, ← hsalt, ← hbody, ← hv, hR, ← hT]
    have : decide (v < T) = true := by simp; omega
    rw [this]
    simp only [Bool.true_and]
    by_cases e : R = root
    · simp [e]
    · simp [e])
  have htl : (textL salt root v text).length = 32 := num_len _ _ _
  obtain ⟨tx, htx⟩ : ∃ tx, tx = textL salt root v text := ⟨_, rfl⟩
  rw [← htx] at TS htl HFR
  have HTL := Lib.hid htl
  clear htx htl hR hroot hsd hsalt hbody hlk hv64
  clear h hn hT hN40 hv hpc hpm hsc hsm hA2 hA3 hA4 hN8 hc8
  have hmix : Tryz.prog.follows .mixedOrders = true := by kernel_rfl
  refine (callsIn_wide (n := 3)).1 ?_
  refine callsIn_of_wp_marks Tryz.func14 rfl trivial ?_ rfl
  simp only [Tryz.ntmps14, List.size_toArray, List.length_cons, List.length_nil, Nat.reduceAdd, Nat.reduceSub, Array.replicate_succ, Array.replicate_zero, List.push_toArray, List.append_toArray, List.nil_append, List.cons_append]
  refine wpIn_wide.2 ?_
  go_upto_region 1 with (fail)
  rw [← hg]
  clear hw0 hg
  go_upto_region 3 with (first
    | (go_at_call 16; ((with_reducible refine (HM.out _).mono ?_); rintro e w1 ⟨rfl, b1⟩; have B1 := Lib.hid (B0.out.trans (b1.mono B0.out.size)); have M1 := Lib.hid (M0.out.below b1 M0.out.lt); have j0 := M1.out.cell 0; have j1 := M1.out.cell 1; simp only [List.getElem?_toArray, List.getElem?_cons_zero, List.getElem?_cons_succ] at j0 j1; clear b1))
    | (go_at_call 18; ((with_reducible refine (HS.out _).mono ?_); rintro e w2 ⟨rfl, b2⟩; have B2 := Lib.hid (B1.out.trans (b2.mono B1.out.size)); have M2 := Lib.hid (M1.out.below b2 M1.out.lt); clear b2)))
  go_upto_region 4 with (go_at_call 42; ((with_reducible refine (K1.out _).mono ?_); rintro e w3 ⟨rfl, b3⟩; have B3 := Lib.hid (B2.out.trans (b3.mono B2.out.size)); have M3 := Lib.hid (M2.out.below b3 M2.out.lt); clear b3))
  obtain ⟨d1, hd1⟩ : ∃ d1, w3.heap.size = d1 := ⟨_, rfl⟩
  obtain ⟨w4, hw4⟩ : ∃ w4, w3.alloc (.cells #[.slice A2 32 (cp - 32)] 24) = w4 := ⟨_, rfl⟩
  have P4 := Lib.hid (show Bk w4 d1 24 #[.slice A2 32 (cp - 32)] by rw [← hw4]; exact Bk.newAt _ _ _ _ hd1)
  have B4 := Lib.hid (show Below w.heap.size w w4 by rw [← hw4]; exact B3.out.alloc B3.out.size _)
  have M4 := Lib.hid (show Bk w4 g 23 (shA l k) by rw [← hw4]; exact M3.out.alloc _)
  have L4 := Lib.hid (show g < d1 by rw [← hd1]; exact M3.out.lt)
  first
    | rw [hw4, hd1]
    | rw [hd1]
    | skip
  clear hw4 hd1 j0 j1
  go_upto_region 5 with (go_at_call 42; ((with_reducible refine (K2.out _).mono ?_); rintro e w5 ⟨rfl, b5⟩; have B5 := Lib.hid (B4.out.trans (b5.mono B4.out.size)); have M5 := Lib.hid (M4.out.below b5 M4.out.lt); have P5 := Lib.hid (P4.out.below b5 P4.out.lt); clear b5))
  obtain ⟨d2, hd2⟩ : ∃ d2, w5.heap.size = d2 := ⟨_, rfl⟩
  obtain ⟨w6, hw6⟩ : ∃ w6, w5.alloc (.cells #[.slice A3 N8 c8] 24) = w6 := ⟨_, rfl⟩
  have R6 := Lib.hid (show Bk w6 d2 24 #[.slice A3 N8 c8] by rw [← hw6]; exact Bk.newAt _ _ _ _ hd2)
  have B6 := Lib.hid (show Below w.heap.size w w6 by rw [← hw6]; exact B5.out.alloc B5.out.size _)
  have M6 := Lib.hid (show Bk w6 g 23 (shA l k) by rw [← hw6]; exact M5.out.alloc _)
  have P6 := Lib.hid (show Bk w6 d1 24 #[.slice A2 32 (cp - 32)] by rw [← hw6]; exact P5.out.alloc _)
  have L6 := Lib.hid (show d1 < d2 by rw [← hd2]; exact P5.out.lt)
  first
    | rw [hw6, hd2]
    | rw [hd2]
    | skip
  clear hw6 hd2
  have r0 : w6.cell? ⟨d2, 0, none⟩ = some (.slice A3 N8 c8) := R6.out.cell 0
  go_upto_region 6 with (go_at_call 42; ((with_reducible refine (K3.out _).mono ?_); rintro e w7 ⟨rfl, b7⟩; have B7 := Lib.hid (B6.out.trans (b7.mono B6.out.size)); have M7 := Lib.hid (M6.out.below b7 M6.out.lt); have P7 := Lib.hid (P6.out.below b7 P6.out.lt); have R7 := Lib.hid (R6.out.below b7 R6.out.lt); have s0 := R7.out.cell 0; have s1 := R7.out.frozen 0; simp only [List.getElem?_toArray, List.getElem?_cons_zero, List.getElem?_cons_succ] at s0; clear b7))
  obtain ⟨w8, hw8⟩ : ∃ w8, w7.setCell ⟨d2, 0, none⟩ (.slice A4 (N8 - 32) (c8 - 32)) = w8 := ⟨_, rfl⟩
  have hg2 : w.heap.size ≤ d2 := by have := B5.out.size; have := L6.out; have := L4.out; have := HGS.out; omega
  have B8 := Lib.hid (show Below w.heap.size w w8 by rw [← hw8]; exact B7.out.setCell (p := ⟨d2, 0, none⟩) hg2 _)
  have M8 := Lib.hid (show Bk w8 g 23 (shA l k) by rw [← hw8]; exact M7.out.far (by show g ≠ d2; have := L6.out; have := L4.out; omega) _)
  have P8 := Lib.hid (show Bk w8 d1 24 #[.slice A2 32 (cp - 32)] by rw [← hw8]; exact P7.out.far (by show d1 ≠ d2; have := L6.out; omega) _)
  have R8 := Lib.hid (show Bk w8 d2 24 #[.slice A4 (N8 - 32) (c8 - 32)] by rw [← hw8]; exact R7.out.put 0 _)
  first
    | rw [hw8]
    | skip
  clear hw8 hg2 r0 s0 s1
  have j0 : w8.cell? ⟨g, 0, none⟩ = some (.int .i64 (l : Int)) := M8.out.cell 0
  have j1 : w8.cell? ⟨g, 1, none⟩ = some (.int .i64 (k : Int)) := M8.out.cell 1
  go_upto_region 9 with (first
    | (go_at_call 43; ((with_reducible refine (K4.out _ B8.out).mono ?_); rintro e w9 ⟨rfl, rfl⟩))
    | (go_at_call 17; ((with_reducible refine (HTT.out _).mono ?_); rintro e w10 ⟨rfl, b10⟩; have B10 := Lib.hid (B8.out.trans (b10.mono B8.out.size)); have M10 := Lib.hid (M8.out.below b10 M8.out.lt); have P10 := Lib.hid (P8.out.below b10 P8.out.lt); have R10 := Lib.hid (R8.out.below b10 R8.out.lt); clear b10)))
  clear j0 j1
  go_upto_region 10 with (go_at_call 25; ((with_reducible refine (TS.out _ B10.out).mono ?_); rintro e w11 ⟨As, ns, cs, rfl, q11, b11⟩; obtain rfl : ns = 32 := (own_len q11).symm.trans HTL.out; have X11 := Lib.hid (Rd.own q11); have B11 := Lib.hid (B10.out.trans (b11.mono B10.out.size)); have M11 := Lib.hid (M10.out.below b11 M10.out.lt); have P11 := Lib.hid (P10.out.below b11 P10.out.lt); have R11 := Lib.hid (R10.out.below b11 R10.out.lt); clear q11 b11))
  obtain ⟨d3, hd3⟩ : ∃ d3, w11.heap.size = d3 := ⟨_, rfl⟩
  obtain ⟨w12, hw12⟩ : ∃ w12, w11.alloc (.cells #[.slice As 32 cs] 24) = w12 := ⟨_, rfl⟩
  have E12 := Lib.hid (show Bk w12 d3 24 #[.slice As 32 cs] by rw [← hw12]; exact Bk.newAt _ _ _ _ hd3)
  have B12 := Lib.hid (show Below w.heap.size w w12 by rw [← hw12]; exact B11.out.alloc B11.out.size _)
  have M12 := Lib.hid (show Bk w12 g 23 (shA l k) by rw [← hw12]; exact M11.out.alloc _)
  have P12 := Lib.hid (show Bk w12 d1 24 #[.slice A2 32 (cp - 32)] by rw [← hw12]; exact P11.out.alloc _)
  have R12 := Lib.hid (show Bk w12 d2 24 #[.slice A4 (N8 - 32) (c8 - 32)] by rw [← hw12]; exact R11.out.alloc _)
  have X12 := Lib.hid (show Rd w12 As 32 cs tx by rw [← hw12]; exact X11.out.alloc _)
  have L12 := Lib.hid (show d2 < d3 by rw [← hd3]; exact R11.out.lt)
  first
    | rw [hw12, hd3]
    | rw [hd3]
    | skip
  have hs12 : w12.heap.size = d3 + 1 := by rw [← hw12, ← hd3]; simp
  clear hw12 hd3
  have j0 : w12.cell? ⟨g, 0, none⟩ = some (.int .i64 (l : Int)) := M12.out.cell 0
  have j1 : w12.cell? ⟨g, 1, none⟩ = some (.int .i64 (k : Int)) := M12.out.cell 1
  obtain ⟨wL, hwL⟩ : ∃ wL, (w12.alloc (.cells (shA l k) 23)).alloc (.cells #[.int .u64 (v : Int)] 27) = wL := ⟨_, rfl⟩
  have HPL := Lib.hid (show Calls Tryz.prog 21 #[.agg #[.int .i64 (l : Int), .int .i64 (k : Int)], .int .u64 (v : Int)] w12 fun e w' => e = .returned (.func (.func 53) #[] #[.pointer (some ⟨d3 + 1, 0, none⟩), .pointer (some ⟨d3 + 2, 0, none⟩)]) ∧ w' = wL from by
    have h9 := places_any l k v w12
    rw [hs12, hwL] at h9
    exact h9)
  have BXL := Lib.hid (show Bk wL (d3 + 1) 23 (shA l k) by rw [← hwL, ← hs12]; exact (Bk.new _ _ _).alloc _)
  have BNL := Lib.hid (show Bk wL (d3 + 2) 27 #[.int .u64 (v : Int)] by rw [← hwL]; exact Bk.newAt _ _ _ _ (by simp [hs12]))
  have HBB := Lib.hid (show Below w12.heap.size w12 wL by rw [← hwL]; exact ((Below.refl _ _).alloc (Nat.le_refl _) _).alloc (by simp) _)
  have HSL := Lib.hid (show wL.heap.size = d3 + 3 by rw [← hwL]; simp [hs12])
  clear hwL hs12
  go_wp2_with (go_at_call 21; ((with_reducible refine HPL.out.mono ?_); rintro e w13 ⟨rfl, h13⟩; obtain rfl := h13.symm))
  have BL := Lib.hid (B12.out.trans (HBB.out.mono B12.out.size))
  have ML := Lib.hid (M12.out.below HBB.out M12.out.lt)
  have PL := Lib.hid (P12.out.below HBB.out P12.out.lt)
  have RL := Lib.hid (R12.out.below HBB.out R12.out.lt)
  have EL := Lib.hid (E12.out.below HBB.out E12.out.lt)
  have XL := Lib.hid (X12.out.below HBB.out)
  clear j0 j1
  refine (wpIn_wide (n := 3)).1 ?_
  refine RD.range_box (m := 3) (N := l) (bn := d3 + 2) (gf := 53) (lb := #[.pointer (some ⟨d3 + 1, 0, none⟩), .pointer (some ⟨d3 + 2, 0, none⟩)]) (encs := fun j => #[.agg (plN k v j)]) rfl (enters_of Tryz.func53 (by kernel_rfl) rfl)
    (places_it 2 (by omega) (d3 + 1) (d3 + 2) l k v HL.out.2.1 HL.out.2.2.2 HV.out) (fun _ => rfl) (by rw [HSL.out]; omega)
    (fun j _ X => FI w wL sd k l v d2 d3 (d3 + 2) R j X) (FI.own BL.out.size) (fun j z X h => ⟨h.ke.bk BXL.out (by rw [HSL.out]; omega) (by have := L12.out; omega), h.box⟩) ?h0 (fun j => .cells (plN k v j) 52) ?a1 ?assign ?body ?done
  case h0 =>
    intro z _
    exact ⟨KX.refl _, BL.out, by rw [nT_zero]; exact BNL.out, A4, c8 - 32, N8 - 32, body, As, cs, tx, RL.out, Z0.out, by rw [HNL.out, Nat.sub_zero], EL.out, XL.out, by rw [nT_zero, Nat.sub_zero]; exact HFR.out⟩
  case assign =>
    intro lp j t W K ht hK
    gi_wp2
    exact hK
  case body =>
    intro lp j z t W hI hzt ht hwz hj
    obtain ⟨A, c, m, xs, A', c', ys, h1, h2, h3, h4, h5, h6⟩ := hI.got
    have htt : Bk W t 52 (plN k v j) := ht
    obtain ⟨tr, htr⟩ : ∃ tr, tr = nT k v (j + 1) := ⟨_, rfl⟩
    obtain ⟨q, hq⟩ : ∃ q, q = nT k v j % 2 ^ k := ⟨_, rfl⟩
    have hpl : plN k v j = plA j tr q := by rw [htr, hq]
    rw [hpl] at htt
    have hv64 := HV.out
    have htr64 : tr < 18446744073709551616 := by rw [htr]; exact Nat.lt_of_le_of_lt (Nat.div_le_self _ _) hv64
    have hq32 : q < 4294967296 := by
      have h9 : 2 ^ k ≤ 2 ^ 20 := Nat.pow_le_pow_right (by omega) (by have := HL.out; omega)
      have h8 : nT k v j % 2 ^ k < 2 ^ k := Nat.mod_lt _ (Nat.two_pow_pos k)
      have h7 : (2 : Nat) ^ 20 = 1048576 := rfl
      rw [hq]
      omega
    obtain ⟨m', hm'⟩ : ∃ m', m' = (l - (j + 1)) * (2144 + 32 * k) := ⟨_, rfl⟩
    have hmm : m = 2144 + (32 * k + m') := by
      rw [h3, hm', show l - j = (l - (j + 1)) + 1 by omega, Nat.succ_mul]
      omega
    have h7 : fitF sd k (j + 1) (l - (j + 1)) (nT k v (j + 1)) (climbF sd j tr 0 k q (standL sd (adQ j tr q) ys (xs.take 2144)) (xs.drop 2144)) (xs.drop (2144 + 32 * k)) = R := by
      have h8 := h6
      rw [show l - j = (l - (j + 1)) + 1 by omega, fitF, ← nT_succ, ← htr, ← hq] at h8
      rw [← htr]
      exact h8
    have HF := Lib.hid h7
    have T0 := Lib.hid htt
    have XR := Lib.hid h1
    have XS := Lib.hid h4
    have R1 := Lib.hid h2
    have Y1 := Lib.hid h5
    have HI := Lib.hid hI
    have HMM := Lib.hid hmm
    have HM' := Lib.hid hm'
    have HJL := Lib.hid hj
    clear h1 h2 h3 h4 h5 h6 h7 hI htt ht hv64 hpl hm' hmm hq
    obtain ⟨wl, hwl⟩ : ∃ wl, wl = 32 * k := ⟨_, rfl⟩
    have HWL := Lib.hid hwl
    obtain ⟨M1, hM1⟩ : ∃ M1, M1 = wl + m' := ⟨_, rfl⟩
    have hmc := R1.out.cap
    have hmx := R1.out.max
    have hm1 : m - 2144 = M1 := by have := HMM.out; omega
    have hm2 : M1 - wl = m' := by omega
    obtain ⟨c1, hc1⟩ : ∃ c1, c - 2144 = c1 := ⟨_, rfl⟩
    obtain ⟨c2, hc2⟩ : ∃ c2, c1 - wl = c2 := ⟨_, rfl⟩
    obtain ⟨A5, hA5⟩ : ∃ A5, cut2 A c 2144 = A5 := ⟨_, rfl⟩
    obtain ⟨A6, hA6⟩ : ∃ A6, cut2 A5 c1 wl = A6 := ⟨_, rfl⟩
    have hmge : 2144 ≤ m := by have := HMM.out; omega
    have TKB := Lib.hid (show ∀ X, Calls Tryz.prog 42 #[.slice A m c, .int .i64 2144] X fun e w' => e = .returned (.tuple #[.slice A 2144 c, .slice A5 M1 c1]) ∧ Below X.heap.size X w' from fun X => by rw [← hA5, ← hm1, ← hc1]; exact take_any A m c 2144 hmge hmc hmx X)
    have TKC := Lib.hid (show ∀ X, Calls Tryz.prog 42 #[.slice A5 M1 c1, .int .i64 (wl : Int)] X fun e w' => e = .returned (.tuple #[.slice A5 wl c1, .slice A6 m' c2]) ∧ Below X.heap.size X w' from fun X => by rw [← hA6, ← hm2, ← hc2]; exact take_any A5 M1 c1 wl (by omega) (by omega) (by omega) X)
    have WLC := Lib.hid (show ∀ X, Calls Tryz.prog 44 #[.agg #[.int .i64 (l : Int), .int .i64 (k : Int)]] X (GivesV (.int .i64 (wl : Int)) X) from fun X => by
      have e3 : ((wl : Nat) : Int) = 32 * (k : Int) := by omega
      rw [e3]
      exact wayLen_any l k (by have := HL.out; omega) (by have := HL.out; omega) X)
    have RQ := Lib.hid (show Rd w A5 M1 c1 (xs.drop 2144) from by rw [← hA5, ← hm1, ← hc1]; exact R1.out.cut hmge)
    have RS := Lib.hid (show Rd w A 2144 c (xs.take 2144) from R1.out.take hmge)
    have RY := Lib.hid (show Rd w A5 wl c1 ((xs.drop 2144).take wl) from RQ.out.take (by omega))
    have RZ := Lib.hid (show Rd w A6 m' c2 (xs.drop (2144 + wl)) from by rw [← hA6, ← hm2, ← hc2, ← List.drop_drop]; exact RQ.out.cut (by omega))
    clear hM1 hm1 hm2 hc1 hc2 hA5 hA6 hmge hmc hmx hwl
    have HD := Lib.hid (show g < d1 ∧ d1 < d2 ∧ d2 < d3 from ⟨L4.out, L6.out, L12.out⟩)
    have HTW := Lib.hid (show d3 + 3 ≤ t ∧ t < W.heap.size from ⟨by have := HSL.out; omega, T0.out.lt⟩)
    have HWW := Lib.hid (show d3 + 3 ≤ W.heap.size by have := HI.out.ke.size; have := HSL.out; omega)
    have HGW := Lib.hid (show w.heap.size ≤ d2 ∧ w.heap.size ≤ d3 ∧ w.heap.size ≤ d3 + 2 by have := HGS.out; have := HD.out; omega)
    have MW := Lib.hid (HI.out.ke.bk ML.out (by have := HSL.out; have := HD.out; omega) (by have := HD.out; omega))
    have PW := Lib.hid (HI.out.ke.bk PL.out (by have := HSL.out; have := HD.out; omega) (by have := HD.out; omega))
    have KS := Lib.hid (show ∀ X, KX W.heap.size (fun b => b = d2 ∨ b = d3) W X → X.cell? ⟨g, 0, none⟩ = some (.int .i64 (l : Int)) ∧ X.cell? ⟨g, 1, none⟩ = some (.int .i64 (k : Int)) from fun X hX => by
      have h9 := hX.bk MW.out MW.out.lt (by have := HD.out; omega)
      exact ⟨h9.cell 0, h9.cell 1⟩)
    have KP := Lib.hid (show ∀ X, KX W.heap.size (fun b => b = d2 ∨ b = d3) W X → X.cell? ⟨t, 0, none⟩ = some (.int .u32 (j : Int)) ∧ X.cell? ⟨t, 1, none⟩ = some (.int .u64 (tr : Int)) ∧ X.cell? ⟨t, 2, none⟩ = some (.int .u32 (q : Int)) ∧ X.cell? ⟨d1, 0, none⟩ = some (.slice A2 32 (cp - 32)) from fun X hX => by
      have h9 := hX.bk T0.out HTW.out.2 (by have := HTW.out; have := HD.out; omega)
      have h8 := hX.bk PW.out PW.out.lt (by have := HD.out; omega)
      exact ⟨h9.cell 0, h9.cell 1, h9.cell 2, h8.cell 0⟩)
    have r0 : W.cell? ⟨d2, 0, none⟩ = some (.slice A m c) := XR.out.cell 0
    gi_wp2_with (refine ⟨trivial, ?_⟩; gi_at_call 42; refine (calls_in (TKB.out _)).mono ?_; rintro e X1 ⟨rfl, b1⟩; have B1 := Lib.hid b1; have D1 := Lib.hid (XR.out.below b1 XR.out.lt); have s0 := D1.out.cell 0; have s1 := D1.out.frozen 0; simp only [List.getElem?_toArray, List.getElem?_cons_zero, List.getElem?_cons_succ] at s0; clear b1)
    obtain ⟨X2, hX2⟩ : ∃ X2, X1.setCell ⟨d2, 0, none⟩ (.slice A5 M1 c1) = X2 := ⟨_, rfl⟩
    have K2' := Lib.hid (show KX W.heap.size (fun b => b = d2 ∨ b = d3) W X2 by rw [← hX2]; exact (KX.bel B1.out (Nat.le_refl _)).trans (KX.set (.inl rfl) X1 0 _))
    have BW2 := Lib.hid (show Below w.heap.size w X2 by rw [← hX2]; exact (HI.out.bel.trans (B1.out.mono HI.out.bel.size)).setCell (p := ⟨d2, 0, none⟩) HGW.out.1 _)
    have D2 := Lib.hid (show Bk X2 d2 24 #[.slice A5 M1 c1] by rw [← hX2]; exact D1.out.put 0 _)
    have E2 := Lib.hid (show Bk X2 d3 24 #[.slice A' 32 c'] by rw [← hX2]; exact (XS.out.below B1.out XS.out.lt).far (by show d3 ≠ d2; have := HD.out; omega) _)
    have Y2 := Lib.hid (show Rd X2 A' 32 c' ys by rw [← hX2]; exact rd_box (Y1.out.below B1.out) D1.out no_u8_slice 0 _)
    first
      | rw [hX2]
      | skip
    clear hX2 r0 s0 s1
    have HS0 := Lib.hid (KS.out X2.drew (K2'.out.trans (KX.bel (Below.refl _ _).drew K2'.out.size)))
    have e0 : X2.drew.cell? ⟨d2, 0, none⟩ = some (.slice A5 M1 c1) := by have := D2.out.drew.cell 0; simpa using this
    gi_wp2_with (fail)
    refine RD.h_begin (fun X => X.cell? ⟨g, 0, none⟩ = some (.int .i64 (l : Int)) ∧ X.cell? ⟨g, 1, none⟩ = some (.int .i64 (k : Int))) 9 (by kernel_rfl) ?_ (by kernel_rfl) rfl ?_
    · rintro ⟨_, _, h, _⟩
      cases h
    refine RD.h_take 1 (.agg #[.int .i64 (l : Int), .int .i64 (k : Int)]) rfl (by kernel_rfl) (by kernel_rfl) (by kernel_rfl) (fun _ _ _ h => h) (by rfl) HS0.out (fun X hX => ?_) ?_
    · obtain ⟨h0, h1⟩ := hX
      go_simp
    simp only [Act.put, List.setIfInBounds_toArray, List.set_cons_zero, List.set_cons_succ]
    refine RD.h_any [0, 2] (by kernel_rfl) (by simp) (RD.two_of ?_ ?_)
    · refine RD.h_run (.slice A5 M1 c1) X2.drew rfl (by rfl) (by go_simp) ⟨HS0.out, ?_⟩
      simp only [Act.put, List.setIfInBounds_toArray, List.set_cons_zero, List.set_cons_succ]
      refine RD.h_any [2] (by kernel_rfl) (by simp) (RD.one_of ?_)
      refine RD.h_call 44 #[(.agg #[.int .i64 (l : Int), .int .i64 (k : Int)])] rfl (by rfl) (by go_simp) ((WLC.out X2.drew).mono ?_)
      rintro e X1 ⟨rfl, b3⟩
      have B3 := Lib.hid b3
      have D3 := Lib.hid (D2.out.drew.below b3 D2.out.lt)
      have e3 : X1.cell? ⟨d2, 0, none⟩ = some (.slice A5 M1 c1) := by have := D3.out.cell 0; simpa using this
      have HS1 := Lib.hid (KS.out X1 ((K2'.out.trans (KX.bel (Below.refl _ _).drew K2'.out.size)).trans (KX.bel b3 K2'.out.size)))
      clear b3
      refine ⟨_, rfl, HS1.out, ?_⟩
      simp only [Act.put, List.setIfInBounds_toArray, List.set_cons_zero, List.set_cons_succ]
      refine RD.h_any [3] (by kernel_rfl) (by simp) (RD.one_of ?_)
      refine RD.h_call 42 #[.slice A5 M1 c1, .int .i64 (wl : Int)] rfl (by rfl) (by go_simp) ((TKC.out X1).mono ?_)
      rintro e X4 ⟨rfl, b4⟩
      have B4 := Lib.hid b4
      have K4 := Lib.hid (((K2'.out.trans (KX.bel (Below.refl _ _).drew K2'.out.size)).trans (KX.bel B3.out K2'.out.size)).trans (KX.bel b4 (Nat.le_trans K2'.out.size B3.out.size)))
      have D4 := Lib.hid (D3.out.below b4 D3.out.lt)
      have HS4 := Lib.hid (KS.out X4 K4.out)
      clear b4
      refine ⟨_, rfl, HS4.out, ?_⟩
      simp only [Act.put, List.setIfInBounds_toArray, List.set_cons_zero, List.set_cons_succ]
      refine RD.h_take 4 (.tuple #[.slice A5 wl c1, .slice A6 m' c2]) rfl (by kernel_rfl) (by kernel_rfl) (by kernel_rfl) (fun _ _ _ h => h) (by rfl) HS4.out (fun X hX => ?_) ?_
      · obtain ⟨h0, h1⟩ := hX
        go_simp
      simp only [Act.put, List.setIfInBounds_toArray, List.set_cons_zero, List.set_cons_succ]
      refine RD.h_take 5 (.slice A5 wl c1) rfl (by kernel_rfl) (by kernel_rfl) (by kernel_rfl) (fun _ _ _ h => h) (by rfl) HS4.out (fun X hX => ?_) ?_
      · obtain ⟨h0, h1⟩ := hX
        go_simp
      simp only [Act.put, List.setIfInBounds_toArray, List.set_cons_zero, List.set_cons_succ]
      refine RD.h_take 6 (.slice A6 m' c2) rfl (by kernel_rfl) (by kernel_rfl) (by kernel_rfl) (fun _ _ _ h => h) (by rfl) HS4.out (fun X hX => ?_) ?_
      · obtain ⟨h0, h1⟩ := hX
        go_simp
      simp only [Act.put, List.setIfInBounds_toArray, List.set_cons_zero, List.set_cons_succ]
      refine RD.h_take 7 (.slice A5 wl c1) rfl (by kernel_rfl) (by kernel_rfl) (by kernel_rfl) (fun _ _ _ h => h) (by rfl) HS4.out (fun X hX => ?_) ?_
      · obtain ⟨h0, h1⟩ := hX
        go_simp
      simp only [Act.put, List.setIfInBounds_toArray, List.set_cons_zero, List.set_cons_succ]
      have s4 := D4.out.cell 0
      have f4 := D4.out.frozen 0
      simp at s4
      refine RD.h_any [8] (by kernel_rfl) (by simp) (RD.one_of ?_)
      have K5 := Lib.hid (K4.out.trans (KX.set (n := W.heap.size) (E := fun b => b = d2 ∨ b = d3) (.inl rfl) X4 0 (.slice A6 m' c2)))
      have HS5 := Lib.hid (KS.out _ K5.out)
      refine RD.h_skip (X4.setCell ⟨d2, 0, none⟩ (.slice A6 m' c2)) rfl (by rfl) (by go_simp) ⟨HS5.out, ?_⟩
      simp only [Act.put, List.setIfInBounds_toArray, List.set_cons_zero, List.set_cons_succ]
      refine RD.h_done (by kernel_rfl) ?_
      have BX4 := Lib.hid (show Below w.heap.size w X4 from ((BW2.out.drew).trans (B3.out.mono BW2.out.size)).trans (B4.out.mono (Nat.le_trans BW2.out.size B3.out.size)))
      obtain ⟨X5, hX5⟩ : ∃ X5, X4.setCell ⟨d2, 0, none⟩ (.slice A6 m' c2) = X5 := ⟨_, rfl⟩
      rw [hX5] at K5 ⊢
      have BW5 := Lib.hid (show Below w.heap.size w X5 by rw [← hX5]; exact BX4.out.setCell (p := ⟨d2, 0, none⟩) HGW.out.1 _)
      have D5 := Lib.hid (show Bk X5 d2 24 #[.slice A6 m' c2] by rw [← hX5]; exact D4.out.put 0 _)
      have E4 := Lib.hid ((E2.out.drew.below B3.out E2.out.lt).below B4.out (Nat.lt_of_lt_of_le E2.out.lt B3.out.size))
      have E5 := Lib.hid (show Bk X5 d3 24 #[.slice A' 32 c'] by rw [← hX5]; exact E4.out.far (by show d3 ≠ d2; have := HD.out; omega) _)
      have Y5 := Lib.hid (show Rd X5 A' 32 c' ys by rw [← hX5]; exact rd_box ((Y2.out.drew.below B3.out).below B4.out) D4.out no_u8_slice 0 _)
      clear hX5 s4 f4 e0 e3 HS0 HS1 HS4 HS5
      have HP0 := Lib.hid (KP.out X5.drew (K5.out.trans (KX.bel (Below.refl _ _).drew K5.out.size)))
      have e5 : X5.drew.cell? ⟨d3, 0, none⟩ = some (.slice A' 32 c') := by have := E5.out.drew.cell 0; simpa using this
      gi_wp2_with (fail)
      refine RD.h_begin (fun X => X.cell? ⟨t, 0, none⟩ = some (.int .u32 (j : Int)) ∧ X.cell? ⟨t, 1, none⟩ = some (.int .u64 (tr : Int)) ∧ X.cell? ⟨t, 2, none⟩ = some (.int .u32 (q : Int)) ∧ X.cell? ⟨d1, 0, none⟩ = some (.slice A2 32 (cp - 32))) 15 (by kernel_rfl) ?_ (by kernel_rfl) rfl ?_
      · rintro ⟨_, _, h, _⟩
        cases h
      refine RD.h_take 0 (.agg #[.int .u32 (j : Int), .int .u64 (tr : Int), .int .u32 (q : Int)]) rfl (by kernel_rfl) (by kernel_rfl) (by kernel_rfl) (fun _ _ _ h => h) (by rfl) HP0.out (fun X hX => ?_) ?_
      · obtain ⟨h0, h1, h2, h3⟩ := hX
        go_simp
      simp only [Act.put, List.setIfInBounds_toArray, List.set_cons_zero, List.set_cons_succ]
      refine RD.h_take 1 (.slice A2 32 (cp - 32)) rfl (by kernel_rfl) (by kernel_rfl) (by kernel_rfl) (fun _ _ _ h => h) (by rfl) HP0.out (fun X hX => ?_) ?_
      · obtain ⟨h0, h1, h2, h3⟩ := hX
        go_simp
      simp only [Act.put, List.setIfInBounds_toArray, List.set_cons_zero, List.set_cons_succ]
      refine RD.h_take 2 (.slice A2 32 (cp - 32)) rfl (by kernel_rfl) (by kernel_rfl) (by kernel_rfl) (fun _ _ _ h => h) (by rfl) HP0.out (fun X hX => ?_) ?_
      · obtain ⟨h0, h1, h2, h3⟩ := hX
        go_simp
      simp only [Act.put, List.setIfInBounds_toArray, List.set_cons_zero, List.set_cons_succ]
      refine RD.h_take 3 (.pointer (some ⟨t, 0, none⟩)) rfl (by kernel_rfl) (by kernel_rfl) (by kernel_rfl) (fun _ _ _ h => h) (by rfl) HP0.out (fun X hX => ?_) ?_
      · obtain ⟨h0, h1, h2, h3⟩ := hX
        go_simp
      simp only [Act.put, List.setIfInBounds_toArray, List.set_cons_zero, List.set_cons_succ]
      refine RD.h_take 4 (.int .u32 (j : Int)) rfl (by kernel_rfl) (by kernel_rfl) (by kernel_rfl) (fun _ _ _ h => h) (by rfl) HP0.out (fun X hX => ?_) ?_
      · obtain ⟨h0, h1, h2, h3⟩ := hX
        go_simp
      simp only [Act.put, List.setIfInBounds_toArray, List.set_cons_zero, List.set_cons_succ]
      refine RD.h_take 5 (.pointer (some ⟨t, 1, none⟩)) rfl (by kernel_rfl) (by kernel_rfl) (by kernel_rfl) (fun _ _ _ h => h) (by rfl) HP0.out (fun X hX => ?_) ?_
      · obtain ⟨h0, h1, h2, h3⟩ := hX
        go_simp
      simp only [Act.put, List.setIfInBounds_toArray, List.set_cons_zero, List.set_cons_succ]
      refine RD.h_take 6 (.int .u64 (tr : Int)) rfl (by kernel_rfl) (by kernel_rfl) (by kernel_rfl) (fun _ _ _ h => h) (by rfl) HP0.out (fun X hX => ?_) ?_
      · obtain ⟨h0, h1, h2, h3⟩ := hX
        go_simp
      simp only [Act.put, List.setIfInBounds_toArray, List.set_cons_zero, List.set_cons_succ]
      refine RD.h_take 7 (.pointer (some ⟨t, 2, none⟩)) rfl (by kernel_rfl) (by kernel_rfl) (by kernel_rfl) (fun _ _ _ h => h) (by rfl) HP0.out (fun X hX => ?_) ?_
      · obtain ⟨h0, h1, h2, h3⟩ := hX
        go_simp
      simp only [Act.put, List.setIfInBounds_toArray, List.set_cons_zero, List.set_cons_succ]
      refine RD.h_take 8 (.int .u32 (q : Int)) rfl (by kernel_rfl) (by kernel_rfl) (by kernel_rfl) (fun _ _ _ h => h) (by rfl) HP0.out (fun X hX => ?_) ?_
      · obtain ⟨h0, h1, h2, h3⟩ := hX
        go_simp
      simp only [Act.put, List.setIfInBounds_toArray, List.set_cons_zero, List.set_cons_succ]
      refine RD.h_take 10 (.slice A 2144 c) rfl (by kernel_rfl) (by kernel_rfl) (by kernel_rfl) (fun _ _ _ h => h) (by rfl) HP0.out (fun X hX => ?_) ?_
      · obtain ⟨h0, h1, h2, h3⟩ := hX
        go_simp
      simp only [Act.put, List.setIfInBounds_toArray, List.set_cons_zero, List.set_cons_succ]
      refine RD.h_take 12 (.slice A5 wl c1) rfl (by kernel_rfl) (by kernel_rfl) (by kernel_rfl) (fun _ _ _ h => h) (by rfl) HP0.out (fun X hX => ?_) ?_
      · obtain ⟨h0, h1, h2, h3⟩ := hX
        go_simp
      simp only [Act.put, List.setIfInBounds_toArray, List.set_cons_zero, List.set_cons_succ]
      refine RD.h_any [9] (by kernel_rfl) (by simp) (RD.one_of ?_)
      refine RD.h_run (.slice A' 32 c') X5.drew rfl (by rfl) (by go_simp) ⟨HP0.out, ?_⟩
      simp only [Act.put, List.setIfInBounds_toArray, List.set_cons_zero, List.set_cons_succ]
      refine RD.h_any [11] (by kernel_rfl) (by simp) (RD.one_of ?_)
      have HG5 := Lib.hid (HGK.out.bel BW5.out.drew)
      refine RD.h_call 46 #[.slice A2 32 (cp - 32), .int .u32 (j : Int), .int .u64 (tr : Int), .int .u32 (q : Int), .slice A' 32 c', .slice A 2144 c] rfl (by rfl) (by go_simp) ((stands_may A2 (cp - 32) sd j tr q A' c' ys A c _ X5.drew HG5.out (S0.out.below BW5.out.drew) Y5.out.drew (RS.out.below BW5.out.drew) (by have := HL.out; have := HJL.out; omega) htr64 hq32).mono ?_)
      rintro e X6 ⟨A7, n7, c7, rfl, q7, b6⟩
      obtain rfl : n7 = 32 := (own_len q7).symm.trans (stand_len _ _ _ _ RS.out.len)
      have R7 := Lib.hid (Rd.own q7)
      have B6 := Lib.hid b6
      have K6 := Lib.hid ((K5.out.trans (KX.bel (Below.refl _ _).drew K5.out.size)).trans (KX.bel b6 K5.out.size))
      have BW6 := Lib.hid (BW5.out.drew.trans (b6.mono BW5.out.size))
      have E6 := Lib.hid (E5.out.drew.below b6 E5.out.lt)
      have D6 := Lib.hid (D5.out.drew.below b6 D5.out.lt)
      have HP6 := Lib.hid (KP.out X6 K6.out)
      clear q7 b6
      refine ⟨_, rfl, HP6.out, ?_⟩
      simp only [Act.put, List.setIfInBounds_toArray, List.set_cons_zero, List.set_cons_succ]
      refine RD.h_any [13] (by kernel_rfl) (by simp) (RD.one_of ?_)
      have HCL := Lib.hid (show Calls Tryz.prog 45 #[.agg #[.int .u32 (j : Int), .int .u64 (tr : Int), .int .u32 (q : Int)], .slice A2 32 (cp - 32), .slice A7 32 c7, .slice A5 wl c1] X6 (Gives32 X6 (climbF sd j tr 0 k q (standL sd (adQ j tr q) ys (xs.take 2144)) (xs.drop 2144))) from by
        have h9 := climb_any j tr q k (by have := HL.out; have := HJL.out; omega) htr64 hq32 (by have := HL.out; omega) A2 (cp - 32) sd A7 c7 _ A5 c1 ((xs.drop 2144).take (32 * k)) X6 (HGK.out.bel BW6.out) (S0.out.below BW6.out) R7.out (by rw [← HWL.out]; exact RY.out.below BW6.out)
        rw [climb_take, ← HWL.out] at h9
        exact h9)
      refine RD.h_call 45 #[.agg #[.int .u32 (j : Int), .int .u64 (tr : Int), .int .u32 (q : Int)], .slice A2 32 (cp - 32), .slice A7 32 c7, .slice A5 wl c1] rfl (by rfl) (by go_simp) (HCL.out.mono ?_)
      rintro e X7 ⟨A8, c8', rfl, r8, b7⟩
      have R8' := Lib.hid r8
      have K7 := Lib.hid (K6.out.trans (KX.bel b7 K6.out.size))
      have BW7 := Lib.hid (BW6.out.trans (b7.mono BW6.out.size))
      have E7 := Lib.hid (E6.out.below b7 E6.out.lt)
      have D7 := Lib.hid (D6.out.below b7 D6.out.lt)
      have HP7 := Lib.hid (KP.out X7 K7.out)
      have s7 := E7.out.cell 0
      have f7 := E7.out.frozen 0
      simp at s7
      clear r8 b7
      refine ⟨_, rfl, HP7.out, ?_⟩
      simp only [Act.put, List.setIfInBounds_toArray, List.set_cons_zero, List.set_cons_succ]
      refine RD.h_any [14] (by kernel_rfl) (by simp) (RD.one_of ?_)
      have K8 := Lib.hid (K7.out.trans (KX.set (n := W.heap.size) (E := fun b => b = d2 ∨ b = d3) (.inr rfl) X7 0 (.slice A8 32 c8')))
      have HP8 := Lib.hid (KP.out _ K8.out)
      refine RD.h_skip (X7.setCell ⟨d3, 0, none⟩ (.slice A8 32 c8')) rfl (by rfl) (by go_simp) ⟨HP8.out, ?_⟩
      simp only [Act.put, List.setIfInBounds_toArray, List.set_cons_zero, List.set_cons_succ]
      have BW8 := Lib.hid (BW7.out.setCell (p := ⟨d3, 0, none⟩) HGW.out.2.1 (.slice A8 32 c8'))
      have E8 := Lib.hid (E7.out.put 0 (.slice A8 32 c8'))
      have D8 := Lib.hid (D7.out.far (p := ⟨d3, 0, none⟩) (by show d2 ≠ d3; have := HD.out; omega) (.slice A8 32 c8'))
      have R9 := Lib.hid (rd_box R8'.out E7.out no_u8_slice 0 (.slice A8 32 c8'))
      obtain ⟨X8, hX8⟩ : ∃ X8, X7.setCell ⟨d3, 0, none⟩ (.slice A8 32 c8') = X8 := ⟨_, rfl⟩
      rw [hX8] at K8 BW8 E8 D8 R9 ⊢
      have BN8 := Lib.hid (K8.out.bk HI.out.box HI.out.box.lt (by have := HD.out; omega))
      refine RD.h_done (by kernel_rfl) ⟨rfl, ⟨K8.out.size, fun b o hb ho _ => ?_⟩, fun b o hb ho _ => ?_, BN8.out, fun z' _ => ?_⟩
      · exact (K8.out.same b (Array.getElem?_eq_some_iff.1 ho).1 (by have := HSL.out; have := HD.out; omega)).trans ho
      · exact (K8.out.same b (Array.getElem?_eq_some_iff.1 ho).1 (by have := HSL.out; have := HD.out; omega)).trans ho
      · refine ⟨(HI.out.ke.trans (K8.out.mono HI.out.ke.size fun b _ hb => by rcases hb with hb | hb <;> simp [hb])).trans (KX.set (.inr (.inr rfl)) _ _ _), BW8.out.setCell (p := ⟨d3 + 2, 0, none⟩) HGW.out.2.2 _, BN8.out.put 0 _, A6, c2, m', xs.drop (2144 + wl), A8, c8', _, D8.out.far (by show d2 ≠ d3 + 2; have := HD.out; omega) _, RZ.out, HM'.out, E8.out.far (by show d3 ≠ d3 + 2; omega) _, rd_box R9.out BN8.out no_u8_u64 0 _, ?_⟩
        rw [HWL.out]
        exact HF.out
    · refine RD.h_call 44 #[(.agg #[.int .i64 (l : Int), .int .i64 (k : Int)])] rfl (by rfl) (by go_simp) ((WLC.out X2.drew).mono ?_)
      rintro e X1 ⟨rfl, b3⟩
      have B3 := Lib.hid b3
      have D3 := Lib.hid (D2.out.drew.below b3 D2.out.lt)
      have e3 : X1.cell? ⟨d2, 0, none⟩ = some (.slice A5 M1 c1) := by have := D3.out.cell 0; simpa using this
      have HS1 := Lib.hid (KS.out X1 ((K2'.out.trans (KX.bel (Below.refl _ _).drew K2'.out.size)).trans (KX.bel b3 K2'.out.size)))
      clear b3
      refine ⟨_, rfl, HS1.out, ?_⟩
      simp only [Act.put, List.setIfInBounds_toArray, List.set_cons_zero, List.set_cons_succ]
      refine RD.h_any [0] (by kernel_rfl) (by simp) (RD.one_of ?_)
      refine RD.h_run (.slice A5 M1 c1) X1 rfl (by rfl) (by go_simp) ⟨HS1.out, ?_⟩
      simp only [Act.put, List.setIfInBounds_toArray, List.set_cons_zero, List.set_cons_succ]
      refine RD.h_any [3] (by kernel_rfl) (by simp) (RD.one_of ?_)
      refine RD.h_call 42 #[.slice A5 M1 c1, .int .i64 (wl : Int)] rfl (by rfl) (by go_simp) ((TKC.out X1).mono ?_)
      rintro e X4 ⟨rfl, b4⟩
      have B4 := Lib.hid b4
      have K4 := Lib.hid (((K2'.out.trans (KX.bel (Below.refl _ _).drew K2'.out.size)).trans (KX.bel B3.out K2'.out.size)).trans (KX.bel b4 (Nat.le_trans K2'.out.size B3.out.size)))
      have D4 := Lib.hid (D3.out.below b4 D3.out.lt)
      have HS4 := Lib.hid (KS.out X4 K4.out)
      clear b4
      refine ⟨_, rfl, HS4.out, ?_⟩
      simp only [Act.put, List.setIfInBounds_toArray, List.set_cons_zero, List.set_cons_succ]
      refine RD.h_take 4 (.tuple #[.slice A5 wl c1, .slice A6 m' c2]) rfl (by kernel_rfl) (by kernel_rfl) (by kernel_rfl) (fun _ _ _ h => h) (by rfl) HS4.out (fun X hX => ?_) ?_
      · obtain ⟨h0, h1⟩ := hX
        go_simp
      simp only [Act.put, List.setIfInBounds_toArray, List.set_cons_zero, List.set_cons_succ]
      refine RD.h_take 5 (.slice A5 wl c1) rfl (by kernel_rfl) (by kernel_rfl) (by kernel_rfl) (fun _ _ _ h => h) (by rfl) HS4.out (fun X hX => ?_) ?_
      · obtain ⟨h0, h1⟩ := hX
        go_simp
      simp only [Act.put, List.setIfInBounds_toArray, List.set_cons_zero, List.set_cons_succ]
      refine RD.h_take 6 (.slice A6 m' c2) rfl (by kernel_rfl) (by kernel_rfl) (by kernel_rfl) (fun _ _ _ h => h) (by rfl) HS4.out (fun X hX => ?_) ?_
      · obtain ⟨h0, h1⟩ := hX
        go_simp
      simp only [Act.put, List.setIfInBounds_toArray, List.set_cons_zero, List.set_cons_succ]
      refine RD.h_take 7 (.slice A5 wl c1) rfl (by kernel_rfl) (by kernel_rfl) (by kernel_rfl) (fun _ _ _ h => h) (by rfl) HS4.out (fun X hX => ?_) ?_
      · obtain ⟨h0, h1⟩ := hX
        go_simp
      simp only [Act.put, List.setIfInBounds_toArray, List.set_cons_zero, List.set_cons_succ]
      have s4 := D4.out.cell 0
      have f4 := D4.out.frozen 0
      simp at s4
      refine RD.h_any [8] (by kernel_rfl) (by simp) (RD.one_of ?_)
      have K5 := Lib.hid (K4.out.trans (KX.set (n := W.heap.size) (E := fun b => b = d2 ∨ b = d3) (.inl rfl) X4 0 (.slice A6 m' c2)))
      have HS5 := Lib.hid (KS.out _ K5.out)
      refine RD.h_skip (X4.setCell ⟨d2, 0, none⟩ (.slice A6 m' c2)) rfl (by rfl) (by go_simp) ⟨HS5.out, ?_⟩
      simp only [Act.put, List.setIfInBounds_toArray, List.set_cons_zero, List.set_cons_succ]
      refine RD.h_done (by kernel_rfl) ?_
      have BX4 := Lib.hid (show Below w.heap.size w X4 from ((BW2.out.drew).trans (B3.out.mono BW2.out.size)).trans (B4.out.mono (Nat.le_trans BW2.out.size B3.out.size)))
      obtain ⟨X5, hX5⟩ : ∃ X5, X4.setCell ⟨d2, 0, none⟩ (.slice A6 m' c2) = X5 := ⟨_, rfl⟩
      rw [hX5] at K5 ⊢
      have BW5 := Lib.hid (show Below w.heap.size w X5 by rw [← hX5]; exact BX4.out.setCell (p := ⟨d2, 0, none⟩) HGW.out.1 _)
      have D5 := Lib.hid (show Bk X5 d2 24 #[.slice A6 m' c2] by rw [← hX5]; exact D4.out.put 0 _)
      have E4 := Lib.hid ((E2.out.drew.below B3.out E2.out.lt).below B4.out (Nat.lt_of_lt_of_le E2.out.lt B3.out.size))
      have E5 := Lib.hid (show Bk X5 d3 24 #[.slice A' 32 c'] by rw [← hX5]; exact E4.out.far (by show d3 ≠ d2; have := HD.out; omega) _)
      have Y5 := Lib.hid (show Rd X5 A' 32 c' ys by rw [← hX5]; exact rd_box ((Y2.out.drew.below B3.out).below B4.out) D4.out no_u8_slice 0 _)
      clear hX5 s4 f4 e0 e3 HS0 HS1 HS4 HS5
      have HP0 := Lib.hid (KP.out X5.drew (K5.out.trans (KX.bel (Below.refl _ _).drew K5.out.size)))
      have e5 : X5.drew.cell? ⟨d3, 0, none⟩ = some (.slice A' 32 c') := by have := E5.out.drew.cell 0; simpa using this
      gi_wp2_with (fail)
      refine RD.h_begin (fun X => X.cell? ⟨t, 0, none⟩ = some (.int .u32 (j : Int)) ∧ X.cell? ⟨t, 1, none⟩ = some (.int .u64 (tr : Int)) ∧ X.cell? ⟨t, 2, none⟩ = some (.int .u32 (q : Int)) ∧ X.cell? ⟨d1, 0, none⟩ = some (.slice A2 32 (cp - 32))) 15 (by kernel_rfl) ?_ (by kernel_rfl) rfl ?_
      · rintro ⟨_, _, h, _⟩
        cases h
      refine RD.h_take 0 (.agg #[.int .u32 (j : Int), .int .u64 (tr : Int), .int .u32 (q : Int)]) rfl (by kernel_rfl) (by kernel_rfl) (by kernel_rfl) (fun _ _ _ h => h) (by rfl) HP0.out (fun X hX => ?_) ?_
      · obtain ⟨h0, h1, h2, h3⟩ := hX
        go_simp
      simp only [Act.put, List.setIfInBounds_toArray, List.set_cons_zero, List.set_cons_succ]
      refine RD.h_take 1 (.slice A2 32 (cp - 32)) rfl (by kernel_rfl) (by kernel_rfl) (by kernel_rfl) (fun _ _ _ h => h) (by rfl) HP0.out (fun X hX => ?_) ?_
      · obtain ⟨h0, h1, h2, h3⟩ := hX
        go_simp
      simp only [Act.put, List.setIfInBounds_toArray, List.set_cons_zero, List.set_cons_succ]
      refine RD.h_take 2 (.slice A2 32 (cp - 32)) rfl (by kernel_rfl) (by kernel_rfl) (by kernel_rfl) (fun _ _ _ h => h) (by rfl) HP0.out (fun X hX => ?_) ?_
      · obtain ⟨h0, h1, h2, h3⟩ := hX
        go_simp
      simp only [Act.put, List.setIfInBounds_toArray, List.set_cons_zero, List.set_cons_succ]
      refine RD.h_take 3 (.pointer (some ⟨t, 0, none⟩)) rfl (by kernel_rfl) (by kernel_rfl) (by kernel_rfl) (fun _ _ _ h => h) (by rfl) HP0.out (fun X hX => ?_) ?_
      · obtain ⟨h0, h1, h2, h3⟩ := hX
        go_simp
      simp only [Act.put, List.setIfInBounds_toArray, List.set_cons_zero, List.set_cons_succ]
      refine RD.h_take 4 (.int .u32 (j : Int)) rfl (by kernel_rfl) (by kernel_rfl) (by kernel_rfl) (fun _ _ _ h => h) (by rfl) HP0.out (fun X hX => ?_) ?_
      · obtain ⟨h0, h1, h2, h3⟩ := hX
        go_simp
      simp only [Act.put, List.setIfInBounds_toArray, List.set_cons_zero, List.set_cons_succ]
      refine RD.h_take 5 (.pointer (some ⟨t, 1, none⟩)) rfl (by kernel_rfl) (by kernel_rfl) (by kernel_rfl) (fun _ _ _ h => h) (by rfl) HP0.out (fun X hX => ?_) ?_
      · obtain ⟨h0, h1, h2, h3⟩ := hX
        go_simp
      simp only [Act.put, List.setIfInBounds_toArray, List.set_cons_zero, List.set_cons_succ]
      refine RD.h_take 6 (.int .u64 (tr : Int)) rfl (by kernel_rfl) (by kernel_rfl) (by kernel_rfl) (fun _ _ _ h => h) (by rfl) HP0.out (fun X hX => ?_) ?_
      · obtain ⟨h0, h1, h2, h3⟩ := hX
        go_simp
      simp only [Act.put, List.setIfInBounds_toArray, List.set_cons_zero, List.set_cons_succ]
      refine RD.h_take 7 (.pointer (some ⟨t, 2, none⟩)) rfl (by kernel_rfl) (by kernel_rfl) (by kernel_rfl) (fun _ _ _ h => h) (by rfl) HP0.out (fun X hX => ?_) ?_
      · obtain ⟨h0, h1, h2, h3⟩ := hX
        go_simp
      simp only [Act.put, List.setIfInBounds_toArray, List.set_cons_zero, List.set_cons_succ]
      refine RD.h_take 8 (.int .u32 (q : Int)) rfl (by kernel_rfl) (by kernel_rfl) (by kernel_rfl) (fun _ _ _ h => h) (by rfl) HP0.out (fun X hX => ?_) ?_
      · obtain ⟨h0, h1, h2, h3⟩ := hX
        go_simp
      simp only [Act.put, List.setIfInBounds_toArray, List.set_cons_zero, List.set_cons_succ]
      refine RD.h_take 10 (.slice A 2144 c) rfl (by kernel_rfl) (by kernel_rfl) (by kernel_rfl) (fun _ _ _ h => h) (by rfl) HP0.out (fun X hX => ?_) ?_
      · obtain ⟨h0, h1, h2, h3⟩ := hX
        go_simp
      simp only [Act.put, List.setIfInBounds_toArray, List.set_cons_zero, List.set_cons_succ]
      refine RD.h_take 12 (.slice A5 wl c1) rfl (by kernel_rfl) (by kernel_rfl) (by kernel_rfl) (fun _ _ _ h => h) (by rfl) HP0.out (fun X hX => ?_) ?_
      · obtain ⟨h0, h1, h2, h3⟩ := hX
        go_simp
      simp only [Act.put, List.setIfInBounds_toArray, List.set_cons_zero, List.set_cons_succ]
      refine RD.h_any [9] (by kernel_rfl) (by simp) (RD.one_of ?_)
      refine RD.h_run (.slice A' 32 c') X5.drew rfl (by rfl) (by go_simp) ⟨HP0.out, ?_⟩
      simp only [Act.put, List.setIfInBounds_toArray, List.set_cons_zero, List.set_cons_succ]
      refine RD.h_any [11] (by kernel_rfl) (by simp) (RD.one_of ?_)
      have HG5 := Lib.hid (HGK.out.bel BW5.out.drew)
      refine RD.h_call 46 #[.slice A2 32 (cp - 32), .int .u32 (j : Int), .int .u64 (tr : Int), .int .u32 (q : Int), .slice A' 32 c', .slice A 2144 c] rfl (by rfl) (by go_simp) ((stands_may A2 (cp - 32) sd j tr q A' c' ys A c _ X5.drew HG5.out (S0.out.below BW5.out.drew) Y5.out.drew (RS.out.below BW5.out.drew) (by have := HL.out; have := HJL.out; omega) htr64 hq32).mono ?_)
      rintro e X6 ⟨A7, n7, c7, rfl, q7, b6⟩
      obtain rfl : n7 = 32 := (own_len q7).symm.trans (stand_len _ _ _ _ RS.out.len)
      have R7 := Lib.hid (Rd.own q7)
      have B6 := Lib.hid b6
      have K6 := Lib.hid ((K5.out.trans (KX.bel (Below.refl _ _).drew K5.out.size)).trans (KX.bel b6 K5.out.size))
      have BW6 := Lib.hid (BW5.out.drew.trans (b6.mono BW5.out.size))
      have E6 := Lib.hid (E5.out.drew.below b6 E5.out.lt)
      have D6 := Lib.hid (D5.out.drew.below b6 D5.out.lt)
      have HP6 := Lib.hid (KP.out X6 K6.out)
      clear q7 b6
      refine ⟨_, rfl, HP6.out, ?_⟩
      simp only [Act.put, List.setIfInBounds_toArray, List.set_cons_zero, List.set_cons_succ]
      refine RD.h_any [13] (by kernel_rfl) (by simp) (RD.one_of ?_)
      have HCL := Lib.hid (show Calls Tryz.prog 45 #[.agg #[.int .u32 (j : Int), .int .u64 (tr : Int), .int .u32 (q : Int)], .slice A2 32 (cp - 32), .slice A7 32 c7, .slice A5 wl c1] X6 (Gives32 X6 (climbF sd j tr 0 k q (standL sd (adQ j tr q) ys (xs.take 2144)) (xs.drop 2144))) from by
        have h9 := climb_any j tr q k (by have := HL.out; have := HJL.out; omega) htr64 hq32 (by have := HL.out; omega) A2 (cp - 32) sd A7 c7 _ A5 c1 ((xs.drop 2144).take (32 * k)) X6 (HGK.out.bel BW6.out) (S0.out.below BW6.out) R7.out (by rw [← HWL.out]; exact RY.out.below BW6.out)
        rw [climb_take, ← HWL.out] at h9
        exact h9)
      refine RD.h_call 45 #[.agg #[.int .u32 (j : Int), .int .u64 (tr : Int), .int .u32 (q : Int)], .slice A2 32 (cp - 32), .slice A7 32 c7, .slice A5 wl c1] rfl (by rfl) (by go_simp) (HCL.out.mono ?_)
      rintro e X7 ⟨A8, c8', rfl, r8, b7⟩
      have R8' := Lib.hid r8
      have K7 := Lib.hid (K6.out.trans (KX.bel b7 K6.out.size))
      have BW7 := Lib.hid (BW6.out.trans (b7.mono BW6.out.size))
      have E7 := Lib.hid (E6.out.below b7 E6.out.lt)
      have D7 := Lib.hid (D6.out.below b7 D6.out.lt)
      have HP7 := Lib.hid (KP.out X7 K7.out)
      have s7 := E7.out.cell 0
      have f7 := E7.out.frozen 0
      simp at s7
      clear r8 b7
      refine ⟨_, rfl, HP7.out, ?_⟩
      simp only [Act.put, List.setIfInBounds_toArray, List.set_cons_zero, List.set_cons_succ]
      refine RD.h_any [14] (by kernel_rfl) (by simp) (RD.one_of ?_)
      have K8 := Lib.hid (K7.out.trans (KX.set (n := W.heap.size) (E := fun b => b = d2 ∨ b = d3) (.inr rfl) X7 0 (.slice A8 32 c8')))
      have HP8 := Lib.hid (KP.out _ K8.out)
      refine RD.h_skip (X7.setCell ⟨d3, 0, none⟩ (.slice A8 32 c8')) rfl (by rfl) (by go_simp) ⟨HP8.out, ?_⟩
      simp only [Act.put, List.setIfInBounds_toArray, List.set_cons_zero, List.set_cons_succ]
      have BW8 := Lib.hid (BW7.out.setCell (p := ⟨d3, 0, none⟩) HGW.out.2.1 (.slice A8 32 c8'))
      have E8 := Lib.hid (E7.out.put 0 (.slice A8 32 c8'))
      have D8 := Lib.hid (D7.out.far (p := ⟨d3, 0, none⟩) (by show d2 ≠ d3; have := HD.out; omega) (.slice A8 32 c8'))
      have R9 := Lib.hid (rd_box R8'.out E7.out no_u8_slice 0 (.slice A8 32 c8'))
      obtain ⟨X8, hX8⟩ : ∃ X8, X7.setCell ⟨d3, 0, none⟩ (.slice A8 32 c8') = X8 := ⟨_, rfl⟩
      rw [hX8] at K8 BW8 E8 D8 R9 ⊢
      have BN8 := Lib.hid (K8.out.bk HI.out.box HI.out.box.lt (by have := HD.out; omega))
      refine RD.h_done (by kernel_rfl) ⟨rfl, ⟨K8.out.size, fun b o hb ho _ => ?_⟩, fun b o hb ho _ => ?_, BN8.out, fun z' _ => ?_⟩
      · exact (K8.out.same b (Array.getElem?_eq_some_iff.1 ho).1 (by have := HSL.out; have := HD.out; omega)).trans ho
      · exact (K8.out.same b (Array.getElem?_eq_some_iff.1 ho).1 (by have := HSL.out; have := HD.out; omega)).trans ho
      · refine ⟨(HI.out.ke.trans (K8.out.mono HI.out.ke.size fun b _ hb => by rcases hb with hb | hb <;> simp [hb])).trans (KX.set (.inr (.inr rfl)) _ _ _), BW8.out.setCell (p := ⟨d3 + 2, 0, none⟩) HGW.out.2.2 _, BN8.out.put 0 _, A6, c2, m', xs.drop (2144 + wl), A8, c8', _, D8.out.far (by show d2 ≠ d3 + 2; have := HD.out; omega) _, RZ.out, HM'.out, E8.out.far (by show d3 ≠ d3 + 2; omega) _, rd_box R9.out BN8.out no_u8_u64 0 _, ?_⟩
        rw [HWL.out]
        exact HF.out
  case done =>
    intro D z W hD hI hK
    obtain ⟨A, c, m, xs, A', c', ys, h1, h2, h3, h4, h5, h6⟩ := hI.got
    rw [Nat.sub_self, fitF] at h6
    rw [h6] at h5
    have e0 : W.cell? ⟨d3, 0, none⟩ = some (.slice A' 32 c') := h4.cell 0
    have SMC := Lib.hid (same16 A' Ap 32 c' 32 cp R root W h5 (R0.out.below hI.bel))
    have BW := Lib.hid hI.bel
    have HKD := Lib.hid hK
    clear h1 h2 h3 h4 h5 h6 hI hK
    go_wp2_with (go_at_call 47; ((with_reducible refine SMC.out.mono ?_); rintro e w14 ⟨rfl, rfl⟩))
    refine ⟨by simp, .inl ⟨_, _, rfl, run_takeDeferred HKD.out, ?_⟩⟩
    exact ⟨_, results_tmp rfl _ _ _, by rw [HFIN.out]; rfl, BW.out.trans (belowK_b (w := wL) BL.out.size W D _ _ hD HKD.out rfl rfl)⟩
end Go.Proofs.YtkpfppiedadmbaaGreatDoor.S16
