/-
  Texts put together: Yf2. No statement is proved here.
-/
import Derived.Test.YtkpfppiedadmbaaGreatDoorWn37

/-
  The document's own Fits of layer 16, where the shape and the lengths allow it. No statement is proved here. (Written by geny2.py.)
-/
namespace Go.Proofs.YtkpfppiedadmbaaGreatDoor.S16
set_option linter.unusedSimpArgs false
set_option linter.unusedVariables false
set_option maxRecDepth 4096
open Go.RowKit S15

/-- A slice of a row, from a to a + m. -/
theorem rd_mid {w : World} {A : Option Addr} {n c : Nat} {xs : List UInt8} (h : Rd w A n c xs) {a m : Nat} (hm : a + m ≤ n) : Rd w (if c = a then A else A.map (·.add a)) m (c - a) ((xs.drop a).take m) :=
  (h.cut (k := a) (by omega)).take (by omega)
set_option maxHeartbeats 8000000 in
theorem rfits_may (l k : Nat) (Ap : Option Addr) (cp : Nat) (pub : List UInt8) (At : Option Addr) (nt ct : Nat) (text : List UInt8) (Ag : Option Addr) (cg : Nat) (sig : List UInt8) (w : World) (hp : Rd w Ap 64 cp pub) (ht : Rd w At nt ct text) (hg : Rd w Ag (sizeN l k) cg sig) (hm : mayX l k = true) (h6 : nt ≤ 65536) (hn : getL (sig.take 8) < totN l k) :
    Calls Tryz.prog 15 #[.agg (shA l k), .slice Ap 64 cp, .slice At nt ct, .slice Ag (sizeN l k) cg] w (GivesB (fitN l k pub text sig) w) := by
  obtain ⟨l', k', e1, e2, h1, h2, h3, h4, h5⟩ := mayX_nat hm
  obtain rfl : l = l' := by omega
  obtain rfl : k = k' := by omega
  clear e1 e2
  obtain ⟨nn, hnn⟩ : ∃ nn, nn = getL (sig.take 8) := ⟨_, rfl⟩
  have NL : nn < 18446744073709551616 := by
    have := getL_lt (sig.take 8)
    rw [List.length_take, Nat.min_eq_left (by rw [hg.len]; unfold sizeN; omega)] at this
    rw [hnn]
    exact this
  rw [← hnn] at hn
  obtain ⟨Z, hZ⟩ : ∃ Z, Z = 2144 + 32 * k := ⟨_, rfl⟩
  have ZB : 2144 ≤ Z ∧ Z ≤ 2784 := by omega
  obtain ⟨S, hS⟩ : ∃ S, S = sizeN l k := ⟨_, rfl⟩
  have SZ : S = 40 + l * Z := by rw [hS, hZ]; rfl
  rw [← hS] at hg ⊢
  have SB : 40 ≤ S ∧ S ≤ 100000 := by
    have : l * Z ≤ 12 * 2784 := Nat.mul_le_mul (by omega) (by omega)
    omega
  have HG := Lib.hid hg
  have HP := Lib.hid hp
  have HT := Lib.hid ht
  have cgS := hg.cap
  have cpS := hp.cap
  have KG1 := Lib.hid (fun (a m : Nat) (hm : a + m ≤ S) (x y : Int) (hx : x = a) (hy : y = (a : Int) + m) (W : World) => run_cutSlLH (A := Ag) (n := S) (c := cg) (l' := a) (m := m) (l := x) (h := y) hx hy (by omega) W)
  have KG2 := Lib.hid (fun (a m : Nat) (hm : a + m ≤ S) (x y : Int) (hx : x = a) (hy : y = (a : Int) + m) (W : World) => run_cutSlLHAt (A := Ag) (n := S) (c := cg) (l' := a) (m := m) (l := x) (h := y) hx hy (by omega) W)
  obtain ⟨pr, hpr⟩ : ∃ pr, pub.take 32 = pr := ⟨_, rfl⟩
  obtain ⟨sd, hsd⟩ : ∃ sd, pub.drop 32 = sd := ⟨_, rfl⟩
  obtain ⟨Ah, hAh⟩ : ∃ Ah, Ah = if cp = 32 then Ap else Ap.map (·.add 32) := ⟨_, rfl⟩
  have RP := Lib.hid (show ∀ X, Below w.heap.size w X → Rd X Ap 32 cp pr from fun X hX => by rw [← hpr]; exact (HP.out.below hX).take (by omega))
  have RS := Lib.hid (show ∀ X, Below w.heap.size w X → Rd X Ah 32 (cp - 32) sd from fun X hX => by rw [← hsd, hAh]; exact (HP.out.below hX).cut (k := 32) (by omega))
  have RG := Lib.hid (fun (a m : Nat) (hm : a + m ≤ S) (X : World) (hX : Below w.heap.size w X) => rd_mid (HG.out.below hX) hm)
  have P1 : ∀ W, (Instr.slice 24 (.slice Ap 64 cp) none (some (.int .i64 32)) none).run Tryz.prog W = .ok (.slice Ap 32 cp) W := fun W => run_cutSlH (m := 32) rfl (by omega) W
  have P2 : ∀ W, (Instr.sliceAt 24 (.slice Ap 64 cp) none (some (.int .i64 32)) none).run Tryz.prog W = .ok (.slice Ap 32 cp) W := fun W => run_cutSlHAt (m := 32) rfl (by omega) W
  have P3 : ∀ W, (Instr.slice 24 (.slice Ap 64 cp) (some (.int .i64 32)) none none).run Tryz.prog W = .ok (.slice Ah 32 (cp - 32)) W := fun W => by rw [hAh]; exact run_cutSl (k := 32) rfl (by omega) W
  have P4 : ∀ W, (Instr.sliceAt 24 (.slice Ap 64 cp) (some (.int .i64 32)) none none).run Tryz.prog W = .ok (.slice Ah 32 (cp - 32)) W := fun W => by rw [hAh]; exact run_cutSlAt (k := 32) rfl (by omega) W
  obtain ⟨A8, hA8⟩ : ∃ A8, A8 = if cg = 8 then Ag else Ag.map (·.add 8) := ⟨_, rfl⟩
  obtain ⟨sl, hsl⟩ : ∃ sl, (sig.drop 8).take 32 = sl := ⟨_, rfl⟩
  have R8 := Lib.hid (show ∀ X, Below w.heap.size w X → Rd X A8 32 (cg - 8) sl from fun X hX => by rw [← hsl, hA8]; exact RG.out 8 32 (by omega) X hX)
  have G1 : ∀ W, (Instr.slice 24 (.slice Ag S cg) (some (.int .i64 8)) (some (.int .i64 40)) none).run Tryz.prog W = .ok (.slice A8 32 (cg - 8)) W := fun W => by rw [hA8]; exact KG1.out 8 32 (by omega) 8 40 rfl rfl W
  have G2 : ∀ W, (Instr.sliceAt 24 (.slice Ag S cg) (some (.int .i64 8)) (some (.int .i64 40)) none).run Tryz.prog W = .ok (.slice A8 32 (cg - 8)) W := fun W => by rw [hA8]; exact KG2.out 8 32 (by omega) 8 40 rfl rfl W
  have G3 : ∀ W, (Instr.slice 24 (.slice Ag S cg) none (some (.int .i64 8)) none).run Tryz.prog W = .ok (.slice Ag 8 cg) W := fun W => run_cutSlH (m := 8) rfl (by omega) W
  have G4 : ∀ W, (Instr.sliceAt 24 (.slice Ag S cg) none (some (.int .i64 8)) none).run Tryz.prog W = .ok (.slice Ag 8 cg) W := fun W => run_cutSlHAt (m := 8) rfl (by omega) W
  have LS := Lib.hid (show sl.length = 32 from (R8.out w (Below.refl _ _)).len)
  have LP := Lib.hid (show pr.length = 32 from (RP.out w (Below.refl _ _)).len)
  have LD := Lib.hid (show sd.length = 32 from (RS.out w (Below.refl _ _)).len)
  have HC := Lib.hid (show [sl, pr, longL nn].flatten.length = 96 by have a := LS.out; have b := LP.out; have c := long_len nn; simp only [List.flatten_cons, List.flatten_nil, List.length_append, List.length_nil, a, b, c])
  have CM := Lib.hid (show ∀ X, Calls Tryz.prog 19 #[.agg #[.int .i64 (l : Int), .int .i64 (k : Int)]] X (GivesB true X) from fun X => by rw [← hm]; exact rmay16_any l k X)
  have CS := Lib.hid (show ∀ X, Calls Tryz.prog 48 #[.agg #[.int .i64 (l : Int), .int .i64 (k : Int)]] X (GivesV (.int .i64 (S : Int)) X) from fun X => by rw [hS, ← sizeX_may hm]; exact rsize_any l k X)
  obtain ⟨T, hT⟩ : ∃ T, T = totX l k := ⟨_, rfl⟩
  have CT := Lib.hid (show ∀ X, Calls Tryz.prog 32 #[.agg #[.int .i64 (l : Int), .int .i64 (k : Int)]] X (GivesV (.int .u64 (T : Int)) X) from fun X => by rw [hT]; exact rtot_any l k X)
  have tn : ¬ (T : Int) ≤ (nn : Int) := by
    have : T = totN l k := by rw [hT, totX, if_pos hm]; rfl
    omega
  have CG := Lib.hid (show ∀ X, Below w.heap.size w X → Calls Tryz.prog 49 #[.slice Ag 8 cg] X fun e w' => e = .returned (.tuple #[.int .u64 (nn : Int), .bool true]) ∧ X = w' from fun X hX => by rw [hnn]; exact rget_any16 Ag 8 cg (sig.take 8) X (by omega) ((HG.out.below hX).take (by omega)))
  have CL := Lib.hid (show ∀ X, Calls Tryz.prog 34 #[.int .u64 (nn : Int)] X (New X.heap.size X (longL nn)) from fun X => rlong_any nn NL X)
  have CN := Lib.hid (show ∀ X A c, Below w.heap.size w X → Rd X A 96 c [sl, pr, longL nn].flatten → Calls Tryz.prog 36 #[.int .u8 2, .slice A 96 c, .slice At nt ct] X (New X.heap.size X (textL sl pr nn text)) from fun X A c hX h => rnum_any 2 A 96 c _ At nt ct text X h (HT.out.below hX) (by omega) (by omega))
  have TX32 := Lib.hid (show (textL sl pr nn text).length = 32 from num_len _ _ _)
  obtain ⟨P, hP⟩ : ∃ P, P = 2 ^ k := ⟨_, rfl⟩
  have P20 : P ≤ 1048576 := by rw [hP]; exact Nat.le_trans (Nat.pow_le_pow_right (by omega) (show k ≤ 20 by omega)) (by decide)
  have P0 : 0 < P := by rw [hP]; exact Nat.two_pow_pos k
  have PW := Lib.hid (show ∀ X, Calls Tryz.prog 39 #[.int .i64 (k : Int)] X (fun e w' => e = .returned (.int .u64 (P : Int)) ∧ X = w') from fun X => by rw [hP]; exact rpow_any k (by omega) X)
  obtain ⟨R, hR⟩ : ∃ R, fitF sd k 0 l nn (textL sl pr nn text) (sig.drop 40) = R := ⟨_, rfl⟩
  have HFN := Lib.hid (show fitN l k pub text sig = decide (R = pr) by
    unfold fitN
    rw [← hnn, hpr, hsd, hsl, hR]
    simp [hn])
  rw [HFN.out]
  have LL := Lib.hid (long_len nn)
  have HR := Lib.hid hR
  have HZ := Lib.hid hZ
  have HPP := Lib.hid hP
  have HB := Lib.hid (show 0 < l ∧ l < 13 ∧ 0 < k ∧ k < 21 from ⟨h1, h2, h3, h4⟩)
  have HSZ := Lib.hid SZ
  generalize textL sl pr nn text = tx at *
  generalize longL nn = ll at *
  clear hn hnn hpr hsd hsl hA8 hAh hT hm h5 hS hR HFN hP hZ SZ hp ht hg h1 h2 h3 h4
  obtain ⟨g, hgg⟩ : ∃ g, w.heap.size = g := ⟨_, rfl⟩
  obtain ⟨w0, hw0⟩ : ∃ w0, w.alloc (.cells (shA l k) 23) = w0 := ⟨_, rfl⟩
  have M0 := Lib.hid (show Bk w0 g 23 (shA l k) by rw [← hw0, ← hgg]; exact Bk.new _ _ _)
  have B0 := Lib.hid (show Below w.heap.size w w0 by rw [← hw0]; exact (Below.refl _ _).alloc (Nat.le_refl _) _)
  have k0 : w0.cell? ⟨g, 0, none⟩ = some (.int .i64 (l : Int)) := M0.out.cell 0
  have k1 : w0.cell? ⟨g, 1, none⟩ = some (.int .i64 (k : Int)) := M0.out.cell 1
  go_enter Tryz.func15, Tryz.ntmps15
  go_upto_region 1 with (fail)
  clear hw0 hgg
  go_upto_region 6 with (first
    | (go_at_call 19; ((with_reducible refine (CM.out _).mono ?_); rintro e w1 ⟨rfl, b1⟩; have B1 := Lib.hid (B0.out.trans (b1.mono B0.out.size)); have M1 := Lib.hid (M0.out.below b1 M0.out.lt); have j1 := M1.out.cell 0; have i1 := M1.out.cell 1; simp only [List.getElem?_toArray, List.getElem?_cons_zero, List.getElem?_cons_succ] at j1 i1; clear b1))
    | (go_at_call 48; ((with_reducible refine (CS.out _).mono ?_); rintro e w2 ⟨rfl, b2⟩; have B2 := Lib.hid (B1.out.trans (b2.mono B1.out.size)); have M2 := Lib.hid (M1.out.below b2 M1.out.lt); have j2 := M2.out.cell 0; have i2 := M2.out.cell 1; simp only [List.getElem?_toArray, List.getElem?_cons_zero, List.getElem?_cons_succ] at j2 i2; clear b2))
    | (go_at_call 49; ((with_reducible refine (CG.out _ B2.out).mono ?_); rintro e w9 ⟨rfl, rfl⟩))
    | (go_at_call 32; ((with_reducible refine (CT.out _).mono ?_); rintro e w3 ⟨rfl, b3⟩; have B3 := Lib.hid (B2.out.trans (b3.mono B2.out.size)); have M3 := Lib.hid (M2.out.below b3 M2.out.lt); have j3 := M3.out.cell 0; have i3 := M3.out.cell 1; simp only [List.getElem?_toArray, List.getElem?_cons_zero, List.getElem?_cons_succ] at j3 i3; clear b3)))
  have BD := Lib.hid (Below.refl w3.heap.size w3).drew
  have BW := Lib.hid (show ∀ X, Below w3.heap.size w3 X → Below w.heap.size w X from fun X hX => B3.out.trans (hX.mono B3.out.size))
  (go_region_held3 (fun _ => True) (trivial) (first
    | (go_at_call 34; ((with_reducible refine (CL.out _).mono ?_); rintro e w4 ⟨A4, n4, c4, rfl, q4, b4⟩; obtain rfl : n4 = 32 := (own_len q4).symm.trans LL.out; have R4 := Lib.hid (Rd.own q4); have B4 := Lib.hid (BD.out.trans (b4.mono BD.out.size)); clear q4 b4))
    | (go_at_call 37; ((refine (rcat_any _ 3 3 [sl, pr, ll] _ (RdBs.built3At w4 _ rfl _ (R8.out _ (BW.out _ B4.out)) (RP.out _ (BW.out _ B4.out)) R4.out) (by rw [HC.out]; omega)).mono ?_); rintro e w5 ⟨A5, n5, c5, rfl, q5, b5⟩; obtain rfl : n5 = 96 := (own_len q5).symm.trans HC.out; have R5 := Lib.hid (Rd.own q5); have B4' := B4.out.alloc B4.out.size (.cells #[.slice A8 32 (cg - 8), .slice Ap 32 cp, .slice A4 32 c4] 24); have B5 := Lib.hid (B4'.trans (b5.mono B4'.size)); clear q5 b5 B4'))
    | (go_at_call 36; ((with_reducible refine (CN.out _ A5 c5 (BW.out _ B5.out) R5.out).mono ?_); rintro e w6 ⟨A6, n6, c6, rfl, q6, b6⟩; obtain rfl : n6 = 32 := (own_len q6).symm.trans TX32.out; have R6 := Lib.hid (Rd.own q6); have B6 := Lib.hid (B5.out.trans (b6.mono B5.out.size)); clear q6 b6))
    | fail))
  have M6 := Lib.hid (M3.out.below B6.out M3.out.lt)
  have B6' := Lib.hid (BW.out _ B6.out)
  have j0 : w6.cell? ⟨g, 0, none⟩ = some (.int .i64 (l : Int)) := M6.out.cell 0
  have j1 : w6.cell? ⟨g, 1, none⟩ = some (.int .i64 (k : Int)) := M6.out.cell 1
  clear CM CS CT CG CL CN B1 B2 B3 BD B4 B5 R4 R5 R8 BW M0 B0 M1 M2 M3 k0 k1 j2 i2 j3 i3 i1 G1 G2 G3 G4 tn LS HC TX32 LL
  go_wp2_with (go_at_call 39; ((with_reducible refine (PW.out _).mono ?_); rintro e w7 ⟨rfl, rfl⟩))
  go_loopw [9, 11, 12, 14, 15, 16, 17] (fun n of at_ ly q gv av wr => ∃ (j : Nat) (A : Option Addr) (c : Nat) (y : List UInt8), j ≤ l ∧ n = .int .u64 ((nT k nn j : Nat) : Int) ∧ of = .slice A 32 c ∧ at_ = .int .i64 ((40 + j * Z : Nat) : Int) ∧ ly = .int .i64 (j : Int) ∧ Rd wr A 32 c y ∧ fitF sd k j (l - j) (nT k nn j) y (sig.drop (40 + j * Z)) = R ∧ Below w6.heap.size w6 wr)
    (fun _ _ _ ly _ _ _ _ => l - (intOf ly).toNat)
  case atStart => exact ⟨0, A6, c6, tx, Nat.zero_le _, by rw [nT_zero], rfl, by simp, rfl, R6.out, by rw [nT_zero, Nat.sub_zero]; simpa using HR.out, Below.refl _ _⟩
  case round =>
    obtain ⟨j, A, c, y, hj, rfl, rfl, rfl, rfl, r1, hfit, hbel⟩ := hrel
    clear R6 HR
    have RY := Lib.hid r1
    have HF := Lib.hid hfit
    have BL := Lib.hid hbel
    have MJ := Lib.hid (M6.out.below hbel M6.out.lt)
    have BW := Lib.hid (show ∀ X, Below wr.heap.size wr X → Below w.heap.size w X from fun X hX => (B6'.out.trans (hbel.mono B6'.out.size)).trans (hX.mono (Nat.le_trans B6'.out.size hbel.size)))
    obtain ⟨N, hN⟩ : ∃ N, N = nT k nn j := ⟨_, rfl⟩
    obtain ⟨a0, ha0⟩ : ∃ a0, a0 = 40 + j * Z := ⟨_, rfl⟩
    have N64 : N < 18446744073709551616 := by rw [hN, nT]; exact Nat.lt_of_le_of_lt (Nat.div_le_self _ _) NL
    rw [← hN] at HF ⊢
    rw [← ha0] at HF ⊢
    have m0 : wr.cell? ⟨g, 0, none⟩ = some (.int .i64 (l : Int)) := MJ.out.cell 0
    have m1 : wr.cell? ⟨g, 1, none⟩ = some (.int .i64 (k : Int)) := MJ.out.cell 1
    have HN := Lib.hid hN
    have HA0 := Lib.hid ha0
    clear r1 hfit hbel j0 j1 hN ha0
    have hl13 := HB.out.2.1
    by_cases hlt : j < l
    · have HPP0 := P0
      have pp : ¬ (P : Int) = 0 := by omega
      have t0 : (j : Int) < (l : Int) := by omega
      obtain ⟨q0, hq0⟩ : ∃ q0, q0 = N % P := ⟨_, rfl⟩
      obtain ⟨N', hN'⟩ : ∃ N', N' = N / P := ⟨_, rfl⟩
      obtain ⟨a1, ha1⟩ : ∃ a1, a1 = a0 + 2144 := ⟨_, rfl⟩
      have q0P : q0 < P := by rw [hq0]; exact Nat.mod_lt _ P0
      have N'64 : N' < 18446744073709551616 := by rw [hN']; exact Nat.lt_of_le_of_lt (Nat.div_le_self _ _) N64
      have aZ : a0 + Z ≤ S := by
        have e1 := HSZ.out
        have e2 := HA0.out
        have e3 : (j + 1) * Z ≤ l * Z := Nat.mul_le_mul_right Z (by omega)
        rw [Nat.succ_mul] at e3
        omega
      have aS : a0 + 2144 ≤ S := by omega
      have ay : (a1 : Int) = (a0 : Int) + 2144 := by omega
      have jB : j < 4294967296 := by omega
      have qB : q0 < 4294967296 := by omega
      have lj : l - j = (l - (j + 1)) + 1 := by omega
      have A1B := Lib.hid (show a1 + 32 * k = a0 + Z ∧ a0 + Z ≤ S by have := HZ.out; omega)
      have f1 : (N : Int) % (P : Int) = (q0 : Int) := by rw [hq0]; simp
      have f2 : (q0 : Int) % 4294967296 = (q0 : Int) := by omega
      have f3 : IntKind.u64.wrap ((N : Int) / (P : Int)) = (N' : Int) := by
        have : (N : Int) / (P : Int) = (N' : Int) := by rw [hN']; simp
        rw [this, IntKind.wrap_u64]
        omega
      have f4 : IntKind.i64.wrap ((a0 : Int) + 2144) = (a1 : Int) := by rw [IntKind.wrap_i64]; omega
      have f5 : wrap64 ((a0 : Int) + 2144) = (a1 : Int) := by unfold wrap64; omega
      have f6 : IntKind.u32.wrap (j : Int) = (j : Int) := by rw [IntKind.wrap_u32]; omega
      have f7 : (j : Int) % 4294967296 = (j : Int) := by omega
      obtain ⟨Aj, hAj⟩ : ∃ Aj, Aj = if cg = a0 then Ag else Ag.map (·.add a0) := ⟨_, rfl⟩
      have S1 : ∀ W, (Instr.slice 24 (.slice Ag S cg) (some (.int .i64 (a0 : Int))) (some (.int .i64 (a1 : Int))) none).run Tryz.prog W = .ok (.slice Aj 2144 (cg - a0)) W := fun W => by rw [hAj]; exact KG1.out a0 2144 aS _ _ rfl ay W
      have S2 : ∀ W, (Instr.sliceAt 24 (.slice Ag S cg) (some (.int .i64 (a0 : Int))) (some (.int .i64 (a1 : Int))) none).run Tryz.prog W = .ok (.slice Aj 2144 (cg - a0)) W := fun W => by rw [hAj]; exact KG2.out a0 2144 aS _ _ rfl ay W
      obtain ⟨Y, hY⟩ : ∃ Y, Y = standL sd (adQ j N' q0) y ((sig.drop a0).take 2144) := ⟨_, rfl⟩
      have ST := Lib.hid (show ∀ X, Below wr.heap.size wr X → Calls Tryz.prog 50 #[.slice Ah 32 (cp - 32), .int .u32 (j : Int), .int .u64 (N' : Int), .int .u32 (q0 : Int), .slice A 32 c, .slice Aj 2144 (cg - a0)] X (Gives32 X Y) from fun X hX => by rw [hY, hAj]; exact rstands_may Ah _ sd j N' q0 A c y _ _ _ X (RS.out _ (BW.out _ hX)) (RY.out.below hX) (RG.out a0 2144 aS X (BW.out _ hX)) jB N'64 qB)
      have HC0 := Lib.hid (show fitF sd k (j + 1) (l - (j + 1)) N' (climbF sd j N' 0 k q0 Y (sig.drop a1)) (sig.drop (a0 + Z)) = R by
        have e := HF.out
        rw [lj, fitF, ← HPP.out, ← hq0, ← hN', ← hY, List.drop_drop, List.drop_drop, ← HZ.out, ← ha1] at e
        exact e)
      have HNX := Lib.hid (show nT k nn (j + 1) = N' by rw [nT_succ, ← HPP.out, ← HN.out, hN'])
      obtain ⟨C, hCC⟩ : ∃ C, climbF sd j N' 0 k q0 Y (sig.drop a1) = C := ⟨_, rfl⟩
      have HCC := Lib.hid hCC
      rw [hCC] at HC0
      have QB := Lib.hid qB
      clear aS ay jB qB lj hq0 hN' hAj hY hCC ha1 aZ N64 HF
      go_upto_region 14 with (fail)
      (go_region_held3 (fun _ => True) (trivial) (first
        | (go_at_call 50; ((with_reducible refine (ST.out _ (Below.refl _ _).drew).mono ?_); rintro e w8 ⟨A8, c8, rfl, r8, b8⟩; have R8 := Lib.hid r8; have B8 := Lib.hid ((Below.refl _ _).drew.trans (b8.mono (Below.refl wr.heap.size wr).drew.size)); clear r8 b8))
        | fail))
      have M8 := Lib.hid (MJ.out.below B8.out MJ.out.lt)
      have n0 : w8.cell? ⟨g, 0, none⟩ = some (.int .i64 (l : Int)) := M8.out.cell 0
      have n1 : w8.cell? ⟨g, 1, none⟩ = some (.int .i64 (k : Int)) := M8.out.cell 1
      clear m0 m1 f1 f3 S1 S2
      go_wp2_with (fail)
      clear f2 f4 f5 f6 f7 pp t0
      go_loopw [11, 12, 15, 16, 17] (fun of at_ q gv av wi => ∃ (gg : Nat) (A : Option Addr) (c : Nat) (z : List UInt8), gg ≤ k ∧ of = .slice A 32 c ∧ at_ = .int .i64 ((a1 + 32 * gg : Nat) : Int) ∧ q = .int .u32 ((q0 / 2 ^ gg : Nat) : Int) ∧ gv = .int .i64 (gg : Int) ∧ Rd wi A 32 c z ∧ climbF sd j N' gg (k - gg) (q0 / 2 ^ gg) z (sig.drop (a1 + 32 * gg)) = C ∧ Below w8.heap.size w8 wi)
        (fun _ _ _ gv _ _ => k - (intOf gv).toNat)
      case atStart => exact ⟨0, A8, c8, Y, Nat.zero_le _, rfl, by simp, by simp, rfl, R8.out, by simpa using HCC.out, Below.refl _ _⟩
      case round =>
        obtain ⟨gg, A9, c9, z, hgk, rfl, rfl, rfl, rfl, r9, hcl, hbl⟩ := hrel
        clear R8 HCC
        have RZ := Lib.hid r9
        have HCL := Lib.hid hcl
        have BI := Lib.hid hbl
        have MI := Lib.hid (M8.out.below hbl M8.out.lt)
        have BX := Lib.hid (show ∀ X, Below wr.heap.size wr X → Below w.heap.size w X from fun X hX => BW.out X ((B8.out.trans (hbl.mono B8.out.size)).trans (hX.mono (Nat.le_trans B8.out.size hbl.size))))
        have hq2 : q0 / 2 ^ gg ≤ q0 := Nat.div_le_self _ _
        obtain ⟨i, hi⟩ : ∃ i, i = q0 / 2 ^ gg := ⟨_, rfl⟩
        have HQ := Lib.hid (show q0 / 2 ^ (gg + 1) = i / 2 by rw [Nat.pow_succ, ← Nat.div_div_eq_div_mul, hi])
        obtain ⟨b0, hb0⟩ : ∃ b0, b0 = a1 + 32 * gg := ⟨_, rfl⟩
        rw [← hi] at hq2 HCL ⊢
        rw [← hb0] at HCL ⊢
        have i32 : i < 4294967296 := Nat.lt_of_le_of_lt hq2 QB.out
        have HB0 := Lib.hid hb0
        clear r9 hcl hbl hi hq2 n0 n1 hb0
        have n0 : wr.cell? ⟨g, 0, none⟩ = some (.int .i64 (l : Int)) := MI.out.cell 0
        have n1 : wr.cell? ⟨g, 1, none⟩ = some (.int .i64 (k : Int)) := MI.out.cell 1
        have k21 := HB.out.2.2.2
        by_cases hlk : gg < k
        · have tk : (gg : Int) < (k : Int) := by omega
          have bS : b0 + 32 ≤ S := by have := A1B.out; have := HB0.out; omega
          have by_ : ∃ b1, b1 = b0 + 32 := ⟨_, rfl⟩
          obtain ⟨b1, hb1⟩ := by_
          have yb : (b1 : Int) = (b0 : Int) + 32 := by omega
          have HS := Lib.hid (show climbF sd j N' (gg + 1) (k - (gg + 1)) (i / 2) (joinT sd j N' gg i z ((sig.drop b0).take 32)) (sig.drop b1) = C by
            have e := HCL.out
            rw [show k - gg = (k - (gg + 1)) + 1 by omega, climbF, List.drop_drop, ← hb1] at e
            exact e)
          obtain ⟨Ab, hAb⟩ : ∃ Ab, Ab = if cg = b0 then Ag else Ag.map (·.add b0) := ⟨_, rfl⟩
          have T1 : ∀ W, (Instr.slice 24 (.slice Ag S cg) (some (.int .i64 (b0 : Int))) (some (.int .i64 (b1 : Int))) none).run Tryz.prog W = .ok (.slice Ab 32 (cg - b0)) W := fun W => by rw [hAb]; exact KG1.out b0 32 bS _ _ rfl yb W
          have T2 : ∀ W, (Instr.sliceAt 24 (.slice Ag S cg) (some (.int .i64 (b0 : Int))) (some (.int .i64 (b1 : Int))) none).run Tryz.prog W = .ok (.slice Ab 32 (cg - b0)) W := fun W => by rw [hAb]; exact KG2.out b0 32 bS _ _ rfl yb W
          have RX := Lib.hid (show ∀ X, Below wr.heap.size wr X → Rd X Ab 32 (cg - b0) ((sig.drop b0).take 32) from fun X hX => by rw [hAb]; exact RG.out b0 32 bS X (BX.out _ hX))
          obtain ⟨i2, hi22⟩ : ∃ i2, i2 = i / 2 := ⟨_, rfl⟩
          have f1 : (i : Int) / 2 = (i2 : Int) := by omega
          have f2 : IntKind.i64.wrap ((b0 : Int) + 32) = (b1 : Int) := by rw [IntKind.wrap_i64]; have := SB.2; omega
          have f3 : wrap64 ((b0 : Int) + 32) = (b1 : Int) := by unfold wrap64; have := SB.2; omega
          have HAD := Lib.hid (show (adT j N' gg i2).Ok from ⟨by show j < _; omega, N'64, by show 2 < _; omega, by show 0 < _; omega, by show gg < _; omega, by show i2 < _; omega⟩)
          rw [← hi22] at HS HQ
          have HN9 := Lib.hid hb1
          have HI2 := Lib.hid hi22
          clear hb1 yb hAb bS hi22
          go_upto_region 20 with (fail)
          obtain ⟨G, hG⟩ : ∃ G, wr.heap.size = G := ⟨_, rfl⟩
          obtain ⟨w9, hw9⟩ : ∃ w9, wr.alloc (.cells #[.int .u32 (j : Int), .int .u64 (N' : Int), .int .u32 2, .int .u32 0, .int .u32 (gg : Int), .int .u32 (i2 : Int)] 76) = w9 := ⟨_, rfl⟩
          have M9 := Lib.hid (show Bk w9 G 76 #[.int .u32 (j : Int), .int .u64 (N' : Int), .int .u32 2, .int .u32 0, .int .u32 (gg : Int), .int .u32 (i2 : Int)] by rw [← hw9, ← hG]; exact Bk.new _ _ _)
          have B9 := Lib.hid (show Below wr.heap.size wr w9 by rw [← hw9]; exact (Below.refl _ _).alloc (Nat.le_refl _) _)
          have KS := Lib.hid (show ∀ X, Below w9.heap.size w9 X → X.cell? ⟨G, 0, none⟩ = some (.int .u32 (j : Int)) ∧ X.cell? ⟨G, 1, none⟩ = some (.int .u64 (N' : Int)) ∧ X.cell? ⟨G, 2, none⟩ = some (.int .u32 2) ∧ X.cell? ⟨G, 3, none⟩ = some (.int .u32 0) ∧ X.cell? ⟨G, 4, none⟩ = some (.int .u32 (gg : Int)) ∧ X.cell? ⟨G, 5, none⟩ = some (.int .u32 (i2 : Int)) from fun X hX => by
            have q := M9.out.below hX M9.out.lt
            exact ⟨q.cell 0, q.cell 1, q.cell 2, q.cell 3, q.cell 4, q.cell 5⟩)
          rw [hw9, hG]
          clear hw9 hG n0 n1
          obtain ⟨y2, hy2⟩ : ∃ y2, y2 = joinT sd j N' gg i z ((sig.drop b0).take 32) := ⟨_, rfl⟩
          have HY32 := Lib.hid (show y2.length = 32 by rw [hy2, joinT]; split <;> exact num_len _ _ _)
          rw [← hy2] at HS
          by_cases hi2 : i % 2 = 1
          · have hm2 : ¬ (i : Int) % 2 = 0 := by omega
            rw [joinT, if_pos hi2, ← HI2.out] at hy2
            have HHA := Lib.hid (show ∀ X, Below wr.heap.size wr X → Calls Tryz.prog 51 #[.slice Ah 32 (cp - 32), .agg #[.int .u32 (j : Int), .int .u64 (N' : Int), .int .u32 2, .int .u32 0, .int .u32 (gg : Int), .int .u32 (i2 : Int)], .slice Ab 32 (cg - b0), .slice A9 32 c9] X (New X.heap.size X y2) from fun X hX => by rw [hy2]; exact rh_any (adT j N' gg i2) HAD.out Ah (cp - 32) sd Ab (cg - b0) _ A9 c9 z X (RS.out _ (BX.out _ hX)) (RX.out X hX) (RZ.out.below hX))
            clear hi2 HAD HI2 RX RZ
            have HY2 := Lib.hid hy2
            clear hy2
            go_upto_region 22 with (fail)
            (go_region_held3 (fun X => X.cell? ⟨G, 0, none⟩ = some (.int .u32 (j : Int)) ∧ X.cell? ⟨G, 1, none⟩ = some (.int .u64 (N' : Int)) ∧ X.cell? ⟨G, 2, none⟩ = some (.int .u32 2) ∧ X.cell? ⟨G, 3, none⟩ = some (.int .u32 0) ∧ X.cell? ⟨G, 4, none⟩ = some (.int .u32 (gg : Int)) ∧ X.cell? ⟨G, 5, none⟩ = some (.int .u32 (i2 : Int))) (first
              | exact KS.out _ (Below.refl w9.heap.size w9).drew
              | exact KS.out _ B5.out) (first
              | (go_at_call 51; ((with_reducible refine (HHA.out _ (B9.out.trans ((Below.refl w9.heap.size w9).drew.mono B9.out.size))).mono ?_); rintro e w5 ⟨A5, n5, c5, rfl, q5, b5⟩; obtain rfl : n5 = 32 := (own_len q5).symm.trans HY32.out; have R5 := Lib.hid (Rd.own q5); have B5 := Lib.hid ((Below.refl w9.heap.size w9).drew.trans (b5.mono (Below.refl w9.heap.size w9).drew.size)); clear q5 b5))
              | fail))
            clear T1 T2
            go_wp2_with (fail)
            go_roundw
            case rel => exact ⟨gg + 1, A5, c5, y2, by omega, rfl, by rw [Nat.mul_succ, ← Nat.add_assoc, ← HB0.out, ← HN9.out], by rw [HQ.out], by go_num, R5.out, by rw [HQ.out, Nat.mul_succ, ← Nat.add_assoc, ← HB0.out, ← HN9.out]; exact HS.out, BI.out.trans ((B9.out.trans (B5.out.mono B9.out.size)).mono BI.out.size)⟩
            case measure => simp [intOf]; omega
          · have hm2 : (i : Int) % 2 = 0 := by omega
            rw [joinT, if_neg hi2, ← HI2.out] at hy2
            have HHA := Lib.hid (show ∀ X, Below wr.heap.size wr X → Calls Tryz.prog 51 #[.slice Ah 32 (cp - 32), .agg #[.int .u32 (j : Int), .int .u64 (N' : Int), .int .u32 2, .int .u32 0, .int .u32 (gg : Int), .int .u32 (i2 : Int)], .slice A9 32 c9, .slice Ab 32 (cg - b0)] X (New X.heap.size X y2) from fun X hX => by rw [hy2]; exact rh_any (adT j N' gg i2) HAD.out Ah (cp - 32) sd A9 c9 z Ab (cg - b0) _ X (RS.out _ (BX.out _ hX)) (RZ.out.below hX) (RX.out X hX))
            clear hi2 HAD HI2 RX RZ
            have HY2 := Lib.hid hy2
            clear hy2
            go_upto_region 21 with (fail)
            (go_region_held3 (fun X => X.cell? ⟨G, 0, none⟩ = some (.int .u32 (j : Int)) ∧ X.cell? ⟨G, 1, none⟩ = some (.int .u64 (N' : Int)) ∧ X.cell? ⟨G, 2, none⟩ = some (.int .u32 2) ∧ X.cell? ⟨G, 3, none⟩ = some (.int .u32 0) ∧ X.cell? ⟨G, 4, none⟩ = some (.int .u32 (gg : Int)) ∧ X.cell? ⟨G, 5, none⟩ = some (.int .u32 (i2 : Int))) (first
              | exact KS.out _ (Below.refl w9.heap.size w9).drew
              | exact KS.out _ B5.out) (first
              | (go_at_call 51; ((with_reducible refine (HHA.out _ (B9.out.trans ((Below.refl w9.heap.size w9).drew.mono B9.out.size))).mono ?_); rintro e w5 ⟨A5, n5, c5, rfl, q5, b5⟩; obtain rfl : n5 = 32 := (own_len q5).symm.trans HY32.out; have R5 := Lib.hid (Rd.own q5); have B5 := Lib.hid ((Below.refl w9.heap.size w9).drew.trans (b5.mono (Below.refl w9.heap.size w9).drew.size)); clear q5 b5))
              | fail))
            clear T1 T2
            go_wp2_with (fail)
            go_roundw
            case rel => exact ⟨gg + 1, A5, c5, y2, by omega, rfl, by rw [Nat.mul_succ, ← Nat.add_assoc, ← HB0.out, ← HN9.out], by rw [HQ.out], by go_num, R5.out, by rw [HQ.out, Nat.mul_succ, ← Nat.add_assoc, ← HB0.out, ← HN9.out]; exact HS.out, BI.out.trans ((B9.out.trans (B5.out.mono B9.out.size)).mono BI.out.size)⟩
            case measure => simp [intOf]; omega
        · obtain rfl : gg = k := by omega
          have tk : ¬ (gg : Int) < (gg : Int) := by omega
          have hz : z = C := by
            have := HCL.out
            rw [Nat.sub_self] at this
            exact this
          subst hz
          have ab := A1B.out
          have hb := HB0.out
          go_wp2_with (fail)
          go_roundw
          case rel => exact ⟨j + 1, A9, c9, z, by omega, by rw [HNX.out], rfl, by rw [Nat.succ_mul, ← Nat.add_assoc, ← HA0.out, ← ab.1, ← hb], by go_num, RZ.out, by rw [HNX.out, Nat.succ_mul, ← Nat.add_assoc, ← HA0.out]; exact HC0.out, BL.out.trans ((B8.out.trans (BI.out.mono B8.out.size)).mono BL.out.size)⟩
          case measure => simp [intOf]; omega
    · have t0 : ¬ (j : Int) < (l : Int) := by omega
      have hyR : y = R := by
        have := HF.out
        rw [show l - j = 0 by omega] at this
        exact this
      subst hyR
      go_wp2_with (go_at_call 9; ((with_reducible refine (rsame_any A Ap 32 c 32 cp y pr _ RY.out (RP.out _ (BW.out _ (Below.refl _ _)))).mono ?_); rintro e w8 ⟨rfl, qq, rfl⟩))
      go_ret
      refine ⟨?_, (BW.out _ (Below.refl _ _)).trans ⟨rfl, rfl, rfl, Nat.le_refl _, fun _ _ => rfl⟩⟩
      congr 2
      unfold sameB
      by_cases hq : y = pr
      · subst hq; simp
      · simp [hq]
end Go.Proofs.YtkpfppiedadmbaaGreatDoor.S16
