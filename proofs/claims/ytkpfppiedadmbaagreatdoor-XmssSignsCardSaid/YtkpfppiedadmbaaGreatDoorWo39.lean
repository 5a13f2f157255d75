/-
  Texts put together: Yf5. No statement is proved here.
-/
import Derived.Test.YtkpfppiedadmbaaGreatDoorWo37
import Derived.Test.YtkpfppiedadmbaaGreatDoorWo38

/-
  The document's own Sign of layer 16, where there is a signature. No statement is proved here. (Written by geny5.py.)
-/
namespace Go.Proofs.YtkpfppiedadmbaaGreatDoor.S16
set_option linter.unusedSimpArgs false
set_option linter.unusedVariables false
set_option maxRecDepth 4096
open Go.RowKit S15

theorem sib_le (i : Nat) : sib i ≤ i + 1 := by unfold sib; split <;> omega
set_option maxHeartbeats 16000000 in
theorem rsign_may16 (sec salt sd : List UInt8) (l k : Nat) (As : Option Addr) (cs : Nat) (Al : Option Addr) (cl : Nat) (Ae : Option Addr) (ce : Nat) (n : Nat) (At : Option Addr) (nt ct : Nat) (text : List UInt8) (w : World) (hs : Rd w As 32 cs sec) (hl : Rd w Al 32 cl salt) (he : Rd w Ae 32 ce sd) (ht : Rd w At nt ct text)
    (hm : madeX l k 32 32 32 = true) (h0 : 0 < l) (h1 : l < 13) (h0k : 0 < k) (h2 : k < 21) (h3 : l * k ≤ 60) (h6 : k ≤ 6) (hnt : nt ≤ 65536) (hn : n < totN l k) :
    Calls Tryz.prog 8 #[.agg (shA l k), .agg (mkA As 32 cs Al 32 cl Ae 32 ce), .int .u64 (n : Int), .slice At nt ct] w (GivesS w (sigN sec salt sd l k n text) 0) := by
  have CM := Lib.hid (show ∀ X, Calls Tryz.prog 31 #[.agg #[.int .i64 (l : Int), .int .i64 (k : Int)], .agg #[.slice As 32 cs, .slice Al 32 cl, .slice Ae 32 ce]] X (GivesB true X) from fun X => by rw [← hm]; exact rmade_any l k As 32 cs Al 32 cl Ae 32 ce X)
  obtain ⟨T, hT⟩ : ∃ T, T = totN l k := ⟨_, rfl⟩
  have CT := Lib.hid (show ∀ X, Calls Tryz.prog 32 #[.agg #[.int .i64 (l : Int), .int .i64 (k : Int)]] X (GivesV (.int .u64 (T : Int)) X) from fun X => by rw [hT, totN, ← totX_may (madeX_iff.1 hm).1 rfl]; exact rtot_any l k X)
  have n64 : n < 18446744073709551616 := by
    have q1 : 2 ^ (l * k) ≤ 2 ^ 60 := Nat.pow_le_pow_right (by omega) h3
    have q2 : (2 : Nat) ^ 60 = 1152921504606846976 := rfl
    unfold totN at hn
    omega
  rw [← hT] at hn
  have t2 : ¬ (65536 : Int) < (nt : Int) := by omega
  have t3 : ¬ (T : Int) ≤ (n : Int) := by omega
  have CL := Lib.hid (show ∀ X, Calls Tryz.prog 34 #[.int .u64 (n : Int)] X (New X.heap.size X (longL n)) from fun X => rlong_any n n64 X)
  have CP := Lib.hid (show ∀ X A c, Below w.heap.size w X → Rd X A 32 c (longL n) → Calls Tryz.prog 33 #[.slice Al 32 cl, .slice A 32 c] X (New X.heap.size X (prfL salt (longL n))) from fun X A c hX h => rprf_any Al 32 cl salt A 32 c _ X (hl.below hX) h (by omega) (by omega))
  have P6 : 2 ^ k ≤ 64 := Nat.le_trans (Nat.pow_le_pow_right (by omega) h6) (by decide)
  have SM := Lib.hid (show ∀ X (j tr g i : Nat), Below w.heap.size w X → j < 13 → tr < 18446744073709551616 → g ≤ k → i ≤ 100 → Calls Tryz.prog 35 #[.agg #[.slice As 32 cs, .slice Al 32 cl, .slice Ae 32 ce], .int .u32 (j : Int), .int .u64 (tr : Int), .int .i64 (g : Int), .int .u32 (i : Int)] X (Gives32 X (sumT sec sd j tr g i)) from fun X j tr g i hX hj htr hg hi => rsum16_any As cs sec Al cl Ae ce sd j tr (by omega) htr g i X (hs.below hX) (he.below hX) (by omega) (by
    have q1 : 2 ^ g ≤ 64 := Nat.le_trans (Nat.pow_le_pow_right (by omega) hg) P6
    have q2 : (i + 1) * 2 ^ g ≤ 101 * 64 := Nat.mul_le_mul (by omega) q1
    omega))
  have SC := Lib.hid (show ∀ X (j tr q : Nat) (A : Option Addr) (c : Nat) (y : List UInt8), Below w.heap.size w X → j < 13 → tr < 18446744073709551616 → q < 4294967296 → Rd X A 32 c y → Calls Tryz.prog 40 #[.agg #[.slice As 32 cs, .slice Al 32 cl, .slice Ae 32 ce], .int .u32 (j : Int), .int .u64 (tr : Int), .int .u32 (q : Int), .slice A 32 c] X (New X.heap.size X (signL sec sd (adQ j tr q) y)) from fun X j tr q A c y hX hj htr hq hr => rsign_may As cs sec Al cl Ae ce sd j tr q A c y X (hs.below hX) (he.below hX) hr (by omega) htr hq)
  obtain ⟨d, hd⟩ : ∃ d, d = l - 1 := ⟨_, rfl⟩
  have RC := Lib.hid (show ∀ X, Below w.heap.size w X → Calls Tryz.prog 35 #[.agg #[.slice As 32 cs, .slice Al 32 cl, .slice Ae 32 ce], .int .u32 (d : Int), .int .u64 0, .int .i64 (k : Int), .int .u32 0] X (Gives32 X (sumT sec sd d 0 k 0)) from fun X hX => SM.out X d 0 k 0 hX (by omega) (by omega) (by omega) (by omega))
  have PC := Lib.hid (show ∀ X, Calls Tryz.prog 38 #[.int .u64 (n : Int), .int .i64 8] X (New X.heap.size X (putL n 8)) from fun X => rput_any n 8 X (by omega) n64)
  obtain ⟨P, hP⟩ : ∃ P, P = 2 ^ k := ⟨_, rfl⟩
  have P64 : P ≤ 64 := by rw [hP]; exact P6
  have P0 : 0 < P := by rw [hP]; exact Nat.two_pow_pos k
  have PW := Lib.hid (show ∀ X, Calls Tryz.prog 39 #[.int .i64 (k : Int)] X (fun e w' => e = .returned (.int .u64 (P : Int)) ∧ X = w') from fun X => by rw [hP]; exact rpow_any k (by omega) X)
  have HGL := Lib.hid (sig_len sec salt sd l k n text)
  have S32 := Lib.hid (show ∀ j tr q y, (signL sec sd (adQ j tr q) y).length = 2144 from fun j tr q y => sign_len _ _ _ _)
  have LL := Lib.hid (long_len n)
  have LP := Lib.hid (show (prfL salt (longL n)).length = 32 from num_len _ _ _)
  have L8 := Lib.hid (putL_length n 8)
  have HSG := Lib.hid (show [putL n 8, prfL salt (longL n)].flatten ++ signF sec sd k 0 l n (textL (prfL salt (longL n)) (sumT sec sd d 0 k 0) n text) = sigN sec salt sd l k n text by rw [hd]; rfl)
  have LT := Lib.hid (show (textL (prfL salt (longL n)) (sumT sec sd d 0 k 0) n text).length = 32 from num_len _ _ _)
  have LR := Lib.hid (sum_32 sec sd d 0 k 0)
  have CN := Lib.hid (show ∀ X A c, Below w.heap.size w X → Rd X A 96 c [prfL salt (longL n), sumT sec sd d 0 k 0, longL n].flatten → Calls Tryz.prog 36 #[.int .u8 2, .slice A 96 c, .slice At nt ct] X (New X.heap.size X (textL (prfL salt (longL n)) (sumT sec sd d 0 k 0) n text)) from fun X A c hX h => rnum_any 2 A 96 c _ At nt ct text X h (ht.below hX) (by omega) (by omega))
  obtain ⟨SG, hSG⟩ : ∃ SG, SG = sigN sec salt sd l k n text := ⟨_, rfl⟩
  rw [← hSG] at HSG HGL ⊢
  generalize textL (prfL salt (longL n)) (sumT sec sd d 0 k 0) n text = tx at *
  generalize sumT sec sd d 0 k 0 = rt at *
  generalize prfL salt (longL n) = slt at *
  generalize longL n = ll at *
  generalize putL n 8 = p8 at *
  have HC96 := Lib.hid (show [slt, rt, ll].flatten.length = 96 by have a := LP.out; have b := LR.out; have c := LL.out; simp only [List.flatten_cons, List.flatten_nil, List.length_append, List.length_nil, a, b, c])
  have HC40 := Lib.hid (show [p8, slt].flatten.length = 40 by have a := LP.out; have b := L8.out; simp only [List.flatten_cons, List.flatten_nil, List.length_append, List.length_nil, a, b])
  obtain ⟨xs0, hx0⟩ : ∃ xs0, xs0 = [p8, slt].flatten := ⟨_, rfl⟩
  rw [← hx0] at HSG
  obtain ⟨Z, hZ⟩ : ∃ Z, Z = 2144 + 32 * k := ⟨_, rfl⟩
  have HZ := Lib.hid hZ
  have HSZ := Lib.hid (show SG.length = 40 + l * Z ∧ l * Z ≤ 12 * 2400 from ⟨by rw [HGL.out, hZ]; rfl, Nat.mul_le_mul (by omega) (by omega)⟩)
  have ZB : Z ≤ 2400 := by omega
  have HPP := Lib.hid hP
  have HB := Lib.hid (show 0 < l ∧ l < 13 ∧ 0 < k ∧ k ≤ 6 from ⟨h0, h1, h0k, h6⟩)
  have HX0 := Lib.hid hx0
  have t4 : IntKind.i64.wrap ((l : Int) - 1) = (d : Int) := by rw [IntKind.wrap_i64]; omega
  have t5 : IntKind.u32.wrap (d : Int) = (d : Int) := by rw [IntKind.wrap_u32]; omega
  have HN64 := Lib.hid n64
  clear hm h0 h1 h2 h0k h3 h6 hs hl he ht hnt hn hT hd hP P6 hZ hSG hx0 n64
  obtain ⟨g, hg⟩ : ∃ g, w.heap.size = g := ⟨_, rfl⟩
  obtain ⟨m1, m2, b0⟩ := sh_m (w := w) (L := l) (H := k) (As := As) (ns := 32) (cs := cs) (Al := Al) (nl := 32) (cl := cl) (Ae := Ae) (ne := 32) (ce := ce) hg
  obtain ⟨w0, hw0⟩ : ∃ w0, (w.alloc (.cells (shA l k) 23)).alloc (.cells (mkA As 32 cs Al 32 cl Ae 32 ce) 26) = w0 := ⟨_, rfl⟩
  rw [hw0] at m1 m2 b0
  obtain ⟨k0, k1, k2, k3, k4⟩ := cells5 m1 m2
  have B0 := Lib.hid b0
  have M0 := Lib.hid m1
  have G0 := Lib.hid m2
  clear m1 m2 b0
  go_enter Tryz.func8, Tryz.ntmps8
  go_upto_region 1 with (fail)
  clear hw0 hg
  go_upto_region 5 with (first
    | (go_at_call 31; ((with_reducible refine (CM.out _).mono ?_); rintro e w1 ⟨rfl, b1⟩; have B1 := Lib.hid (B0.out.trans (b1.mono B0.out.size)); have M1 := Lib.hid (M0.out.below b1 M0.out.lt); have G1 := Lib.hid (G0.out.below b1 G0.out.lt); obtain ⟨j0, j1, j2, j3, j4⟩ := cells5 M1.out G1.out; clear b1))
    | (go_at_call 32; ((with_reducible refine (CT.out _).mono ?_); rintro e w2 ⟨rfl, b2⟩; have B2 := Lib.hid (B1.out.trans (b2.mono B1.out.size)); have M2 := Lib.hid (M1.out.below b2 M1.out.lt); have G2 := Lib.hid (G1.out.below b2 G1.out.lt); clear b2)))
  have KS := Lib.hid (show ∀ X, Below w2.heap.size w2 X → X.cell? ⟨g, 0, none⟩ = some (.int .i64 (l : Int)) ∧ X.cell? ⟨g, 1, none⟩ = some (.int .i64 (k : Int)) ∧ X.cell? ⟨g + 1, 0, none⟩ = some (.slice As 32 cs) ∧ X.cell? ⟨g + 1, 1, none⟩ = some (.slice Al 32 cl) ∧ X.cell? ⟨g + 1, 2, none⟩ = some (.slice Ae 32 ce) from fun X hX => cells5 (M2.out.below hX M2.out.lt) (G2.out.below hX G2.out.lt))
  have BW := Lib.hid (show ∀ X, Below w2.heap.size w2 X → Below w.heap.size w X from fun X hX => B2.out.trans (hX.mono B2.out.size))
  have D2 := Lib.hid (Below.refl w2.heap.size w2).drew
  clear k0 k1 k2 k3 k4 j0 j1 j2 j3 j4 t2 t3 CM CT M0 M1 M2 G0 G1 G2 B0 B1
  (go_region_held3 (fun X => X.cell? ⟨g, 0, none⟩ = some (.int .i64 (l : Int)) ∧ X.cell? ⟨g, 1, none⟩ = some (.int .i64 (k : Int)) ∧ X.cell? ⟨g + 1, 0, none⟩ = some (.slice As 32 cs) ∧ X.cell? ⟨g + 1, 1, none⟩ = some (.slice Al 32 cl) ∧ X.cell? ⟨g + 1, 2, none⟩ = some (.slice Ae 32 ce)) (first
    | exact KS.out _ D4.out
    | exact KS.out _ D3.out
    | exact KS.out _ D2.out) (first
    | (go_at_call 34; ((with_reducible refine (CL.out _).mono ?_); rintro e w3 ⟨A3, n3, c3, rfl, q3, b3⟩; obtain rfl : n3 = 32 := (own_len q3).symm.trans LL.out; have R3 := Lib.hid (Rd.own q3); have D3 := Lib.hid (D2.out.trans (b3.mono D2.out.size)); clear q3 b3))
    | (go_at_call 33; ((with_reducible refine (CP.out _ A3 c3 (BW.out _ D3.out) R3.out).mono ?_); rintro e w4 ⟨A4, n4, c4, rfl, q4, b4⟩; obtain rfl : n4 = 32 := (own_len q4).symm.trans LP.out; have R4 := Lib.hid (Rd.own q4); have D4 := Lib.hid (D3.out.trans (b4.mono D3.out.size)); clear q4 b4))
    | fail))
  obtain ⟨k0, k1, k2, k3, k4⟩ := KS.out _ D4.out
  go_upto_region 7 with (go_at_call 35; ((with_reducible refine (RC.out _ (BW.out _ D4.out)).mono ?_); rintro e w5 ⟨A5, c5, rfl, r5, b5⟩; have R5 := Lib.hid r5; have R4' := Lib.hid (R4.out.below b5); have D5 := Lib.hid (D4.out.trans (b5.mono D4.out.size)); clear r5 b5))
  go_upto_region 8 with (first
    | (go_at_call 34; ((with_reducible refine (CL.out w5).mono ?_); rintro e w6 ⟨A6, n6, c6, rfl, q6, b6⟩; obtain rfl : n6 = 32 := (own_len q6).symm.trans LL.out; have R6 := Lib.hid (Rd.own q6); have R46 := Lib.hid (R4'.out.below b6); have R56 := Lib.hid (R5.out.below b6); have D6 := Lib.hid (D5.out.trans (b6.mono D5.out.size)); clear q6 b6))
    | (go_at_call 37; ((refine (rcat_any _ 3 3 [slt, rt, ll] _ (RdBs.built3At w6 _ rfl _ R46.out R56.out R6.out) (by rw [HC96.out]; omega)).mono ?_); rintro e w7 ⟨A7, n7, c7, rfl, q7, b7⟩; obtain rfl : n7 = 96 := (own_len q7).symm.trans HC96.out; have R7 := Lib.hid (Rd.own q7); have D6' := D6.out.alloc D6.out.size (.cells #[.slice A4 32 c4, .slice A5 32 c5, .slice A6 32 c6] 24); have R47 := Lib.hid ((R46.out.alloc _).below b7); have D7 := Lib.hid (D6'.trans (b7.mono D6'.size)); clear q7 b7 D6'))
    | (go_at_call 36; ((with_reducible refine (CN.out _ A7 c7 (BW.out _ D7.out) R7.out).mono ?_); rintro e w8 ⟨A8, n8, c8, rfl, q8, b8⟩; obtain rfl : n8 = 32 := (own_len q8).symm.trans LT.out; have R8 := Lib.hid (Rd.own q8); have R48 := Lib.hid (R47.out.below b8); have D8 := Lib.hid (D7.out.trans (b8.mono D7.out.size)); clear q8 b8)))
  go_upto_region 9 with (first
    | (go_at_call 38; ((with_reducible refine (PC.out w8).mono ?_); rintro e w9 ⟨A9, n9, c9, rfl, q9, b9⟩; obtain rfl : n9 = 8 := (own_len q9).symm.trans L8.out; have R9 := Lib.hid (Rd.own q9); have R49 := Lib.hid (R48.out.below b9); have R89 := Lib.hid (R8.out.below b9); have D9 := Lib.hid (D8.out.trans (b9.mono D8.out.size)); clear q9 b9))
    | (go_at_call 37; ((refine (rcat_any _ 2 2 [p8, slt] _ (RdBs.built2 w9 _ R9.out R49.out) (by rw [HC40.out]; omega)).mono ?_); rintro e w10 ⟨A10, n10, c10, rfl, q10, b10⟩; obtain rfl : n10 = 40 := (own_len q10).symm.trans HC40.out; have O10 := Lib.hid q10; have D9' := D9.out.alloc D9.out.size (.cells #[.slice A9 8 c9, .slice A4 32 c4] 24); have BS := Lib.hid (show w2.heap.size ≤ (w9.alloc (.cells #[.slice A9 8 c9, .slice A4 32 c4] 24)).heap.size ∧ (w9.alloc (.cells #[.slice A9 8 c9, .slice A4 32 c4] 24)).heap.size ≤ w10.heap.size from ⟨D9'.size, b10.size⟩); have R810 := Lib.hid ((R89.out.alloc _).below b10); have D10 := Lib.hid (D9'.trans (b10.mono D9'.size)); clear q10 b10 D9')))
  obtain ⟨k0, k1, k2, k3, k4⟩ := KS.out _ D10.out
  obtain ⟨bs, hbs⟩ : ∃ bs, (w9.alloc (.cells #[.slice A9 8 c9, .slice A4 32 c4] 24)).heap.size = bs := ⟨_, rfl⟩
  rw [hbs] at BS O10
  rw [← HX0.out] at O10
  clear hbs HX0 HC40 HC96 CL CP CN RC PC D2 D3 D4 D5 D6 D7 D8 D9 R3 R4 R5 R6 R7 R8 R9 R4' R46 R56 R47 R48 R49 R89 LL LP L8 LT LR t4 t5
  go_wp2_with (go_at_call 39; ((with_reducible refine (PW.out _).mono ?_); rintro e w11 ⟨rfl, rfl⟩))
  go_loopw [2, 12, 13, 15, 16, 17, 18, 19] (fun nv of out ly q iv gv ot wr => ∃ (j m : Nat) (A : Option Addr) (c : Nat) (y xs : List UInt8), j ≤ l ∧ nv = .int .u64 ((nT k n j : Nat) : Int) ∧ of = .slice A 32 c ∧ ly = .int .i64 (j : Int) ∧ Rd wr A 32 c y ∧ m = 40 + j * Z ∧ wr.ownsRow bs 5 1 out m (bv xs) ∧ xs ++ signF sec sd k j (l - j) (nT k n j) y = SG ∧ Below w2.heap.size w2 wr ∧ bs ≤ wr.heap.size)
    (fun _ _ _ ly _ _ _ _ _ => l - (intOf ly).toNat)
  case atStart => exact ⟨0, 40, A8, c8, tx, xs0, Nat.zero_le _, by rw [nT_zero], rfl, rfl, R810.out, by omega, O10.out, by rw [nT_zero, Nat.sub_zero]; exact HSG.out, D10.out, BS.out.2⟩
  case round =>
    obtain ⟨j, m, A, c, y, xs, hj, rfl, rfl, rfl, r1, hm, own, hfit, hbel, hbs⟩ := hrel
    obtain ⟨Ao, co, rfl⟩ := own_form own
    clear R810 HSG k0 k1 k2 k3 k4 O10
    have RY := Lib.hid r1
    have OX := Lib.hid own
    have HF := Lib.hid hfit
    have DL := Lib.hid hbel
    have HM := Lib.hid hm
    have HBS := Lib.hid hbs
    have HS2 := Lib.hid BS.out.1
    obtain ⟨N, hN⟩ : ∃ N, N = nT k n j := ⟨_, rfl⟩
    have N64 : N < 18446744073709551616 := by rw [hN, nT]; exact Nat.lt_of_le_of_lt (Nat.div_le_self _ _) HN64.out
    rw [← hN] at HF ⊢
    have HN := Lib.hid hN
    obtain ⟨k0, k1, k2, k3, k4⟩ := KS.out _ hbel
    clear r1 own hfit hbel hm hbs hN
    have hl13 := HB.out.2.1
    by_cases hlt : j < l
    · have pp : ¬ (P : Int) = 0 := by omega
      have t0 : (j : Int) < (l : Int) := by omega
      obtain ⟨q0, hq0⟩ : ∃ q0, q0 = N % P := ⟨_, rfl⟩
      obtain ⟨N', hN'⟩ : ∃ N', N' = N / P := ⟨_, rfl⟩
      obtain ⟨m1, hm1⟩ : ∃ m1, m1 = m + 2144 := ⟨_, rfl⟩
      have q0P : q0 < P := by rw [hq0]; exact Nat.mod_lt _ P0
      have N'64 : N' < 18446744073709551616 := by rw [hN']; exact Nat.lt_of_le_of_lt (Nat.div_le_self _ _) N64
      have mZ : m + Z ≤ 40000 := by
        have e1 := HSZ.out.2
        have e2 := HM.out
        have e3 : (j + 1) * Z ≤ l * Z := Nat.mul_le_mul_right Z (by omega)
        rw [Nat.succ_mul] at e3
        omega
      have MB := Lib.hid (show m + Z ≤ 40000 ∧ m1 + 32 * k = m + Z from ⟨mZ, by have := HZ.out; omega⟩)
      have jB : j < 4294967296 := by omega
      have qB : q0 < 64 := by omega
      have lj : l - j = (l - (j + 1)) + 1 := by omega
      have f1 : (N : Int) % (P : Int) = (q0 : Int) := by rw [hq0]; simp
      have f2 : (q0 : Int) % 4294967296 = (q0 : Int) := by omega
      have f3 : IntKind.u64.wrap ((N : Int) / (P : Int)) = (N' : Int) := by
        have : (N : Int) / (P : Int) = (N' : Int) := by rw [hN']; simp
        rw [this, IntKind.wrap_u64]
        omega
      have f6 : IntKind.u32.wrap (j : Int) = (j : Int) := by rw [IntKind.wrap_u32]; omega
      have f7 : (j : Int) % 4294967296 = (j : Int) := by omega
      obtain ⟨X1, hX1⟩ : ∃ X1, X1 = (xs ++ signL sec sd (adQ j N' q0) y) ++ wayF sec sd j N' 0 k q0 := ⟨_, rfl⟩
      have HC0 := Lib.hid (show X1 ++ signF sec sd k (j + 1) (l - (j + 1)) N' (sumT sec sd j N' k 0) = SG by
        have e := HF.out
        rw [lj, signF, ← HPP.out, ← hq0, ← hN'] at e
        rw [hX1, ← e]
        simp only [List.append_assoc])
      have HNX := Lib.hid (show nT k n (j + 1) = N' by rw [nT_succ, ← HPP.out, ← HN.out, hN'])
      have QB := Lib.hid qB
      have HX1 := Lib.hid hX1
      have ST := Lib.hid (show ∀ X, Below wr.heap.size wr X → Calls Tryz.prog 40 #[.agg #[.slice As 32 cs, .slice Al 32 cl, .slice Ae 32 ce], .int .u32 (j : Int), .int .u64 (N' : Int), .int .u32 (q0 : Int), .slice A 32 c] X (New X.heap.size X (signL sec sd (adQ j N' q0) y)) from fun X hX => SC.out X j N' q0 A c y (BW.out _ (DL.out.trans (hX.mono DL.out.size))) (by omega) N'64 (by omega) (RY.out.below hX))
      have S32' := Lib.hid (S32.out j N' q0 y)
      generalize signL sec sd (adQ j N' q0) y = sg at *
      have HM1 := Lib.hid hm1
      have mB : m + 2144 ≤ 140737488355328 := by omega
      clear jB qB lj hq0 hN' hX1 mZ N64 HF hm1 SC S32
      go_upto_region 17 with (first
        | (go_at_call 40; ((with_reducible refine (ST.out _ (Below.refl _ _)).mono ?_); rintro e w12 ⟨A12, n12, c12, rfl, q12, b12⟩; obtain rfl : n12 = 2144 := (own_len q12).symm.trans S32'.out; have R12 := Lib.hid (Rd.own q12); have O12 := Lib.hid (own_below OX.out b12); have D12 := Lib.hid (DL.out.trans (b12.mono DL.out.size)); have Z12 := Lib.hid (Nat.le_trans HBS.out b12.size); clear q12 b12))
        | (at_builtin; refine append_rd rfl (.tmp 75) (.tmp 82) rfl bs (.slice Ao m co) m xs rfl O12.out A12 2144 c12 sg rfl R12.out mB Z12.out ?_; intro v13 w13 o13 g13; obtain ⟨A13, c13, rfl⟩ := own_form o13; have O13 := Lib.hid o13; have D13 := Lib.hid (D12.out.grown g13 D12.out.size (fun q hq => Nat.le_trans HS2.out (O12.out.lt q hq).1)); have Z13 := Lib.hid (Nat.le_trans Z12.out g13.size); clear o13 g13))
      obtain ⟨k0, k1, k2, k3, k4⟩ := KS.out _ D13.out
      have LX1 := Lib.hid (show X1 = (xs ++ sg) ++ wayF sec sd j N' 0 k q0 from HX1.out)
      clear ST R12 O12 D12 Z12 OX HX1 S32' pp t0 f1 f2 f3 mB RY
      rw [← HM1.out] at O13 ⊢
      go_wp2_with (fail)
      go_loopw [13, 17, 18, 19] (fun out iv gv ot wi => ∃ (gg m : Nat) (xs : List UInt8), gg ≤ k ∧ iv = .int .u32 ((q0 / 2 ^ gg : Nat) : Int) ∧ gv = .int .i64 (gg : Int) ∧ m = m1 + 32 * gg ∧ wi.ownsRow bs 5 1 out m (bv xs) ∧ xs ++ wayF sec sd j N' gg (k - gg) (q0 / 2 ^ gg) = X1 ∧ Below w2.heap.size w2 wi ∧ bs ≤ wi.heap.size)
        (fun _ _ gv _ _ => k - (intOf gv).toNat)
      case atStart => exact ⟨0, m1, xs ++ sg, Nat.zero_le _, by simp, rfl, by omega, O13.out, by simpa using LX1.out.symm, D13.out, Z13.out⟩
      case round =>
        obtain ⟨gg, mi, xi, hgk, rfl, rfl, hmi, own, hcl, hbl, hbs⟩ := hrel
        obtain ⟨Ao', co', rfl⟩ := own_form own
        clear O13 LX1 k0 k1 k2 k3 k4
        have OX := Lib.hid own
        have HCL := Lib.hid hcl
        have DI := Lib.hid hbl
        have HBI := Lib.hid hbs
        have HMI := Lib.hid hmi
        have hq2 : q0 / 2 ^ gg ≤ q0 := Nat.div_le_self _ _
        obtain ⟨i, hi⟩ : ∃ i, i = q0 / 2 ^ gg := ⟨_, rfl⟩
        have HQ := Lib.hid (show q0 / 2 ^ (gg + 1) = i / 2 by rw [Nat.pow_succ, ← Nat.div_div_eq_div_mul, hi])
        rw [← hi] at hq2 HCL ⊢
        have i64 : i < 64 := Nat.lt_of_le_of_lt hq2 QB.out
        obtain ⟨k0, k1, k2, k3, k4⟩ := KS.out _ hbl
        clear own hcl hbl hbs hi hq2 hmi
        have k6 := HB.out.2.2.2
        by_cases hlk : gg < k
        · have tk : (gg : Int) < (k : Int) := by omega
          have mB : mi + 32 ≤ 140737488355328 := by have := HMI.out; have := MB.out; omega
          obtain ⟨sb, hsb⟩ : ∃ sb, sb = sib i := ⟨_, rfl⟩
          have sbB : sb ≤ 100 := by rw [hsb]; have := sib_le i; omega
          obtain ⟨i2, hi2⟩ : ∃ i2, i2 = i / 2 := ⟨_, rfl⟩
          have g1 : (i : Int) / 2 = (i2 : Int) := by omega
          have g2 : (i2 : Int) % 4294967296 = (i2 : Int) := by omega
          have CS := Lib.hid (show ∀ X, Below w2.heap.size w2 X → Calls Tryz.prog 35 #[.agg #[.slice As 32 cs, .slice Al 32 cl, .slice Ae 32 ce], .int .u32 (j : Int), .int .u64 (N' : Int), .int .i64 (gg : Int), .int .u32 (sb : Int)] X (Gives32 X (sumT sec sd j N' gg sb)) from fun X hX => SM.out X j N' gg sb (BW.out _ hX) (by omega) N'64 (by omega) sbB)
          have HS := Lib.hid (show (xi ++ sumT sec sd j N' gg sb) ++ wayF sec sd j N' (gg + 1) (k - (gg + 1)) i2 = X1 by
            have e := HCL.out
            rw [show k - gg = (k - (gg + 1)) + 1 by omega, wayF, ← hsb, ← hi2, ← List.append_assoc] at e
            exact e)
          rw [← hi2] at HQ
          generalize sumT sec sd j N' gg sb = sr at *
          by_cases hp : i % 2 = 1
          · have p1 : (i : Int) % 2 = 1 := by omega
            have p2 : IntKind.u32.wrap ((i : Int) - 1) = (sb : Int) := by
              have : sb = i - 1 := by rw [hsb, sib, if_pos hp]
              rw [IntKind.wrap_u32]; omega
            clear hp hsb sbB hi2 i64
            go_wp2_with (first
              | (go_at_call 35; ((with_reducible refine (CS.out _ DI.out).mono ?_); rintro e w14 ⟨A14, c14, rfl, r14, b14⟩; have R14 := Lib.hid r14; have O14 := Lib.hid (own_below OX.out b14); have D14 := Lib.hid (DI.out.trans (b14.mono DI.out.size)); have Z14 := Lib.hid (Nat.le_trans HBI.out b14.size); clear r14 b14))
              | (at_builtin; refine append_rd rfl (.tmp 98) (.tmp 105) rfl bs (.slice Ao' mi co') mi xi rfl O14.out A14 32 c14 sr rfl R14.out mB Z14.out ?_; intro v15 w15 o15 g15; obtain ⟨A15, c15, rfl⟩ := own_form o15; have O15 := Lib.hid o15; have D15 := Lib.hid (D14.out.grown g15 D14.out.size (fun q hq => Nat.le_trans HS2.out (O14.out.lt q hq).1)); have Z15 := Lib.hid (Nat.le_trans Z14.out g15.size); clear o15 g15))
            go_roundw
            case rel => exact ⟨gg + 1, mi + 32, xi ++ sr, by omega, by rw [HQ.out], by go_num, by have := HMI.out; omega, O15.out, by rw [HQ.out]; exact HS.out, D15.out, Z15.out⟩
            case measure => simp [intOf]; omega
          · have p1 : ¬ (i : Int) % 2 = 1 := by omega
            have p2 : IntKind.u32.wrap ((i : Int) + 1) = (sb : Int) := by
              have : sb = i + 1 := by rw [hsb, sib, if_neg hp]
              rw [IntKind.wrap_u32]; omega
            clear hp hsb sbB hi2 i64
            go_wp2_with (first
              | (go_at_call 35; ((with_reducible refine (CS.out _ DI.out).mono ?_); rintro e w14 ⟨A14, c14, rfl, r14, b14⟩; have R14 := Lib.hid r14; have O14 := Lib.hid (own_below OX.out b14); have D14 := Lib.hid (DI.out.trans (b14.mono DI.out.size)); have Z14 := Lib.hid (Nat.le_trans HBI.out b14.size); clear r14 b14))
              | (at_builtin; refine append_rd rfl (.tmp 98) (.tmp 105) rfl bs (.slice Ao' mi co') mi xi rfl O14.out A14 32 c14 sr rfl R14.out mB Z14.out ?_; intro v15 w15 o15 g15; obtain ⟨A15, c15, rfl⟩ := own_form o15; have O15 := Lib.hid o15; have D15 := Lib.hid (D14.out.grown g15 D14.out.size (fun q hq => Nat.le_trans HS2.out (O14.out.lt q hq).1)); have Z15 := Lib.hid (Nat.le_trans Z14.out g15.size); clear o15 g15))
            go_roundw
            case rel => exact ⟨gg + 1, mi + 32, xi ++ sr, by omega, by rw [HQ.out], by go_num, by have := HMI.out; omega, O15.out, by rw [HQ.out]; exact HS.out, D15.out, Z15.out⟩
            case measure => simp [intOf]; omega
        · obtain rfl : gg = k := by omega
          have tk : ¬ (gg : Int) < (gg : Int) := by omega
          have hx : xi = X1 := by
            have := HCL.out
            rw [Nat.sub_self, wayF, List.append_nil] at this
            exact this
          subst hx
          have RC2 := Lib.hid (show ∀ X, Below w2.heap.size w2 X → Calls Tryz.prog 35 #[.agg #[.slice As 32 cs, .slice Al 32 cl, .slice Ae 32 ce], .int .u32 (j : Int), .int .u64 (N' : Int), .int .i64 (gg : Int), .int .u32 0] X (Gives32 X (sumT sec sd j N' gg 0)) from fun X hX => SM.out X j N' gg 0 (BW.out _ hX) (by omega) N'64 (by omega) (by omega))
          generalize sumT sec sd j N' gg 0 = sr at *
          go_wp2_with (go_at_call 35; ((with_reducible refine (RC2.out _ DI.out).mono ?_); rintro e w14 ⟨A14, c14, rfl, r14, b14⟩; have R14 := Lib.hid r14; have O14 := Lib.hid (own_below OX.out b14); have D14 := Lib.hid (DI.out.trans (b14.mono DI.out.size)); have Z14 := Lib.hid (Nat.le_trans HBI.out b14.size); clear r14 b14))
          go_roundw
          case rel => exact ⟨j + 1, mi, A14, c14, sr, xi, by omega, by rw [HNX.out], rfl, by go_num, R14.out, by rw [HMI.out, MB.out.2, HM.out, Nat.succ_mul]; omega, O14.out, by rw [HNX.out]; exact HC0.out, D14.out, Z14.out⟩
          case measure => simp [intOf]; omega
    · have t0 : ¬ (j : Int) < (l : Int) := by omega
      have hx : xs = SG := by
        have := HF.out
        rw [show l - j = 0 by omega, signF, List.append_nil] at this
        exact this
      subst hx
      obtain rfl : xs.length = m := own_len OX.out
      go_wp2_with (fail)
      go_ret2
      exact ⟨Ao, co, rfl, Rd.own OX.out, BW.out _ DL.out⟩
end Go.Proofs.YtkpfppiedadmbaaGreatDoor.S16
