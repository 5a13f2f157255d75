/-
  The landed package mac: a text's mask. No statement is proved here.
-/
import Derived.Test.YtjgcaodicbikiaaDoorMacK3
namespace Go.Proofs.YtjgcaodicbikiaaDoor.S6
set_option linter.unusedSimpArgs false
set_option linter.unusedVariables false
open Go.RowKit

theorem run_min2 {P : Program} (k : IntKind) (a b : Int) (w : World) : (Builtin.min2 (.int k a) (.int k b)).run P w = .ok (.int k (min a b)) w := by
  have e : (if b < a then b else a) = min a b := by split <;> omega
  simp only [Builtin.min2, e]
  rfl
theorem run_min2b {P : Program} (ts : Array TypeId) (t : TypeId) (k : IntKind) (a b r : Int) (h : min a b = r) (w : World) :
    (Builtin.min_ ts t #[.int k a, .int k b]).run P w = .ok (.int k r) w := by
  subst h
  simp [Builtin.min_, List.foldlM, run_min2]
theorem mask_next (k : Int) (text : List UInt8) (sz N j m q : Nat) (hs : szK k = sz) (hm : m = j * sz) (hlt : m < N) (hq : q = min sz (N - m)) :
    (pts k text j).take N ++ (sumK k (text ++ putL j 4)).take q = (pts k text (j + 1)).take N := by
  have h1 : (pts k text j).length = m := by rw [pts_length, hs, hm]
  have h2 : (sumK k (text ++ putL j 4)).length = sz := by rw [sumK_length, hs]
  rw [pts_succ, List.take_append, List.take_of_length_le (l := pts k text j) (by omega), h1]
  congr 1
  rw [hq]
  rcases Nat.le_total sz (N - m) with h | h
  · rw [Nat.min_eq_left h, List.take_of_length_le (by omega), List.take_of_length_le (by omega)]
  · rw [Nat.min_eq_right h]
theorem keep0 {W : World} {g : Nat} {T : TypeId} {sz bl : Int} {F : FuncId} (h : Bk W g T (kA sz bl F)) : W.cell? ⟨g, 0, none⟩ = some (.int .i64 sz) := h.cell 0
set_option maxHeartbeats 4000000 in
theorem mask_0 (At : Option Addr) (nt ct : Nat) (text : List UInt8) (N : Nat) (w : World) (hg : GK w) (h2 : Rd w At nt ct text) (hnt : nt ≤ 100000) (hN : N ≤ 65536) :
    Calls Tryd.prog 16 #[.int .i64 0, .slice At nt ct, .int .i64 (N : Int)] w (Gives w.heap.size w (maskK 0 text (N : Int))) := by
  obtain ⟨i0, hi, hz0, hz1, hz2⟩ := info_parts Tryd.infoU8
  have ML := Lib.hid (show (maskK 0 text (N : Int)).length = N from maskK_length 0 text (N : Int) (by decide) (by omega) (by omega))
  have MP := Lib.hid (show ∀ m, N ≤ m * 32 → maskK 0 text (N : Int) = (pts 0 text m).take N from fun m hm => maskK_parts 0 text (N : Int) (by decide) (by omega) (by omega) m (by rw [Int.toNat_natCast]; exact hm))
  obtain ⟨V, hV⟩ : ∃ V : Nat → List UInt8, V = fun j => sumK 0 (text ++ putL j 4) := ⟨_, rfl⟩
  obtain ⟨PT, hPT⟩ : ∃ PT : Nat → List UInt8, PT = fun j => (pts 0 text j).take N := ⟨_, rfl⟩
  obtain ⟨Z, hZ⟩ : ∃ Z, Z = maskK 0 text (N : Int) := ⟨_, rfl⟩
  have VL := Lib.hid (show ∀ j, (V j).length = 32 from fun j => by rw [hV]; exact sumK_length 0 _)
  have P0 := Lib.hid (show PT 0 = [] by rw [hPT]; simp [pts])
  have PN := Lib.hid (show ∀ j m q, m = j * 32 → m < N → q = min 32 (N - m) → PT j ++ (V j).take q = PT (j + 1) from fun j m q h1 h2 h3 => by rw [hPT, hV]; exact mask_next 0 text 32 N j m q rfl h1 h2 h3)
  have PZ := Lib.hid (show ∀ j, N ≤ j * 32 → PT j = Z from fun j h => by rw [hPT, hZ]; exact (MP.out j h).symm)
  have ZL := Lib.hid (show Z.length = N by rw [hZ]; exact ML.out)
  have TL := Lib.hid h2.len
  have HG := Lib.hid hg
  have HP := Lib.hid (show ∀ (j : Nat) (W : World), j ≤ 65536 → Calls Tryd.prog 25 #[.int .u64 (j : Int), .int .i64 4] W (New W.heap.size W (putL j 4)) from fun j W h => put_any j 4 W (by omega) (by omega))
  have HS := Lib.hid (show ∀ (j : Nat) (A : Option Addr) (W : World), GK W → RdBs W A 2 2 [text, putL j 4] → Calls Tryd.prog 32 #[.slice A 2 2] W (New W.heap.size W (V j)) from fun j A W g h => by
    have := short_any A 2 2 [text, putL j 4] W g h (by simp [putL_length]; have := TL.out; omega)
    rw [hV]
    simpa using this)
  have PL := Lib.hid (show ∀ j, (putL j 4).length = 4 from fun j => putL_length j 4)
  rw [← hZ]
  have T0 := Lib.hid h2
  have q2 : decide ((N : Int) < 0) = false := decide_eq_false (by omega)
  have q3 : decide (65536 < (N : Int)) = false := decide_eq_false (by omega)
  clear hg h2 hnt hV hPT hZ ML MP
  go_enter Tryd.func16, Tryd.ntmps16
  go_upto_region 4 with (first
    | (go_at_call 20; ((with_reducible refine (find_0 _).mono ?_); rintro e w1 ⟨rfl, b1⟩; have B1 := Lib.hid (b1.alloc b1.size (.cells (kA 32 64 32) 40)); have T1 := Lib.hid ((T0.out.below b1).alloc (.cells (kA 32 64 32) 40)); have O1 := Lib.hid (Bk.new w1 40 (kA 32 64 32)); have G1 := Lib.hid b1.size; have S1 := Lib.hid (World.size_alloc w1 (.cells (kA 32 64 32) 40)); clear b1)))
  obtain ⟨wk, hwk⟩ : ∃ wk, w1.alloc (.cells (kA 32 64 32) 40) = wk := ⟨_, rfl⟩
  obtain ⟨g, hgk⟩ : ∃ g, g = w1.heap.size := ⟨_, rfl⟩
  rw [hwk] at B1 T1 O1 S1 ⊢
  rw [← hgk] at O1 G1 S1 ⊢
  clear hwk hgk q2 q3
  go_wp2_with (at_make; refine wpList_make_own _ rfl _ _ 22 rfl (g + 1) 5 i0 (.int .u8 0) 1 Tryd.underlying22 hi hz0 hz1 _ _ _ N rfl rfl rfl (by rw [hz2]; omega) (by unfold maxLen; omega) (by rw [S1.out]; exact Nat.le_refl _) ?_)
  intro w2 own2 g2
  have B2 := Lib.hid (B1.out.grown g2 B1.out.size (fun k h => by cases h))
  have T2 := Lib.hid (Rd.apart T1.out g2 (fun a _ h => by cases h))
  have O2 := Lib.hid (O1.out.only g2 (by simp))
  clear g2
  go_wp2
  go_loopw [9, 10, 11] (fun out i _ wr => ∃ j m : Nat, j ≤ N ∧ i = .int .u64 (j : Int) ∧ Hid (m = min (j * 32) N) ∧ wr.ownsRow (g + 1) 5 1 out m (bv (PT j)) ∧ Hid (Below w.heap.size w wr) ∧ Hid (Bk wr g 40 (kA 32 64 32)) ) (fun _ i _ _ => N - (intOf i).toNat)
  case atStart => exact ⟨0, 0, by omega, rfl, by show _ = _; omega, by rw [P0.out]; simpa [bv] using own2, B2, O2⟩
  case round =>
    obtain ⟨j, m, hj, rfl, hm, own, HB, HO⟩ := hrel
    have HT := Lib.hid (T0.out.below HB.out)
    obtain ⟨A0, c0, rfl⟩ := own_form own
    have OW := Lib.hid own
    by_cases hlt : m < N
    · have hmj : m = j * 32 := by have := hm.out; omega
      have hjN : j < N := by omega
      have i0' : (m : Int) < (N : Int) := by omega
      obtain ⟨q, hq⟩ : ∃ q, q = min 32 (N - m) := ⟨_, rfl⟩
      have hsub : IntKind.i64.wrap ((N : Int) - (m : Int)) = (N : Int) - (m : Int) := by rw [IntKind.wrap_i64]; omega
      have hmin := fun (W : World) (ts : Array TypeId) (t : TypeId) => run_min2b (P := Tryd.prog) ts t .i64 32 ((N : Int) - (m : Int)) (q : Int) (by omega) W
      have hjw : IntKind.u64.wrap ((j : Int) + 1) = (j : Int) + 1 := by rw [IntKind.wrap_u64]; omega
      have EN := Lib.hid (PN.out j m q hmj hlt hq)
      have Hq := Lib.hid (show q ≤ 32 by omega)
      have Hm2 := Lib.hid (show m + q = min ((j + 1) * 32) N by omega)
      have HN2 := Lib.hid (show m + q ≤ 65536 by omega)
      have HJ := Lib.hid (show j ≤ 65536 by omega)
      clear own hm hmj hq
      have kc := keepK HO.out
      go_wp2
      have BD := Lib.hid HB.out.drew
      have OD := Lib.hid HO.out.drew
      have TD := Lib.hid HT.out.drew
      have WD := Lib.hid (own_below OW.out (Below.refl wr.heap.size wr).drew)
      clear kc
      first
      | (go_region_held3 (fun w' => w'.cell? ⟨g, 2, none⟩ = some (.func (.func 32) #[] #[]))
          (first
            | exact keepK O5.out
            | exact keepK (O4.out.alloc _)
            | exact keepK O4.out
            | exact keepK OD.out)
          (first
            | (go_at_call 25; ((with_reducible refine (HP.out j _ HJ.out).mono ?_); intro e w4 h4; obtain ⟨A4, c4, rfl, r4, b4⟩ := new_len h4; rw [PL.out] at r4; rw [PL.out]; have R4 := Lib.hid (RdBs.two (T := 22) (TD.out.below b4) r4 _ rfl); have B4 := Lib.hid (BD.out.trans (b4.mono BD.out.size)); have O4 := Lib.hid (OD.out.below b4 OD.out.lt); have W4 := Lib.hid (own_below WD.out b4); have T4 := Lib.hid (TD.out.below b4); clear h4 r4 b4))
            | (go_at_call 32; ((with_reducible refine (HS.out j _ _ (HG.out.below (Nat.le_refl _) (B4.out.alloc B4.out.size _)) R4.out).mono ?_); intro e w5 h5; obtain ⟨A5, c5, rfl, r5, b5⟩ := new_len h5; rw [VL.out] at r5; rw [VL.out]; have R5 := Lib.hid r5; have B5 := Lib.hid ((B4.out.alloc B4.out.size (.cells #[.slice At nt ct, .slice A4 4 c4] 22)).trans (b5.mono (by have := B4.out.size; simp; omega))); have O5 := Lib.hid ((O4.out.alloc (.cells #[.slice At nt ct, .slice A4 4 c4] 22)).below b5 (by have := O4.out.lt; simp; omega)); have W5 := Lib.hid (own_below (own_below W4.out ((Below.refl _ _).alloc (Nat.le_refl _) (.cells #[.slice At nt ct, .slice A4 4 c4] 22))) b5); have T5 := Lib.hid ((T4.out.alloc (.cells #[.slice At nt ct, .slice A4 4 c4] 22)).below b5); clear h5 r5 b5))
            | fail))
      | fail
      have kc := keep0 O5.out
      have hcut := fun W => run_cutSlH (A := A5) (n := 32) (c := c5) (m := q) (h := (q : Int)) rfl (by have := Hq.out; have := R5.out.cap; omega) W
      have hcut2 := fun W => run_cutSlHAt (A := A5) (n := 32) (c := c5) (m := q) (h := (q : Int)) rfl (by have := Hq.out; have := R5.out.cap; omega) W
      have Q5 := Lib.hid (R5.out.take (k := q) Hq.out)
      go_wp2_with (at_builtin; refine append_rd rfl (.tmp 42) (.tmp 51) rfl (g + 1) _ m _ rfl W5.out A5 q c5 _ rfl Q5.out (by have := HN2.out; omega) O5.out.lt ?_; intro v6 w6 own6 g6; rw [EN.out] at own6; have OW6 := Lib.hid own6; have B6 := Lib.hid (B5.out.grown g6 B5.out.size (fun k h => by have := (W5.out.lt k h).1; have := G1.out; omega)); have O6 := Lib.hid (O5.out.only g6 (fun h => own_free W5.out (Nat.lt_succ_self g) h.symm)); clear own6)
      go_roundw
      case rel => exact ⟨j + 1, m + q, by omega, by go_num, Hm2, OW6.out, B6, O6⟩
      case measure => simp [intOf]; omega
    · have i0' : ¬ (m : Int) < (N : Int) := by omega
      have hmN : m = N := by have := hm.out; omega
      have hPZ := PZ.out j (by have := hm.out; omega)
      subst hmN
      clear own hlt hm
      go_wp2
      go_ret
      have R6 := Rd.own OW.out
      rw [hPZ] at R6
      exact ⟨A0, c0, by rw [ZL.out]; rfl, by rw [ZL.out]; exact R6, HB.out⟩
set_option maxHeartbeats 4000000 in
theorem mask_1 (At : Option Addr) (nt ct : Nat) (text : List UInt8) (N : Nat) (w : World) (hg : GK w) (h2 : Rd w At nt ct text) (hnt : nt ≤ 100000) (hN : N ≤ 65536) :
    Calls Tryd.prog 16 #[.int .i64 1, .slice At nt ct, .int .i64 (N : Int)] w (Gives w.heap.size w (maskK 1 text (N : Int))) := by
  obtain ⟨i0, hi, hz0, hz1, hz2⟩ := info_parts Tryd.infoU8
  have ML := Lib.hid (show (maskK 1 text (N : Int)).length = N from maskK_length 1 text (N : Int) (by decide) (by omega) (by omega))
  have MP := Lib.hid (show ∀ m, N ≤ m * 64 → maskK 1 text (N : Int) = (pts 1 text m).take N from fun m hm => maskK_parts 1 text (N : Int) (by decide) (by omega) (by omega) m (by rw [Int.toNat_natCast]; exact hm))
  obtain ⟨V, hV⟩ : ∃ V : Nat → List UInt8, V = fun j => sumK 1 (text ++ putL j 4) := ⟨_, rfl⟩
  obtain ⟨PT, hPT⟩ : ∃ PT : Nat → List UInt8, PT = fun j => (pts 1 text j).take N := ⟨_, rfl⟩
  obtain ⟨Z, hZ⟩ : ∃ Z, Z = maskK 1 text (N : Int) := ⟨_, rfl⟩
  have VL := Lib.hid (show ∀ j, (V j).length = 64 from fun j => by rw [hV]; exact sumK_length 1 _)
  have P0 := Lib.hid (show PT 0 = [] by rw [hPT]; simp [pts])
  have PN := Lib.hid (show ∀ j m q, m = j * 64 → m < N → q = min 64 (N - m) → PT j ++ (V j).take q = PT (j + 1) from fun j m q h1 h2 h3 => by rw [hPT, hV]; exact mask_next 1 text 64 N j m q rfl h1 h2 h3)
  have PZ := Lib.hid (show ∀ j, N ≤ j * 64 → PT j = Z from fun j h => by rw [hPT, hZ]; exact (MP.out j h).symm)
  have ZL := Lib.hid (show Z.length = N by rw [hZ]; exact ML.out)
  have TL := Lib.hid h2.len
  have HG := Lib.hid hg
  have HP := Lib.hid (show ∀ (j : Nat) (W : World), j ≤ 65536 → Calls Tryd.prog 25 #[.int .u64 (j : Int), .int .i64 4] W (New W.heap.size W (putL j 4)) from fun j W h => put_any j 4 W (by omega) (by omega))
  have HS := Lib.hid (show ∀ (j : Nat) (A : Option Addr) (W : World), GK W → RdBs W A 2 2 [text, putL j 4] → Calls Tryd.prog 31 #[.slice A 2 2] W (New W.heap.size W (V j)) from fun j A W g h => by
    have := parts_sum A 2 2 [text, putL j 4] W g h (by simp [putL_length]; have := TL.out; omega)
    rw [hV]
    simpa using this)
  have PL := Lib.hid (show ∀ j, (putL j 4).length = 4 from fun j => putL_length j 4)
  rw [← hZ]
  have T0 := Lib.hid h2
  have q2 : decide ((N : Int) < 0) = false := decide_eq_false (by omega)
  have q3 : decide (65536 < (N : Int)) = false := decide_eq_false (by omega)
  clear hg h2 hnt hV hPT hZ ML MP
  go_enter Tryd.func16, Tryd.ntmps16
  go_upto_region 4 with (first
    | (go_at_call 20; ((with_reducible refine (find_1 _).mono ?_); rintro e w1 ⟨rfl, b1⟩; have B1 := Lib.hid (b1.alloc b1.size (.cells (kA 64 128 31) 40)); have T1 := Lib.hid ((T0.out.below b1).alloc (.cells (kA 64 128 31) 40)); have O1 := Lib.hid (Bk.new w1 40 (kA 64 128 31)); have G1 := Lib.hid b1.size; have S1 := Lib.hid (World.size_alloc w1 (.cells (kA 64 128 31) 40)); clear b1)))
  obtain ⟨wk, hwk⟩ : ∃ wk, w1.alloc (.cells (kA 64 128 31) 40) = wk := ⟨_, rfl⟩
  obtain ⟨g, hgk⟩ : ∃ g, g = w1.heap.size := ⟨_, rfl⟩
  rw [hwk] at B1 T1 O1 S1 ⊢
  rw [← hgk] at O1 G1 S1 ⊢
  clear hwk hgk q2 q3
  go_wp2_with (at_make; refine wpList_make_own _ rfl _ _ 22 rfl (g + 1) 5 i0 (.int .u8 0) 1 Tryd.underlying22 hi hz0 hz1 _ _ _ N rfl rfl rfl (by rw [hz2]; omega) (by unfold maxLen; omega) (by rw [S1.out]; exact Nat.le_refl _) ?_)
  intro w2 own2 g2
  have B2 := Lib.hid (B1.out.grown g2 B1.out.size (fun k h => by cases h))
  have T2 := Lib.hid (Rd.apart T1.out g2 (fun a _ h => by cases h))
  have O2 := Lib.hid (O1.out.only g2 (by simp))
  clear g2
  go_wp2
  go_loopw [9, 10, 11] (fun out i _ wr => ∃ j m : Nat, j ≤ N ∧ i = .int .u64 (j : Int) ∧ Hid (m = min (j * 64) N) ∧ wr.ownsRow (g + 1) 5 1 out m (bv (PT j)) ∧ Hid (Below w.heap.size w wr) ∧ Hid (Bk wr g 40 (kA 64 128 31)) ) (fun _ i _ _ => N - (intOf i).toNat)
  case atStart => exact ⟨0, 0, by omega, rfl, by show _ = _; omega, by rw [P0.out]; simpa [bv] using own2, B2, O2⟩
  case round =>
    obtain ⟨j, m, hj, rfl, hm, own, HB, HO⟩ := hrel
    have HT := Lib.hid (T0.out.below HB.out)
    obtain ⟨A0, c0, rfl⟩ := own_form own
    have OW := Lib.hid own
    by_cases hlt : m < N
    · have hmj : m = j * 64 := by have := hm.out; omega
      have hjN : j < N := by omega
      have i0' : (m : Int) < (N : Int) := by omega
      obtain ⟨q, hq⟩ : ∃ q, q = min 64 (N - m) := ⟨_, rfl⟩
      have hsub : IntKind.i64.wrap ((N : Int) - (m : Int)) = (N : Int) - (m : Int) := by rw [IntKind.wrap_i64]; omega
      have hmin := fun (W : World) (ts : Array TypeId) (t : TypeId) => run_min2b (P := Tryd.prog) ts t .i64 64 ((N : Int) - (m : Int)) (q : Int) (by omega) W
      have hjw : IntKind.u64.wrap ((j : Int) + 1) = (j : Int) + 1 := by rw [IntKind.wrap_u64]; omega
      have EN := Lib.hid (PN.out j m q hmj hlt hq)
      have Hq := Lib.hid (show q ≤ 64 by omega)
      have Hm2 := Lib.hid (show m + q = min ((j + 1) * 64) N by omega)
      have HN2 := Lib.hid (show m + q ≤ 65536 by omega)
      have HJ := Lib.hid (show j ≤ 65536 by omega)
      clear own hm hmj hq
      have kc := keepK HO.out
      go_wp2
      have BD := Lib.hid HB.out.drew
      have OD := Lib.hid HO.out.drew
      have TD := Lib.hid HT.out.drew
      have WD := Lib.hid (own_below OW.out (Below.refl wr.heap.size wr).drew)
      clear kc
      first
      | (go_region_held3 (fun w' => w'.cell? ⟨g, 2, none⟩ = some (.func (.func 31) #[] #[]))
          (first
            | exact keepK O5.out
            | exact keepK (O4.out.alloc _)
            | exact keepK O4.out
            | exact keepK OD.out)
          (first
            | (go_at_call 25; ((with_reducible refine (HP.out j _ HJ.out).mono ?_); intro e w4 h4; obtain ⟨A4, c4, rfl, r4, b4⟩ := new_len h4; rw [PL.out] at r4; rw [PL.out]; have R4 := Lib.hid (RdBs.two (T := 22) (TD.out.below b4) r4 _ rfl); have B4 := Lib.hid (BD.out.trans (b4.mono BD.out.size)); have O4 := Lib.hid (OD.out.below b4 OD.out.lt); have W4 := Lib.hid (own_below WD.out b4); have T4 := Lib.hid (TD.out.below b4); clear h4 r4 b4))
            | (go_at_call 31; ((with_reducible refine (HS.out j _ _ (HG.out.below (Nat.le_refl _) (B4.out.alloc B4.out.size _)) R4.out).mono ?_); intro e w5 h5; obtain ⟨A5, c5, rfl, r5, b5⟩ := new_len h5; rw [VL.out] at r5; rw [VL.out]; have R5 := Lib.hid r5; have B5 := Lib.hid ((B4.out.alloc B4.out.size (.cells #[.slice At nt ct, .slice A4 4 c4] 22)).trans (b5.mono (by have := B4.out.size; simp; omega))); have O5 := Lib.hid ((O4.out.alloc (.cells #[.slice At nt ct, .slice A4 4 c4] 22)).below b5 (by have := O4.out.lt; simp; omega)); have W5 := Lib.hid (own_below (own_below W4.out ((Below.refl _ _).alloc (Nat.le_refl _) (.cells #[.slice At nt ct, .slice A4 4 c4] 22))) b5); have T5 := Lib.hid ((T4.out.alloc (.cells #[.slice At nt ct, .slice A4 4 c4] 22)).below b5); clear h5 r5 b5))
            | fail))
      | fail
      have kc := keep0 O5.out
      have hcut := fun W => run_cutSlH (A := A5) (n := 64) (c := c5) (m := q) (h := (q : Int)) rfl (by have := Hq.out; have := R5.out.cap; omega) W
      have hcut2 := fun W => run_cutSlHAt (A := A5) (n := 64) (c := c5) (m := q) (h := (q : Int)) rfl (by have := Hq.out; have := R5.out.cap; omega) W
      have Q5 := Lib.hid (R5.out.take (k := q) Hq.out)
      go_wp2_with (at_builtin; refine append_rd rfl (.tmp 42) (.tmp 51) rfl (g + 1) _ m _ rfl W5.out A5 q c5 _ rfl Q5.out (by have := HN2.out; omega) O5.out.lt ?_; intro v6 w6 own6 g6; rw [EN.out] at own6; have OW6 := Lib.hid own6; have B6 := Lib.hid (B5.out.grown g6 B5.out.size (fun k h => by have := (W5.out.lt k h).1; have := G1.out; omega)); have O6 := Lib.hid (O5.out.only g6 (fun h => own_free W5.out (Nat.lt_succ_self g) h.symm)); clear own6)
      go_roundw
      case rel => exact ⟨j + 1, m + q, by omega, by go_num, Hm2, OW6.out, B6, O6⟩
      case measure => simp [intOf]; omega
    · have i0' : ¬ (m : Int) < (N : Int) := by omega
      have hmN : m = N := by have := hm.out; omega
      have hPZ := PZ.out j (by have := hm.out; omega)
      subst hmN
      clear own hlt hm
      go_wp2
      go_ret
      have R6 := Rd.own OW.out
      rw [hPZ] at R6
      exact ⟨A0, c0, by rw [ZL.out]; rfl, by rw [ZL.out]; exact R6, HB.out⟩
theorem mask_none (k : Int) (At : Option Addr) (nt ct : Nat) (text : List UInt8) (n : Int) (w : World) (hk : k < 0 ∨ 2 ≤ k) (hb : blK k = 0) :
    Calls Tryd.prog 16 #[.int .i64 k, .slice At nt ct, .int .i64 n] w (Gives w.heap.size w (maskK k text n)) := by
  have e : maskK k text n = [] := by simp [maskK, hb]
  rw [e]
  have HF := Lib.hid (show ∀ W, _ from fun W => find_none k W hk)
  clear hk hb e
  go_enter Tryd.func16, Tryd.ntmps16
  go_wp2_with (go_at_call 20; ((with_reducible refine (HF.out _).mono ?_); rintro e w1 ⟨rfl, b1⟩; have B1 := Lib.hid b1; clear b1))
  go_ret
  exact ⟨none, 0, rfl, Rd.nil_ _, B1.out.alloc B1.out.size _⟩
theorem mask_out (k : Int) (At : Option Addr) (nt ct : Nat) (text : List UInt8) (n : Int) (w : World) (v : Value) (hf : ∀ W, Calls Tryd.prog 20 #[.int .i64 k] W fun e w' => e = .returned (.tuple #[v, .bool true]) ∧ Below W.heap.size W w')
    (hv : ∃ sz bl F, v = .agg (kA sz bl F)) (h : n < 0 ∨ 65536 < n) :
    Calls Tryd.prog 16 #[.int .i64 k, .slice At nt ct, .int .i64 n] w (Gives w.heap.size w (maskK k text n)) := by
  have e : maskK k text n = [] := by unfold maskK; rw [if_pos (by omega)]
  rw [e]
  have HF := Lib.hid hf
  obtain ⟨sz, bl, F, rfl⟩ := hv
  clear hf e
  rcases h with h | h
  · have q2 : decide (n < 0) = true := decide_eq_true h
    go_enter Tryd.func16, Tryd.ntmps16
    go_wp2_with (go_at_call 20; ((with_reducible refine (HF.out _).mono ?_); rintro e w1 ⟨rfl, b1⟩; have B1 := Lib.hid b1; clear b1))
    go_ret
    exact ⟨none, 0, rfl, Rd.nil_ _, B1.out.alloc B1.out.size _⟩
  · have q2 : decide (n < 0) = false := decide_eq_false (by omega)
    have q3 : decide (65536 < n) = true := decide_eq_true h
    go_enter Tryd.func16, Tryd.ntmps16
    go_wp2_with (go_at_call 20; ((with_reducible refine (HF.out _).mono ?_); rintro e w1 ⟨rfl, b1⟩; have B1 := Lib.hid b1; clear b1))
    go_ret
    exact ⟨none, 0, rfl, Rd.nil_ _, B1.out.alloc B1.out.size _⟩
theorem mask_any (k : Int) (At : Option Addr) (nt ct : Nat) (text : List UInt8) (n : Int) (w : World) (hg : GK w) (h2 : Rd w At nt ct text) (hnt : nt ≤ 100000) :
    Calls Tryd.prog 16 #[.int .i64 k, .slice At nt ct, .int .i64 n] w (Gives w.heap.size w (maskK k text n)) := by
  rcases kinds k with rfl | rfl | ⟨hk, _, hb⟩
  · by_cases h : n < 0 ∨ 65536 < n
    · exact mask_out 0 At nt ct text n w _ find_0 ⟨_, _, _, rfl⟩ h
    · obtain ⟨N, rfl⟩ := Int.eq_ofNat_of_zero_le (show 0 ≤ n by omega)
      exact mask_0 At nt ct text N w hg h2 hnt (by omega)
  · by_cases h : n < 0 ∨ 65536 < n
    · exact mask_out 1 At nt ct text n w _ find_1 ⟨_, _, _, rfl⟩ h
    · obtain ⟨N, rfl⟩ := Int.eq_ofNat_of_zero_le (show 0 ≤ n by omega)
      exact mask_1 At nt ct text N w hg h2 hnt (by omega)
  · exact mask_none k At nt ct text n w hk hb
end Go.Proofs.YtjgcaodicbikiaaDoor.S6
