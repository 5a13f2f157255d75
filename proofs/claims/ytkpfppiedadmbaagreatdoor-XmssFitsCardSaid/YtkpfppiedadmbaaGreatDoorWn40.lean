/-
  Texts put together: XmM. No statement is proved here.
-/
import Derived.Test.YtkpfppiedadmbaaGreatDoorWn36
import Derived.Test.YtkpfppiedadmbaaGreatDoorWn39

/-
  The landed package xmss: a signature. No statement is proved here. (Written by genxmm.py.)
-/
namespace Go.Proofs.YtkpfppiedadmbaaGreatDoor.S16
set_option linter.unusedSimpArgs false
set_option linter.unusedVariables false
set_option maxRecDepth 4096
open Go.RowKit Go.Shelf S15 RD
attribute [local go_sem] Oper.semAt_some

set_option maxHeartbeats 16000000 in
theorem sign_may16 (sec salt sd : List UInt8) (l k : Nat) (As : Option Addr) (cs : Nat) (Al : Option Addr) (cl : Nat) (Ae : Option Addr) (ce : Nat) (n : Nat) (At : Option Addr) (nt ct : Nat) (text : List UInt8) (w : World) (hk : GK w) (hs : Rd w As 32 cs sec) (hl : Rd w Al 32 cl salt) (he : Rd w Ae 32 ce sd) (ht : Rd w At nt ct text)
    (hm : madeX l k 32 32 32 = true) (h0 : 0 < l) (h1 : l < 13) (h0k : 0 < k) (h2 : k < 21) (h3 : l * k ≤ 60) (h6 : k ≤ 6) (hnt : nt ≤ 65536) (hn : n < totN l k) :
    Calls Tryz.prog 7 #[.agg (shA l k), .agg (mkA As 32 cs Al 32 cl Ae 32 ce), .int .u64 (n : Int), .slice At nt ct] w (GivesS w (sigN sec salt sd l k n text) 0) := by
  have CM := Lib.hid (show ∀ X, Calls Tryz.prog 20 #[.agg #[.int .i64 (l : Int), .int .i64 (k : Int)], .agg #[.slice As 32 cs, .slice Al 32 cl, .slice Ae 32 ce]] X (GivesB true X) from fun X => by rw [← hm]; exact canMake_any l k As 32 cs Al 32 cl Ae 32 ce X)
  obtain ⟨T, hT⟩ : ∃ T, T = totN l k := ⟨_, rfl⟩
  have HTT := Lib.hid (show ∀ X, Calls Tryz.prog 17 #[.agg #[.int .i64 (l : Int), .int .i64 (k : Int)]] X (GivesV (.int .u64 (T : Int)) X) from fun X => by rw [hT, totN, ← totX_may (madeX_iff.1 hm).1 rfl]; exact tot_any l k X)
  have n64 : n < 18446744073709551616 := by
    have q1 : 2 ^ (l * k) ≤ 2 ^ 60 := Nat.pow_le_pow_right (by omega) h3
    have q2 : (2 : Nat) ^ 60 = 1152921504606846976 := rfl
    unfold totN at hn
    omega
  rw [← hT] at hn
  have t2 : ¬ (65536 : Int) < (nt : Int) := by omega
  have t3 : (n : Int) < (T : Int) := by omega
  have t3' : ¬ (T : Int) ≤ (n : Int) := by omega
  have GRC := Lib.hid (show ∀ X (ly tr : Nat), Below w.heap.size w X → ly < 13 → tr < 18446744073709551616 → Calls Tryz.prog 22 #[.agg #[.int .i64 (l : Int), .int .i64 (k : Int)], .agg #[.slice As 32 cs, .slice Al 32 cl, .slice Ae 32 ce], .int .u32 (ly : Int), .int .u64 (tr : Int)] X (GivesT sec sd ly tr k X) from fun X ly tr hX hly htr => grow_any sec salt sd l k ly tr h6 (by omega) htr As cs Al cl Ae ce X (hk.bel hX) (hs.below hX) (hl.below hX) (he.below hX))
  have SGC := Lib.hid (show ∀ X (ly tr q : Nat) (A : Option Addr) (c : Nat) (ys : List UInt8), Below w.heap.size w X → ly < 13 → tr < 18446744073709551616 → q < 4294967296 → Rd X A 32 c ys → Calls Tryz.prog 28 #[.agg #[.slice As 32 cs, .slice Al 32 cl, .slice Ae 32 ce], .int .u32 (ly : Int), .int .u64 (tr : Int), .int .u32 (q : Int), .slice A 32 c] X (New X.heap.size X (signL sec sd (adQ ly tr q) ys)) from fun X ly tr q A c ys hX hly htr hq hr => sign_may As cs sec Al cl Ae ce sd ly tr q A c ys X (hk.bel hX) (hs.below hX) (he.below hX) hr (by omega) htr hq)
  have BYC := Lib.hid (show ∀ X, Calls Tryz.prog 24 #[.int .u64 (n : Int)] X (New X.heap.size X (longL n)) from fun X => bytesOf_any n n64 X)
  have PRC := Lib.hid (show ∀ X (A : Option Addr) (c : Nat), Below w.heap.size w X → Rd X A 32 c (longL n) → Calls Tryz.prog 23 #[.slice Al 32 cl, .slice A 32 c] X (New X.heap.size X (prfL salt (longL n))) from fun X A c hX hr => prf_any Al 32 cl salt A 32 c _ X (hk.bel hX) (hl.below hX) hr (by omega) (by omega))
  obtain ⟨slt, hslt⟩ : ∃ slt, slt = prfL salt (longL n) := ⟨_, rfl⟩
  have hsl32 : slt.length = 32 := by rw [hslt]; exact num_len _ _ _
  rw [← hslt] at PRC
  obtain ⟨rt, hrt⟩ : ∃ rt, rt = sumT sec sd (l - 1) 0 k 0 := ⟨_, rfl⟩
  obtain ⟨tx, htx⟩ : ∃ tx, tx = textL slt rt n text := ⟨_, rfl⟩
  have htx32 : tx.length = 32 := by rw [htx]; exact num_len _ _ _
  have TSC := Lib.hid (show ∀ X (A : Option Addr) (c : Nat) (A' : Option Addr) (c' : Nat), Below w.heap.size w X → Rd X A 32 c slt → Rd X A' 32 c' rt → Calls Tryz.prog 25 #[.slice A 32 c, .slice A' 32 c', .int .u64 (n : Int), .slice At nt ct] X (New X.heap.size X tx) from fun X A c A' c' hX h h' => by rw [htx]; exact textSum_any A c slt A' c' rt n n64 At nt ct text X (hk.bel hX) h h' (ht.below hX) hnt)
  have PUC := Lib.hid (show ∀ X, Calls Tryz.prog 27 #[.int .u64 (n : Int), .int .i64 8] X (New X.heap.size X (putL n 8)) from fun X => put_any n 8 X (by omega) n64)
  have HSG := Lib.hid (show cat (partR sec slt sd k n tx) (2 + l * (k + 1)) = sigN sec salt sd l k n text by rw [parts_cat, sigN, ← hslt, htx, hrt])
  have HGL := Lib.hid (sig_len sec salt sd l k n text)
  obtain ⟨SG, hSG⟩ : ∃ SG, SG = sigN sec salt sd l k n text := ⟨_, rfl⟩
  rw [← hSG] at HSG HGL ⊢
  have HNT := Lib.hid (show nT k n l = 0 by rw [nT, Nat.mul_comm k l]; exact Nat.div_eq_of_lt (show n < 2 ^ (l * k) by have := hn; rw [hT] at this; exact this))
  have HL := Lib.hid (show 0 < l ∧ l < 13 ∧ 0 < k ∧ k < 21 ∧ k ≤ 6 from ⟨h0, h1, h0k, h2, h6⟩)
  have HN64 := Lib.hid n64
  have HRT := Lib.hid hrt
  have HS32 := Lib.hid hsl32
  have HT32 := Lib.hid htx32
  have HL32 := Lib.hid (long_len n)
  have HP8 := Lib.hid (putL_length n 8)
  have hz := size_small h1 h2
  have HZ := Lib.hid (show sizeN l k ≤ 100000 by unfold sizeN; omega)
  have hl1 : wrap64 ((l : Int) - 1) = ((l - 1 : Nat) : Int) := by unfold wrap64; omega
  obtain ⟨l1, hl1'⟩ : ∃ l1, l1 = l - 1 := ⟨_, rfl⟩
  rw [← hl1'] at HRT
  have HL1 := Lib.hid hl1'
  have tl1 : (l : Int) - 1 = (l1 : Int) := by omega
  have tl2 : (l1 : Int) < (l : Int) := by omega
  have tl3 : wrap64 (l1 : Int) = (l1 : Int) := by unfold wrap64; omega
  clear hl1 hl1' hz hSG htx32 hsl32 hslt hrt htx n64 hn hT hm h0 h1 h0k h2 h3 h6 hk hs hl he ht hnt
  obtain ⟨iA, hiA, hz0, hz1, hz2⟩ := info_parts Tryz.infoRows
  have HIA := Lib.hid hiA
  obtain ⟨iS, hiS, hy0, hy1, hy2⟩ := info_parts Tryz.infoSums
  have HIS := Lib.hid hiS
  clear hiA hiS
  obtain ⟨g, hg⟩ : ∃ g, w.heap.size = g := ⟨_, rfl⟩
  obtain ⟨m1, m2, b0⟩ := sh_m (w := w) (L := l) (H := k) (As := As) (ns := 32) (cs := cs) (Al := Al) (nl := 32) (cl := cl) (Ae := Ae) (ne := 32) (ce := ce) hg
  obtain ⟨w0, hw0⟩ : ∃ w0, (w.alloc (.cells (shA l k) 23)).alloc (.cells (mkA As 32 cs Al 32 cl Ae 32 ce) 26) = w0 := ⟨_, rfl⟩
  rw [hw0] at m1 m2 b0
  obtain ⟨k0, k1, k2, k3, k4⟩ := cells5 m1 m2
  have B0 := Lib.hid b0
  have M0 := Lib.hid m1
  have G0 := Lib.hid m2
  have HGS := Lib.hid hg
  clear m1 m2 b0
  have hmix : Tryz.prog.follows .mixedOrders = true := by kernel_rfl
  refine (callsIn_wide (n := 3)).1 ?_
  refine callsIn_of_wp_marks Tryz.func7 rfl trivial ?_ rfl
  simp only [Tryz.ntmps7, List.size_toArray, List.length_cons, List.length_nil, Nat.reduceAdd, Nat.reduceSub, Array.replicate_succ, Array.replicate_zero, List.push_toArray, List.append_toArray, List.nil_append, List.cons_append]
  refine wpIn_wide.2 ?_
  go_upto_region 1 with (fail)
  clear hw0 hg
  go_upto_region 5 with (first
    | (go_at_call 20; ((with_reducible refine (CM.out _).mono ?_); rintro e w1 ⟨rfl, b1⟩; have B1 := Lib.hid (B0.out.trans (b1.mono B0.out.size)); have M1 := Lib.hid (M0.out.below b1 M0.out.lt); have G1 := Lib.hid (G0.out.below b1 G0.out.lt); obtain ⟨j0, j1, j2, j3, j4⟩ := cells5 M1.out G1.out; clear b1))
    | (go_at_call 17; ((with_reducible refine (HTT.out _).mono ?_); rintro e w2 ⟨rfl, b2⟩; have B2 := Lib.hid (B1.out.trans (b2.mono B1.out.size)); have M2 := Lib.hid (M1.out.below b2 M1.out.lt); have G2 := Lib.hid (G1.out.below b2 G1.out.lt); clear b2)))
  clear k0 k1 k2 k3 k4 j0 j1 j2 j3 j4
  obtain ⟨d1, hd1⟩ : ∃ d1, w2.heap.size = d1 := ⟨_, rfl⟩
  obtain ⟨w3, hw3⟩ : ∃ w3, w2.alloc (.cells #[.slice none 0 0] 47) = w3 := ⟨_, rfl⟩
  have T3 := Lib.hid (show Bk w3 d1 47 #[.slice none 0 0] by rw [← hw3]; exact Bk.newAt _ _ _ _ hd1)
  have B3 := Lib.hid (show Below w.heap.size w w3 by rw [← hw3]; exact B2.out.alloc B2.out.size _)
  have M3 := Lib.hid (show Bk w3 g 23 (shA l k) by rw [← hw3]; exact M2.out.alloc _)
  have G3 := Lib.hid (show Bk w3 (g + 1) 26 (mkA As 32 cs Al 32 cl Ae 32 ce) by rw [← hw3]; exact G2.out.alloc _)
  have L3 := Lib.hid (show g + 1 < d1 by rw [← hd1]; exact G2.out.lt)
  have hs3 : w3.heap.size = d1 + 1 := by rw [← hw3, ← hd1]; simp
  go_upto_region 6 with (fail)
  first
    | rw [hw3, hd1]
    | rw [hd1]
    | skip
  clear hw3 hd1
  obtain ⟨j0, j1, j2, j3, j4⟩ := cells5 M3.out G3.out
  obtain ⟨wL, hwL⟩ : ∃ wL, (w3.alloc (.cells (shA l k) 23)).alloc (.cells #[.int .u64 (n : Int)] 27) = wL := ⟨_, rfl⟩
  have HPL := Lib.hid (show Calls Tryz.prog 21 #[.agg #[.int .i64 (l : Int), .int .i64 (k : Int)], .int .u64 (n : Int)] w3 fun e w' => e = .returned (.func (.func 53) #[] #[.pointer (some ⟨d1 + 1, 0, none⟩), .pointer (some ⟨d1 + 2, 0, none⟩)]) ∧ w' = wL from by
    have h9 := places_any l k n w3
    rw [hs3, hwL] at h9
    exact h9)
  have BXL := Lib.hid (show Bk wL (d1 + 1) 23 (shA l k) by rw [← hwL, ← hs3]; exact (Bk.new _ _ _).alloc _)
  have BNL := Lib.hid (show Bk wL (d1 + 2) 27 #[.int .u64 (n : Int)] by rw [← hwL]; exact Bk.newAt _ _ _ _ (by simp [hs3]))
  have HBB := Lib.hid (show Below w3.heap.size w3 wL by rw [← hwL]; exact ((Below.refl _ _).alloc (Nat.le_refl _) _).alloc (by simp) _)
  have HSL := Lib.hid (show wL.heap.size = d1 + 3 by rw [← hwL]; simp [hs3])
  clear hwL hs3
  go_wp2_with (go_at_call 21; ((with_reducible refine HPL.out.mono ?_); rintro e w4 ⟨rfl, h4⟩; obtain rfl := h4.symm))
  have BL := Lib.hid (B3.out.trans (HBB.out.mono B3.out.size))
  have ML := Lib.hid (M3.out.below HBB.out M3.out.lt)
  have GL := Lib.hid (G3.out.below HBB.out G3.out.lt)
  have TL := Lib.hid (T3.out.below HBB.out T3.out.lt)
  clear j0 j1 j2 j3 j4
  refine (wpIn_wide (n := 3)).1 ?_
  refine RD.range_box (m := 3) (N := l) (bn := d1 + 2) (gf := 53) (lb := #[.pointer (some ⟨d1 + 1, 0, none⟩), .pointer (some ⟨d1 + 2, 0, none⟩)]) (encs := fun j => #[.agg (plN k n j)]) rfl (enters_of Tryz.func53 (by kernel_rfl) rfl)
    (places_it 2 (by omega) (d1 + 1) (d1 + 2) l k n HL.out.2.1 HL.out.2.2.2.1 HN64.out) (fun _ => rfl) (by rw [HSL.out]; omega)
    (fun j z X => TI w wL sec sd k n d1 (d1 + 2) j z X) (TI.own BL.out.size) (fun j z X h => ⟨h.ke.bk BXL.out (by rw [HSL.out]; omega) (by omega), h.box⟩) ?h0 (fun j => .cells (plN k n j) 52) ?a1 ?assign ?body ?done
  case h0 =>
    intro z _
    exact ⟨KX.refl _, BL.out, by rw [nT_zero]; exact BNL.out, .slice none 0 0, [], TL.out, Gr.nil_ _ _ _ _, fun b hb => by simp [Value.ownBlock] at hb⟩
  case assign =>
    intro lp j t W K ht hK
    gi_wp2
    exact hK
  case body =>
    intro lp j z t W hI hzt ht hwz hj
    obtain ⟨v, vs, h1, h2, h3⟩ := hI.got
    have htt : Bk W t 52 (plN k n j) := ht
    obtain ⟨tr, htr⟩ : ∃ tr, tr = nT k n (j + 1) := ⟨_, rfl⟩
    obtain ⟨q, hq⟩ : ∃ q, q = nT k n j % 2 ^ k := ⟨_, rfl⟩
    have hpl : plN k n j = plA j tr q := by rw [htr, hq]
    rw [hpl] at htt
    have htr64 : tr < 18446744073709551616 := by rw [htr]; exact Nat.lt_of_le_of_lt (Nat.div_le_self _ _) HN64.out
    have HI := Lib.hid hI
    have T0 := Lib.hid htt
    have HE := Lib.hid h1
    have HR := Lib.hid h2
    have HV := Lib.hid h3
    have HTR := Lib.hid htr
    have HTW := Lib.hid (show d1 + 3 ≤ z ∧ z ≤ t ∧ t < W.heap.size from ⟨by have := HSL.out; omega, hzt, htt.lt⟩)
    have HJ := Lib.hid hj
    have MW := Lib.hid (hI.ke.bk ML.out (by have := HSL.out; have := L3.out; omega) (by have := L3.out; omega))
    have GW := Lib.hid (hI.ke.bk GL.out (by have := HSL.out; have := L3.out; omega) (by have := L3.out; omega))
    have HVW := Lib.hid (show ∀ b, v.ownBlock = some b → d1 + 3 ≤ b from fun b e => by have := (h2.own.lt b e).1; have := HSL.out; omega)
    have LK := Lib.hid (show ∀ X, KX W.heap.size (fun b => b = d1 ∨ v.ownBlock = some b) W X → X.cell? ⟨g, 0, none⟩ = some (.int .i64 (l : Int)) ∧ X.cell? ⟨g, 1, none⟩ = some (.int .i64 (k : Int)) ∧ X.cell? ⟨g + 1, 0, none⟩ = some (.slice As 32 cs) ∧ X.cell? ⟨g + 1, 1, none⟩ = some (.slice Al 32 cl) ∧ X.cell? ⟨g + 1, 2, none⟩ = some (.slice Ae 32 ce) ∧ X.cell? ⟨t, 0, none⟩ = some (.int .u32 (j : Int)) ∧ X.cell? ⟨t, 1, none⟩ = some (.int .u64 (tr : Int)) from fun X hX => by
      have q1 := hX.bk MW.out MW.out.lt (by
        rintro (e | e)
        · have := L3.out; omega
        · have := HVW.out _ e; have := L3.out; omega)
      have q2 := hX.bk GW.out GW.out.lt (by
        rintro (e | e)
        · have := L3.out; omega
        · have := HVW.out _ e; have := L3.out; omega)
      have q3 := hX.bk T0.out T0.out.lt (by
        rintro (e | e)
        · have := HTW.out; omega
        · have := HV.out _ e; have := HTW.out; omega)
      exact ⟨q1.cell 0, q1.cell 1, q2.cell 0, q2.cell 1, q2.cell 2, q3.cell 0, q3.cell 1⟩)
    have HS0 := Lib.hid (LK.out _ (KX.bel (Below.refl _ _).drew (Nat.le_refl _)))
    have e0 : W.drew.cell? ⟨d1, 0, none⟩ = some v := by have := HE.out.drew.cell 0; simpa using this
    have BW := Lib.hid hI.bel
    have HWL := Lib.hid (show wL.heap.size ≤ W.heap.size from hI.ke.size)
    clear h1 h2 h3 hI htt ht hpl htr hq hzt hwz
    gi_wp2_with (fail)
    refine RD.h_begin (fun X => X.cell? ⟨g, 0, none⟩ = some (.int .i64 (l : Int)) ∧ X.cell? ⟨g, 1, none⟩ = some (.int .i64 (k : Int)) ∧ X.cell? ⟨g + 1, 0, none⟩ = some (.slice As 32 cs) ∧ X.cell? ⟨g + 1, 1, none⟩ = some (.slice Al 32 cl) ∧ X.cell? ⟨g + 1, 2, none⟩ = some (.slice Ae 32 ce) ∧ X.cell? ⟨t, 0, none⟩ = some (.int .u32 (j : Int)) ∧ X.cell? ⟨t, 1, none⟩ = some (.int .u64 (tr : Int))) 11 (by kernel_rfl) ?_ (by kernel_rfl) rfl ?_
    · rintro ⟨_, _, h, _⟩
      cases h
    refine RD.h_take 1 (.agg #[.int .i64 (l : Int), .int .i64 (k : Int)]) rfl (by kernel_rfl) (by kernel_rfl) (by kernel_rfl) (fun _ _ _ h => h) (by rfl) HS0.out (fun X hX => ?_) ?_
    · obtain ⟨h0, h1, h2, h3, h4, h5, h6⟩ := hX
      go_simp
    simp only [Act.put, List.setIfInBounds_toArray, List.set_cons_zero, List.set_cons_succ]
    refine RD.h_take 2 (.agg #[.slice As 32 cs, .slice Al 32 cl, .slice Ae 32 ce]) rfl (by kernel_rfl) (by kernel_rfl) (by kernel_rfl) (fun _ _ _ h => h) (by rfl) HS0.out (fun X hX => ?_) ?_
    · obtain ⟨h0, h1, h2, h3, h4, h5, h6⟩ := hX
      go_simp
    simp only [Act.put, List.setIfInBounds_toArray, List.set_cons_zero, List.set_cons_succ]
    refine RD.h_take 3 (.pointer (some ⟨t, 0, none⟩)) rfl (by kernel_rfl) (by kernel_rfl) (by kernel_rfl) (fun _ _ _ h => h) (by rfl) HS0.out (fun X hX => ?_) ?_
    · obtain ⟨h0, h1, h2, h3, h4, h5, h6⟩ := hX
      go_simp
    simp only [Act.put, List.setIfInBounds_toArray, List.set_cons_zero, List.set_cons_succ]
    refine RD.h_take 4 (.int .u32 (j : Int)) rfl (by kernel_rfl) (by kernel_rfl) (by kernel_rfl) (fun _ _ _ h => h) (by rfl) HS0.out (fun X hX => ?_) ?_
    · obtain ⟨h0, h1, h2, h3, h4, h5, h6⟩ := hX
      go_simp
    simp only [Act.put, List.setIfInBounds_toArray, List.set_cons_zero, List.set_cons_succ]
    refine RD.h_take 5 (.pointer (some ⟨t, 1, none⟩)) rfl (by kernel_rfl) (by kernel_rfl) (by kernel_rfl) (fun _ _ _ h => h) (by rfl) HS0.out (fun X hX => ?_) ?_
    · obtain ⟨h0, h1, h2, h3, h4, h5, h6⟩ := hX
      go_simp
    simp only [Act.put, List.setIfInBounds_toArray, List.set_cons_zero, List.set_cons_succ]
    refine RD.h_take 6 (.int .u64 (tr : Int)) rfl (by kernel_rfl) (by kernel_rfl) (by kernel_rfl) (fun _ _ _ h => h) (by rfl) HS0.out (fun X hX => ?_) ?_
    · obtain ⟨h0, h1, h2, h3, h4, h5, h6⟩ := hX
      go_simp
    simp only [Act.put, List.setIfInBounds_toArray, List.set_cons_zero, List.set_cons_succ]
    refine RD.h_any [0, 7] (by kernel_rfl) (by simp) (RD.two_of ?_ ?_)
    · refine RD.h_run v W.drew rfl (by rfl) (by go_simp) ⟨HS0.out, ?_⟩
      simp only [Act.put, List.setIfInBounds_toArray, List.set_cons_zero, List.set_cons_succ]
      refine RD.h_any [7] (by kernel_rfl) (by simp) (RD.one_of ?_)
      refine RD.h_call 22 #[(.agg #[.int .i64 (l : Int), .int .i64 (k : Int)]), (.agg #[.slice As 32 cs, .slice Al 32 cl, .slice Ae 32 ce]), .int .u32 (j : Int), .int .u64 (tr : Int)] rfl (by rfl) (by go_simp) ((GRC.out W.drew j tr BW.out.drew (by have := HL.out; have := HJ.out; omega) htr64).mono ?_)
      rintro e X1 ⟨A5, c5, rfl, s5, b5⟩
      have S5 := Lib.hid s5
      have B5 := Lib.hid b5
      have E1 := HE.out.drew.below b5 HE.out.drew.lt
      have e1 := E1.cell 0
      simp at e1
      have K1 := Lib.hid ((KX.bel (n := W.heap.size) (E := fun b => b = d1 ∨ v.ownBlock = some b) (Below.refl _ _).drew (Nat.le_refl _)).trans (KX.bel b5 (Nat.le_refl _)))
      have HS1 := Lib.hid (LK.out _ K1.out)
      clear s5 b5
      refine ⟨_, rfl, HS1.out, ?_⟩
      simp only [Act.put, List.setIfInBounds_toArray, List.set_cons_zero, List.set_cons_succ]
      refine RD.h_any [8] (by kernel_rfl) (by simp) (RD.one_of ?_)
      have K2 := Lib.hid (K1.out.trans (KX.bel ((Below.refl _ _).alloc (Nat.le_refl _) (.cells #[.slice A5 (k + 1) c5] 54)) K1.out.size))
      have HS2 := Lib.hid (LK.out _ K2.out)
      refine RD.h_run (.slice (some ⟨X1.heap.size, 0, none⟩) 1 1) (X1.alloc (.cells #[.slice A5 (k + 1) c5] 54)) rfl (by rfl) (by go_simp) ⟨HS2.out, ?_⟩
      simp only [Act.put, List.setIfInBounds_toArray, List.set_cons_zero, List.set_cons_succ]
      refine RD.h_any [9] (by kernel_rfl) (by simp) (RD.one_of ?_)
      refine RD.h_op rfl (step_append_lies _ (by rfl) (.tmp 34) (.tmp 42) 47 (by rfl) wL.heap.size 54 iS _ 1 24 Tryz.underlying47 HIS.out hy0 hy1 hy2 rfl (by omega) v j vs (by rfl) ((own_below HR.out.own.drew B5.out).alloc _) ⟨X1.heap.size, 0, none⟩ 1 1 [.slice A5 (k + 1) c5] (by rfl) (by rfl) (World.news_of_block (heap_alloc_new X1 _)) (by simp [Value.oneCell']) (by omega) (by have := HL.out; have := HJ.out; simp only [maxLen]; omega) (by have := HL.out; have := HJ.out; omega) (by have q1 := B5.out.size; have q2 := HWL.out; have q3 : W.drew.heap.size = W.heap.size := rfl; simp only [World.size_alloc]; omega) (X1.heap.size + 1) (by simp) ?_)
      intro gg cap X3 o3 g3 a3 l3
      have E3 : Bk X3 d1 47 #[v] := ((HE.out.drew.below B5.out HE.out.drew.lt).alloc _).only g3 (fun e => by have := HVW.out _ e.symm; omega)
      have e3 := E3.cell 0
      have f3 := E3.frozen 0
      simp at e3
      have K3 := Lib.hid (K2.out.trans (KX.grown' g3 K2.out.size fun r e => .inr (.inr e)))
      have HS3 := Lib.hid (LK.out _ K3.out)
      have HS4 := Lib.hid (LK.out _ (K3.out.trans (KX.set (.inl rfl) X3 0 (.slice (some ⟨gg, 0, none⟩) (j + 1) cap))))
      have HX := Lib.hid (TI.step (by have := HGS.out; have := L3.out; omega) (by omega) (by have := HSL.out; omega) HI.out (by have := HSL.out; have := HTW.out; omega) (by have := HTW.out; omega) HE.out HR.out HV.out B5.out (by rw [← HTR.out]; exact S5.out) o3 g3 a3 l3)
      clear o3 g3 a3 l3 E3
      refine ⟨HS3.out, ?_⟩
      simp only [Act.put, List.setIfInBounds_toArray, List.set_cons_zero, List.set_cons_succ]
      refine RD.h_any [10] (by kernel_rfl) (by simp) (RD.one_of ?_)
      refine RD.h_skip (X3.setCell ⟨d1, 0, none⟩ (.slice (some ⟨gg, 0, none⟩) (j + 1) cap)) rfl (by rfl) (by go_simp) ⟨HS4.out, ?_⟩
      simp only [Act.put, List.setIfInBounds_toArray, List.set_cons_zero, List.set_cons_succ]
      exact RD.h_done (by kernel_rfl) ⟨rfl, HX.out⟩
    · refine RD.h_call 22 #[(.agg #[.int .i64 (l : Int), .int .i64 (k : Int)]), (.agg #[.slice As 32 cs, .slice Al 32 cl, .slice Ae 32 ce]), .int .u32 (j : Int), .int .u64 (tr : Int)] rfl (by rfl) (by go_simp) ((GRC.out W.drew j tr BW.out.drew (by have := HL.out; have := HJ.out; omega) htr64).mono ?_)
      rintro e X1 ⟨A5, c5, rfl, s5, b5⟩
      have S5 := Lib.hid s5
      have B5 := Lib.hid b5
      have E1 := HE.out.drew.below b5 HE.out.drew.lt
      have e1 := E1.cell 0
      simp at e1
      have K1 := Lib.hid ((KX.bel (n := W.heap.size) (E := fun b => b = d1 ∨ v.ownBlock = some b) (Below.refl _ _).drew (Nat.le_refl _)).trans (KX.bel b5 (Nat.le_refl _)))
      have HS1 := Lib.hid (LK.out _ K1.out)
      clear s5 b5
      refine ⟨_, rfl, HS1.out, ?_⟩
      simp only [Act.put, List.setIfInBounds_toArray, List.set_cons_zero, List.set_cons_succ]
      refine RD.h_any [0, 8] (by kernel_rfl) (by simp) (RD.two_of ?_ ?_)
      · refine RD.h_run v X1 rfl (by rfl) (by go_simp) ⟨HS1.out, ?_⟩
        simp only [Act.put, List.setIfInBounds_toArray, List.set_cons_zero, List.set_cons_succ]
        refine RD.h_any [8] (by kernel_rfl) (by simp) (RD.one_of ?_)
        have K2 := Lib.hid (K1.out.trans (KX.bel ((Below.refl _ _).alloc (Nat.le_refl _) (.cells #[.slice A5 (k + 1) c5] 54)) K1.out.size))
        have HS2 := Lib.hid (LK.out _ K2.out)
        refine RD.h_run (.slice (some ⟨X1.heap.size, 0, none⟩) 1 1) (X1.alloc (.cells #[.slice A5 (k + 1) c5] 54)) rfl (by rfl) (by go_simp) ⟨HS2.out, ?_⟩
        simp only [Act.put, List.setIfInBounds_toArray, List.set_cons_zero, List.set_cons_succ]
        refine RD.h_any [9] (by kernel_rfl) (by simp) (RD.one_of ?_)
        refine RD.h_op rfl (step_append_lies _ (by rfl) (.tmp 34) (.tmp 42) 47 (by rfl) wL.heap.size 54 iS _ 1 24 Tryz.underlying47 HIS.out hy0 hy1 hy2 rfl (by omega) v j vs (by rfl) ((own_below HR.out.own.drew B5.out).alloc _) ⟨X1.heap.size, 0, none⟩ 1 1 [.slice A5 (k + 1) c5] (by rfl) (by rfl) (World.news_of_block (heap_alloc_new X1 _)) (by simp [Value.oneCell']) (by omega) (by have := HL.out; have := HJ.out; simp only [maxLen]; omega) (by have := HL.out; have := HJ.out; omega) (by have q1 := B5.out.size; have q2 := HWL.out; have q3 : W.drew.heap.size = W.heap.size := rfl; simp only [World.size_alloc]; omega) (X1.heap.size + 1) (by simp) ?_)
        intro gg cap X3 o3 g3 a3 l3
        have E3 : Bk X3 d1 47 #[v] := ((HE.out.drew.below B5.out HE.out.drew.lt).alloc _).only g3 (fun e => by have := HVW.out _ e.symm; omega)
        have e3 := E3.cell 0
        have f3 := E3.frozen 0
        simp at e3
        have K3 := Lib.hid (K2.out.trans (KX.grown' g3 K2.out.size fun r e => .inr (.inr e)))
        have HS3 := Lib.hid (LK.out _ K3.out)
        have HS4 := Lib.hid (LK.out _ (K3.out.trans (KX.set (.inl rfl) X3 0 (.slice (some ⟨gg, 0, none⟩) (j + 1) cap))))
        have HX := Lib.hid (TI.step (by have := HGS.out; have := L3.out; omega) (by omega) (by have := HSL.out; omega) HI.out (by have := HSL.out; have := HTW.out; omega) (by have := HTW.out; omega) HE.out HR.out HV.out B5.out (by rw [← HTR.out]; exact S5.out) o3 g3 a3 l3)
        clear o3 g3 a3 l3 E3
        refine ⟨HS3.out, ?_⟩
        simp only [Act.put, List.setIfInBounds_toArray, List.set_cons_zero, List.set_cons_succ]
        refine RD.h_any [10] (by kernel_rfl) (by simp) (RD.one_of ?_)
        refine RD.h_skip (X3.setCell ⟨d1, 0, none⟩ (.slice (some ⟨gg, 0, none⟩) (j + 1) cap)) rfl (by rfl) (by go_simp) ⟨HS4.out, ?_⟩
        simp only [Act.put, List.setIfInBounds_toArray, List.set_cons_zero, List.set_cons_succ]
        exact RD.h_done (by kernel_rfl) ⟨rfl, HX.out⟩
      · have K2 := Lib.hid (K1.out.trans (KX.bel ((Below.refl _ _).alloc (Nat.le_refl _) (.cells #[.slice A5 (k + 1) c5] 54)) K1.out.size))
        have HS2 := Lib.hid (LK.out _ K2.out)
        refine RD.h_run (.slice (some ⟨X1.heap.size, 0, none⟩) 1 1) (X1.alloc (.cells #[.slice A5 (k + 1) c5] 54)) rfl (by rfl) (by go_simp) ⟨HS2.out, ?_⟩
        simp only [Act.put, List.setIfInBounds_toArray, List.set_cons_zero, List.set_cons_succ]
        have e2 : (X1.alloc (.cells #[.slice A5 (k + 1) c5] 54)).cell? ⟨d1, 0, none⟩ = some v := ((E1.alloc _).cell 0).trans (by simp)
        refine RD.h_any [0] (by kernel_rfl) (by simp) (RD.one_of ?_)
        refine RD.h_run v (X1.alloc (.cells #[.slice A5 (k + 1) c5] 54)) rfl (by rfl) (by go_simp) ⟨HS2.out, ?_⟩
        simp only [Act.put, List.setIfInBounds_toArray, List.set_cons_zero, List.set_cons_succ]
        refine RD.h_any [9] (by kernel_rfl) (by simp) (RD.one_of ?_)
        refine RD.h_op rfl (step_append_lies _ (by rfl) (.tmp 34) (.tmp 42) 47 (by rfl) wL.heap.size 54 iS _ 1 24 Tryz.underlying47 HIS.out hy0 hy1 hy2 rfl (by omega) v j vs (by rfl) ((own_below HR.out.own.drew B5.out).alloc _) ⟨X1.heap.size, 0, none⟩ 1 1 [.slice A5 (k + 1) c5] (by rfl) (by rfl) (World.news_of_block (heap_alloc_new X1 _)) (by simp [Value.oneCell']) (by omega) (by have := HL.out; have := HJ.out; simp only [maxLen]; omega) (by have := HL.out; have := HJ.out; omega) (by have q1 := B5.out.size; have q2 := HWL.out; have q3 : W.drew.heap.size = W.heap.size := rfl; simp only [World.size_alloc]; omega) (X1.heap.size + 1) (by simp) ?_)
        intro gg cap X3 o3 g3 a3 l3
        have E3 : Bk X3 d1 47 #[v] := ((HE.out.drew.below B5.out HE.out.drew.lt).alloc _).only g3 (fun e => by have := HVW.out _ e.symm; omega)
        have e3 := E3.cell 0
        have f3 := E3.frozen 0
        simp at e3
        have K3 := Lib.hid (K2.out.trans (KX.grown' g3 K2.out.size fun r e => .inr (.inr e)))
        have HS3 := Lib.hid (LK.out _ K3.out)
        have HS4 := Lib.hid (LK.out _ (K3.out.trans (KX.set (.inl rfl) X3 0 (.slice (some ⟨gg, 0, none⟩) (j + 1) cap))))
        have HX := Lib.hid (TI.step (by have := HGS.out; have := L3.out; omega) (by omega) (by have := HSL.out; omega) HI.out (by have := HSL.out; have := HTW.out; omega) (by have := HTW.out; omega) HE.out HR.out HV.out B5.out (by rw [← HTR.out]; exact S5.out) o3 g3 a3 l3)
        clear o3 g3 a3 l3 E3
        refine ⟨HS3.out, ?_⟩
        simp only [Act.put, List.setIfInBounds_toArray, List.set_cons_zero, List.set_cons_succ]
        refine RD.h_any [10] (by kernel_rfl) (by simp) (RD.one_of ?_)
        refine RD.h_skip (X3.setCell ⟨d1, 0, none⟩ (.slice (some ⟨gg, 0, none⟩) (j + 1) cap)) rfl (by rfl) (by go_simp) ⟨HS4.out, ?_⟩
        simp only [Act.put, List.setIfInBounds_toArray, List.set_cons_zero, List.set_cons_succ]
        exact RD.h_done (by kernel_rfl) ⟨rfl, HX.out⟩
  case done =>
    intro D z W hD hI hK
    obtain ⟨v, vs, h1, h2, h3⟩ := hI.got
    obtain ⟨AT, cT, rfl⟩ := h2.form
    have hbel := hI.bel
    have HKD := Lib.hid hK
    have HDW := Lib.hid (show D < W.heap.size from (Array.getElem?_eq_some_iff.1 hK).1)
    have HDL := Lib.hid hD
    have SLT := Lib.hid ((h2.read (treesE_fp _ _ _ _)).lt (treesE_fp _ _ _ _))
    have TW := Lib.hid h1
    have BW := Lib.hid hbel
    have HWL := Lib.hid (show wL.heap.size ≤ W.heap.size from hI.ke.size)
    have MW := Lib.hid (hI.ke.bk ML.out (by have := HSL.out; have := L3.out; omega) (by have := L3.out; omega))
    have GW := Lib.hid (hI.ke.bk GL.out (by have := HSL.out; have := L3.out; omega) (by have := L3.out; omega))
    clear h1 h2 h3 hI hK hD hbel
    have BD := Lib.hid (Below.refl W.heap.size W).drew
    have KM := Lib.hid (show ∀ X, Below W.heap.size W X → X.cell? ⟨g + 1, 1, none⟩ = some (.slice Al 32 cl) from fun X hX => (GW.out.below hX GW.out.lt).cell 1)
    have BX := Lib.hid (show ∀ X, Below W.heap.size W X → Below w.heap.size w X from fun X hX => BW.out.trans (hX.mono BW.out.size))
    go_upto_region 9 with (fail)
    (go_region_held3 (fun X => X.cell? ⟨g + 1, 1, none⟩ = some (.slice Al 32 cl)) (first
      | exact KM.out _ B6.out
      | exact KM.out _ B5.out
      | exact KM.out _ BD.out) (first
      | (go_at_call 24; ((with_reducible refine (BYC.out _).mono ?_); rintro e w5 ⟨A5, n5, c5, rfl, q5, b5⟩; obtain rfl : n5 = 32 := (own_len q5).symm.trans HL32.out; have R5 := Lib.hid (Rd.own q5); have B5 := Lib.hid (BD.out.trans (b5.mono BD.out.size)); clear q5 b5))
      | (go_at_call 23; ((with_reducible refine (PRC.out _ A5 c5 (BX.out _ B5.out) R5.out).mono ?_); rintro e w6 ⟨A6, n6, c6, rfl, q6, b6⟩; obtain rfl : n6 = 32 := (own_len q6).symm.trans HS32.out; have R6 := Lib.hid (Rd.own q6); have O6 := Lib.hid (own_base q6 B5.out.size); have B6 := Lib.hid (B5.out.trans (b6.mono B5.out.size)); clear q6 b6))
      | fail))
    have TW6 := Lib.hid (TW.out.below B6.out TW.out.lt)
    have MW6 := Lib.hid (MW.out.below B6.out MW.out.lt)
    have SLT6 := Lib.hid (SLT.out.below (treesE_fp _ _ _ _) B6.out)
    obtain ⟨bT, oT, hAT, hbT, hST, hcT⟩ := SLT6.out.at_ (by have := HL.out; omega)
    obtain ⟨u, hu1, Ar, cr, hu2, hu3⟩ := hcT l1 (by have := HL1.out; have := HL.out; omega)
    rw [hu2] at hu1
    have SR := Lib.hid hu3
    subst hAT
    have ROC := Lib.hid (show ∀ X, Below w6.heap.size w6 X → Calls Tryz.prog 26 #[.slice Ar (k + 1) cr] X fun e w' => (∃ A' c', e = .returned (.slice A' 32 c') ∧ Rd X A' 32 c' rt ∧ ∀ a, A' = some a → wL.heap.size ≤ a.block ∧ a.block < W.heap.size) ∧ X = w' from fun X hX => by
      have h9 := root_any sec sd l1 (nT k n (l1 + 1)) k Ar cr _ X (SR.out.below (treeE_fp _ _ _ _ _) hX)
      have h8 : nT k n (l1 + 1) = 0 := by
        have h7 := HNT.out
        rw [show l1 + 1 = l by have := HL1.out; have := HL.out; omega]
        exact h7
      rw [h8, ← HRT.out] at h9
      exact h9)
    have f0 : w6.cell? ⟨d1, 0, none⟩ = some (.slice (some ⟨bT, oT, none⟩) l cT) := TW6.out.cell 0
    have f1 : w6.cell? ⟨g, 0, none⟩ = some (.int .i64 (l : Int)) := MW6.out.cell 0
    clear hu2 hu3 hcT hbT hST
    go_upto_region 11 with (first
      | (go_at_call 26; ((with_reducible refine (ROC.out _ (Below.refl _ _)).mono ?_); rintro e w7 ⟨⟨A7, c7, rfl, r7, _⟩, rfl⟩; have R7 := Lib.hid r7; clear r7))
      | (go_at_call 25; ((with_reducible refine (TSC.out _ A6 c6 A7 c7 (BX.out _ B6.out) R6.out R7.out).mono ?_); rintro e w8 ⟨A8, n8, c8, rfl, q8, b8⟩; obtain rfl : n8 = 32 := (own_len q8).symm.trans HT32.out; have R8 := Lib.hid (Rd.own q8); have O8 := Lib.hid (own_base q8 B6.out.size); have B8 := Lib.hid (B6.out.trans (b8.mono B6.out.size)); have O68 := Lib.hid (own_below O6.out b8); clear q8 b8)))
    obtain ⟨d2, hd2⟩ : ∃ d2, w8.heap.size = d2 := ⟨_, rfl⟩
    obtain ⟨w9, hw9⟩ : ∃ w9, w8.alloc (.cells #[.slice A8 32 c8] 24) = w9 := ⟨_, rfl⟩
    have E9 := Lib.hid (show Bk w9 d2 24 #[.slice A8 32 c8] by rw [← hw9]; exact Bk.newAt _ _ _ _ hd2)
    have B9 := Lib.hid (show Below W.heap.size W w9 by rw [← hw9]; exact B8.out.alloc B8.out.size _)
    have R9 := Lib.hid (show Rd w9 A8 32 c8 tx by rw [← hw9]; exact R8.out.alloc _)
    have O9 := Lib.hid (show w9.ownsRow W.heap.size 5 1 (.slice A6 32 c6) 32 (bv slt) by rw [← hw9]; exact O68.out.alloc _)
    have L8 := Lib.hid (show ∀ a, A8 = some a → a.block < d2 from fun a ha => by
      have h9 := O8.out
      rw [ha] at h9
      have := (h9.lt a.block rfl).2
      omega)
    have L9 := Lib.hid (show W.heap.size ≤ d2 by rw [← hd2]; exact B8.out.size)
    have L69 := Lib.hid (show ∀ a, A6 = some a → W.heap.size ≤ a.block ∧ a.block < d2 from fun a ha => by
      have h9 := O68.out
      rw [ha] at h9
      have := h9.lt a.block rfl
      omega)
    first
      | rw [hw9, hd2]
      | rw [hd2]
      | skip
    clear hw9 hd2 f0 f1
    go_upto_region 12 with (go_at_call 27; ((with_reducible refine (PUC.out _).mono ?_); rintro e w10 ⟨A10, n10, c10, rfl, q10, b10⟩; obtain rfl : n10 = 8 := (own_len q10).symm.trans HP8.out; have O10 := Lib.hid (own_base q10 B9.out.size); have B10 := Lib.hid (B9.out.trans (b10.mono B9.out.size)); have E10 := Lib.hid (E9.out.below b10 E9.out.lt); have R10 := Lib.hid (R9.out.below b10); have O610 := Lib.hid (own_below O9.out b10); clear q10 b10))
    obtain ⟨dP, hdP⟩ : ∃ dP, w10.heap.size = dP := ⟨_, rfl⟩
    obtain ⟨w11, hw11⟩ : ∃ w11, w10.alloc (.cells #[.slice A10 8 c10, .slice A6 32 c6] 24) = w11 := ⟨_, rfl⟩
    obtain ⟨w12, hw12⟩ : ∃ w12, w11.alloc (.cells #[.slice (some ⟨dP, 0, none⟩) 2 2] 61) = w12 := ⟨_, rfl⟩
    have P11 : w11.ownsRow w.heap.size 24 1 (.slice (some ⟨dP, 0, none⟩) 2 2) 2 [.slice A10 8 c10, .slice A6 32 c6] := by
      rw [← hw11, ← hdP]
      exact ⟨rfl, .inr ⟨w10.heap.size, 2, #[.slice A10 8 c10, .slice A6 32 c6], rfl, (BX.out _ B10.out).size, heap_alloc_new w10 _, Nat.le_refl _, by simp [maxLen], rfl, rfl⟩⟩
    have s11 : w11.heap.size = dP + 1 := by rw [← hw11, ← hdP]; simp
    have P12 := Lib.hid (show w12.ownsRow w.heap.size 24 1 (.slice (some ⟨dP, 0, none⟩) 2 2) 2 [.slice A10 8 c10, .slice A6 32 c6] by rw [← hw12]; exact P11.alloc _)
    have B11 : Below W.heap.size W w11 := by rw [← hw11]; exact B10.out.alloc B10.out.size _
    have B12 := Lib.hid (show Below W.heap.size W w12 by rw [← hw12]; exact B11.alloc B11.size _)
    have Q12 := Lib.hid (show Bk w12 (dP + 1) 61 #[.slice (some ⟨dP, 0, none⟩) 2 2] by rw [← hw12]; exact Bk.newAt _ _ _ _ s11)
    have E12 := Lib.hid (show Bk w12 d2 24 #[.slice A8 32 c8] by rw [← hw12, ← hw11]; exact (E10.out.alloc _).alloc _)
    have R12 := Lib.hid (show Rd w12 A8 32 c8 tx by rw [← hw12, ← hw11]; exact (R10.out.alloc _).alloc _)
    have O12 := Lib.hid (show w12.ownsRow W.heap.size 5 1 (.slice A6 32 c6) 32 (bv slt) by rw [← hw12, ← hw11]; exact (O610.out.alloc _).alloc _)
    have X12 := Lib.hid (show w12.ownsRow W.heap.size 5 1 (.slice A10 8 c10) 8 (bv (putL n 8)) by rw [← hw12, ← hw11]; exact (O10.out.alloc _).alloc _)
    have L12 := Lib.hid (show d2 < dP by rw [← hdP]; exact E10.out.lt)
    have L10 := Lib.hid (show ∀ a, A10 = some a → W.heap.size ≤ a.block ∧ a.block < dP from fun a ha => by
      have h9 := O10.out
      rw [ha] at h9
      have := h9.lt a.block rfl
      omega)
    have hs12 : w12.heap.size = dP + 2 := by rw [← hw12]; simp [s11]
    first
      | rw [hw11, hdP, hw12]
      | rw [hdP, hw11, hw12]
      | rw [hdP, hw12]
      | rw [hdP]
      | skip
    clear hw11 hw12 hdP s11 P11 B11
    have M12 := Lib.hid (MW.out.below B12.out MW.out.lt)
    have f0 : w12.cell? ⟨g, 0, none⟩ = some (.int .i64 (l : Int)) := M12.out.cell 0
    have f1 : w12.cell? ⟨g, 1, none⟩ = some (.int .i64 (k : Int)) := M12.out.cell 1
    obtain ⟨wM, hwM⟩ : ∃ wM, (w12.alloc (.cells (shA l k) 23)).alloc (.cells #[.int .u64 (n : Int)] 27) = wM := ⟨_, rfl⟩
    have HPM := Lib.hid (show Calls Tryz.prog 21 #[.agg #[.int .i64 (l : Int), .int .i64 (k : Int)], .int .u64 (n : Int)] w12 fun e w' => e = .returned (.func (.func 53) #[] #[.pointer (some ⟨dP + 2, 0, none⟩), .pointer (some ⟨dP + 3, 0, none⟩)]) ∧ w' = wM from by
      have h9 := places_any l k n w12
      rw [hs12, hwM] at h9
      exact h9)
    have BXM := Lib.hid (show Bk wM (dP + 2) 23 (shA l k) by rw [← hwM, ← hs12]; exact (Bk.new _ _ _).alloc _)
    have BNM := Lib.hid (show Bk wM (dP + 3) 27 #[.int .u64 (n : Int)] by rw [← hwM]; exact Bk.newAt _ _ _ _ (by simp [hs12]))
    have HBM := Lib.hid (show Below w12.heap.size w12 wM by rw [← hwM]; exact ((Below.refl _ _).alloc (Nat.le_refl _) _).alloc (by simp) _)
    have HSM := Lib.hid (show wM.heap.size = dP + 4 by rw [← hwM]; simp [hs12])
    clear hwM hs12
    go_wp2_with (go_at_call 21; ((with_reducible refine HPM.out.mono ?_); rintro e w13 ⟨rfl, h13⟩; obtain rfl := h13.symm))
    clear f0 f1
    have BM := Lib.hid (B12.out.trans (HBM.out.mono B12.out.size))
    have MM := Lib.hid (MW.out.below BM.out MW.out.lt)
    have GM := Lib.hid (GW.out.below BM.out GW.out.lt)
    have TM := Lib.hid (TW.out.below BM.out TW.out.lt)
    have SM := Lib.hid (SLT.out.below (treesE_fp _ _ _ _) BM.out)
    have KDM := Lib.hid (below_at BM.out HKD.out)
    have QM := Lib.hid (Q12.out.below HBM.out Q12.out.lt)
    have EM := Lib.hid (E12.out.below HBM.out E12.out.lt)
    have RM := Lib.hid (R12.out.below HBM.out)
    have PM := Lib.hid (own_below P12.out HBM.out)
    have OM := Lib.hid (own_below O12.out HBM.out)
    have XM := Lib.hid (own_below X12.out HBM.out)
    refine (wpIn_wide (n := 3)).1 ?_
    refine RD.range_box (m := 3) (N := l) (bn := dP + 3) (gf := 53) (lb := #[.pointer (some ⟨dP + 2, 0, none⟩), .pointer (some ⟨dP + 3, 0, none⟩)]) (encs := fun j => #[.agg (plN k n j)]) rfl (enters_of Tryz.func53 (by kernel_rfl) rfl)
      (places_it 2 (by omega) (dP + 2) (dP + 3) l k n HL.out.2.1 HL.out.2.2.2.1 HN64.out) (fun _ => rfl) (by rw [HSM.out]; omega)
      (fun j z X => PI w wM sec slt sd k n d2 (dP + 1) (dP + 3) dP tx j z X) (PI.own (BX.out _ BM.out).size) (fun j z X h => ⟨h.ke.bk BXM.out (by rw [HSM.out]; omega) (by have := L12.out; omega), h.box⟩) ?h0' (fun j => .cells (plN k n j) 52) ?a1' ?assign' ?body' ?done'
    case h0' =>
      intro z hz
      refine ⟨KX.refl _, BX.out _ BM.out, by rw [nT_zero]; exact BNM.out, ⟨A8, c8, EM.out, RM.out, L8.out⟩, _, _, QM.out, ⟨by simpa using PM.out, fun j hj => ?_⟩, fun b e => ?_⟩
      · have hj2 : j < 2 := by omega
        have hww := (BX.out _ (Below.refl _ _)).size
        match j, hj2 with
        | 0, _ => exact ⟨_, rfl, A10, 8, c10, rfl, Rd.own XM.out, fun a _ ha => ⟨by have := (L10.out a ha).1; omega, fun e => by have := (L10.out a ha).2; simp [Value.ownBlock] at e; omega⟩⟩
        | 1, _ => exact ⟨_, rfl, A6, 32, c6, rfl, Rd.own OM.out, fun a _ ha => ⟨by have := (L69.out a ha).1; omega, fun e => by have := (L69.out a ha).2; have := L12.out; simp [Value.ownBlock] at e; omega⟩⟩
      · simp [Value.ownBlock] at e
        subst e
        have := HSM.out
        exact ⟨by omega, .inl rfl⟩
    case assign' =>
      intro lp j t W2 K ht hK
      gi_wp2
      exact hK
    case body' =>
      intro lp j z t W2 hI hzt ht hwz hj
      obtain ⟨AS, cS, s1, s2, s3⟩ := hI.sum
      obtain ⟨v, vs, p1, p2, p3⟩ := hI.got
      have htt : Bk W2 t 52 (plN k n j) := ht
      obtain ⟨tr, htr⟩ : ∃ tr, tr = nT k n (j + 1) := ⟨_, rfl⟩
      obtain ⟨q, hq⟩ : ∃ q, q = nT k n j % 2 ^ k := ⟨_, rfl⟩
      have hpl : plN k n j = plA j tr q := by rw [htr, hq]
      rw [hpl] at htt
      have htr64 : tr < 18446744073709551616 := by rw [htr]; exact Nat.lt_of_le_of_lt (Nat.div_le_self _ _) HN64.out
      have hq2 : q < 2 ^ k := by rw [hq]; exact Nat.mod_lt _ (Nat.two_pow_pos k)
      have hq32 : q < 4294967296 := by
        have h9 : 2 ^ k ≤ 2 ^ 6 := Nat.pow_le_pow_right (by omega) (by have := HL.out; omega)
        have h7 : (2 : Nat) ^ 6 = 64 := rfl
        omega
      obtain ⟨cn, hcn⟩ : ∃ cn, 2 + j * (k + 1) = cn := ⟨_, rfl⟩
      have hcn100 : cn ≤ 100 := by
        have h9 : j * (k + 1) ≤ 12 * 7 := Nat.mul_le_mul (by have := HL.out; omega) (by have := HL.out; omega)
        omega
      have hcn0 : 0 < cn := by omega
      have HCF := Lib.hid (show cn + 1 + k = 2 + (j + 1) * (k + 1) by rw [← hcn, Nat.succ_mul]; omega)
      rw [hcn] at p2
      have HPS := Lib.hid (show partR sec slt sd k n tx (cn + 0) = signL sec sd (adQ j tr q) (ofN sec sd k n tx j) by rw [Nat.add_zero, ← hcn, part_sig, htr, hq])
      have HPW := Lib.hid (show ∀ r, r < k → partR sec slt sd k n tx (cn + 1 + r) = sumT sec sd j tr r (sib (q / 2 ^ r)) from fun r hr => by rw [← hcn, part_way sec slt sd k n tx j r hr, htr, hq])
      have HON := Lib.hid (show ofN sec sd k n tx (j + 1) = sumT sec sd j tr k 0 by rw [ofN, htr])
      have HI := Lib.hid hI
      have T0 := Lib.hid htt
      have HP := Lib.hid p1
      have HR := Lib.hid p2
      have HE := Lib.hid s1
      have HY := Lib.hid s2
      have HA := Lib.hid s3
      have HTW := Lib.hid (show dP + 4 ≤ z ∧ z ≤ t ∧ t < W2.heap.size from ⟨by have := HSM.out; omega, hzt, htt.lt⟩)
      have HV := Lib.hid (show ∀ b, v.ownBlock = some b → b < z ∧ (b = dP ∨ dP + 4 ≤ b) from fun b e => by have := p3 b e; have := HSM.out; omega)
      have HV3 := Lib.hid p3
      have HJ := Lib.hid hj
      have HD := Lib.hid (show g + 1 < d1 ∧ d1 + 3 ≤ W.heap.size ∧ W.heap.size ≤ d2 ∧ d2 < dP ∧ dP + 4 ≤ W2.heap.size from ⟨L3.out, by have := HSL.out; have := HWL.out; omega, L9.out, L12.out, by have := hI.ke.size; have := HSM.out; omega⟩)
      have HWB := Lib.hid (show w.heap.size ≤ d2 ∧ w.heap.size ≤ dP + 1 from by have := HGS.out; have := HD.out; omega)
      have GW2 := Lib.hid (hI.ke.bk GM.out (by have := HSM.out; have := HD.out; omega) (by have := HD.out; omega))
      have TW2 := Lib.hid (hI.ke.bk TM.out (by have := HSM.out; have := HD.out; omega) (by have := HD.out; omega))
      have SW2 := hI.ke.sl (treesE_fp _ _ _ _) SM.out (fun b hb => by have := HSM.out; have := HD.out; omega)
      obtain ⟨bT', oT', hbe, _, _, hcT⟩ := SW2.at_ (by have := HL.out; omega)
      injection hbe with hbe
      injection hbe with hb1 hb2
      subst hb1 hb2
      obtain ⟨u, u1, Ak, ck, u2, u3⟩ := hcT j hj
      rw [u2] at u1
      have SK := Lib.hid (show Sl (treeE sec sd j tr k) W2 (fun b => wL.heap.size ≤ b ∧ b < W.heap.size) Ak (k + 1) ck by rw [htr]; exact u3)
      have LK := Lib.hid (show ∀ X, KX W2.heap.size (fun b => b = dP + 1 ∨ v.ownBlock = some b) W2 X → X.cell? ⟨g + 1, 0, none⟩ = some (.slice As 32 cs) ∧ X.cell? ⟨g + 1, 1, none⟩ = some (.slice Al 32 cl) ∧ X.cell? ⟨g + 1, 2, none⟩ = some (.slice Ae 32 ce) ∧ X.cell? ⟨t, 0, none⟩ = some (.int .u32 (j : Int)) ∧ X.cell? ⟨t, 1, none⟩ = some (.int .u64 (tr : Int)) ∧ X.cell? ⟨t, 2, none⟩ = some (.int .u32 (q : Int)) ∧ X.cell? ⟨d2, 0, none⟩ = some (.slice AS 32 cS) from fun X hX => by
        have q2 := hX.bk GW2.out GW2.out.lt (by
          rintro (e | e)
          · have := HD.out; omega
          · have := HV.out _ e; have := HD.out; omega)
        have q3 := hX.bk T0.out T0.out.lt (by
          rintro (e | e)
          · have := HTW.out; omega
          · have := HV.out _ e; have := HTW.out; omega)
        have q4 := hX.bk HE.out HE.out.lt (by
          rintro (e | e)
          · have := HD.out; omega
          · have := HV.out _ e; have := HD.out; omega)
        exact ⟨q2.cell 0, q2.cell 1, q2.cell 2, q3.cell 0, q3.cell 1, q3.cell 2, q4.cell 0⟩)
      have HS0 := Lib.hid (LK.out _ (KX.bel (Below.refl _ _).drew (Nat.le_refl _)))
      have e0 : W2.drew.cell? ⟨dP + 1, 0, none⟩ = some v := by have := HP.out.drew.cell 0; simpa using this
      have BW2 := Lib.hid hI.bel
      have r1 : W2.cell? ⟨d1, 0, none⟩ = some (.slice (some ⟨bT, oT, none⟩) l cT) := TW2.out.cell 0
      have r2 : W2.cell? ⟨t, 0, none⟩ = some (.int .u32 (j : Int)) := T0.out.cell 0
      have t0 : (j : Int) < (l : Int) := by omega
      clear s1 s2 s3 p1 p2 p3 hI htt ht hpl hq hzt hwz hcn SW2 hcT u2 u3
      gi_wp2_with (fail)
      refine RD.h_begin (fun X => X.cell? ⟨g + 1, 0, none⟩ = some (.slice As 32 cs) ∧ X.cell? ⟨g + 1, 1, none⟩ = some (.slice Al 32 cl) ∧ X.cell? ⟨g + 1, 2, none⟩ = some (.slice Ae 32 ce) ∧ X.cell? ⟨t, 0, none⟩ = some (.int .u32 (j : Int)) ∧ X.cell? ⟨t, 1, none⟩ = some (.int .u64 (tr : Int)) ∧ X.cell? ⟨t, 2, none⟩ = some (.int .u32 (q : Int)) ∧ X.cell? ⟨d2, 0, none⟩ = some (.slice AS 32 cS)) 13 (by kernel_rfl) ?_ (by kernel_rfl) rfl ?_
      · rintro ⟨_, _, h, _⟩
        cases h
      refine RD.h_take 1 (.agg #[.slice As 32 cs, .slice Al 32 cl, .slice Ae 32 ce]) rfl (by kernel_rfl) (by kernel_rfl) (by kernel_rfl) (fun _ _ _ h => h) (by rfl) HS0.out (fun X hX => ?_) ?_
      · obtain ⟨h0, h1, h2, h3, h4, h5, h6⟩ := hX
        go_simp
      simp only [Act.put, List.setIfInBounds_toArray, List.set_cons_zero, List.set_cons_succ]
      refine RD.h_take 2 (.pointer (some ⟨t, 0, none⟩)) rfl (by kernel_rfl) (by kernel_rfl) (by kernel_rfl) (fun _ _ _ h => h) (by rfl) HS0.out (fun X hX => ?_) ?_
      · obtain ⟨h0, h1, h2, h3, h4, h5, h6⟩ := hX
        go_simp
      simp only [Act.put, List.setIfInBounds_toArray, List.set_cons_zero, List.set_cons_succ]
      refine RD.h_take 3 (.int .u32 (j : Int)) rfl (by kernel_rfl) (by kernel_rfl) (by kernel_rfl) (fun _ _ _ h => h) (by rfl) HS0.out (fun X hX => ?_) ?_
      · obtain ⟨h0, h1, h2, h3, h4, h5, h6⟩ := hX
        go_simp
      simp only [Act.put, List.setIfInBounds_toArray, List.set_cons_zero, List.set_cons_succ]
      refine RD.h_take 4 (.pointer (some ⟨t, 1, none⟩)) rfl (by kernel_rfl) (by kernel_rfl) (by kernel_rfl) (fun _ _ _ h => h) (by rfl) HS0.out (fun X hX => ?_) ?_
      · obtain ⟨h0, h1, h2, h3, h4, h5, h6⟩ := hX
        go_simp
      simp only [Act.put, List.setIfInBounds_toArray, List.set_cons_zero, List.set_cons_succ]
      refine RD.h_take 5 (.int .u64 (tr : Int)) rfl (by kernel_rfl) (by kernel_rfl) (by kernel_rfl) (fun _ _ _ h => h) (by rfl) HS0.out (fun X hX => ?_) ?_
      · obtain ⟨h0, h1, h2, h3, h4, h5, h6⟩ := hX
        go_simp
      simp only [Act.put, List.setIfInBounds_toArray, List.set_cons_zero, List.set_cons_succ]
      refine RD.h_take 6 (.pointer (some ⟨t, 2, none⟩)) rfl (by kernel_rfl) (by kernel_rfl) (by kernel_rfl) (fun _ _ _ h => h) (by rfl) HS0.out (fun X hX => ?_) ?_
      · obtain ⟨h0, h1, h2, h3, h4, h5, h6⟩ := hX
        go_simp
      simp only [Act.put, List.setIfInBounds_toArray, List.set_cons_zero, List.set_cons_succ]
      refine RD.h_take 7 (.int .u32 (q : Int)) rfl (by kernel_rfl) (by kernel_rfl) (by kernel_rfl) (fun _ _ _ h => h) (by rfl) HS0.out (fun X hX => ?_) ?_
      · obtain ⟨h0, h1, h2, h3, h4, h5, h6⟩ := hX
        go_simp
      simp only [Act.put, List.setIfInBounds_toArray, List.set_cons_zero, List.set_cons_succ]
      refine RD.h_take 8 (.slice AS 32 cS) rfl (by kernel_rfl) (by kernel_rfl) (by kernel_rfl) (fun _ _ _ h => h) (by rfl) HS0.out (fun X hX => ?_) ?_
      · obtain ⟨h0, h1, h2, h3, h4, h5, h6⟩ := hX
        go_simp
      simp only [Act.put, List.setIfInBounds_toArray, List.set_cons_zero, List.set_cons_succ]
      refine RD.h_any [0, 9] (by kernel_rfl) (by simp) (RD.two_of ?_ ?_)
      · refine RD.h_run v W2.drew rfl (by rfl) (by go_simp) ⟨HS0.out, ?_⟩
        simp only [Act.put, List.setIfInBounds_toArray, List.set_cons_zero, List.set_cons_succ]
        refine RD.h_any [9] (by kernel_rfl) (by simp) (RD.one_of ?_)
        refine RD.h_call 28 #[(.agg #[.slice As 32 cs, .slice Al 32 cl, .slice Ae 32 ce]), .int .u32 (j : Int), .int .u64 (tr : Int), .int .u32 (q : Int), .slice AS 32 cS] rfl (by rfl) (by go_simp) ((SGC.out W2.drew j tr q AS cS _ BW2.out.drew (by have := HL.out; have := HJ.out; omega) htr64 hq32 HY.out.drew).mono ?_)
        rintro e X1 ⟨A5, n5, c5, rfl, q5, b5⟩
        obtain rfl : n5 = 2144 := (own_len q5).symm.trans (sign_len _ _ _ _)
        have O5 := Lib.hid q5
        have B5 := Lib.hid b5
        have E1 := HP.out.drew.below b5 HP.out.drew.lt
        have e1 := E1.cell 0
        simp at e1
        have K1 := Lib.hid ((KX.bel (n := W2.heap.size) (E := (fun b => b = dP + 1 ∨ v.ownBlock = some b)) (Below.refl _ _).drew (Nat.le_refl _)).trans (KX.bel b5 (Nat.le_refl _)))
        have HS1 := Lib.hid (LK.out _ K1.out)
        clear q5 b5
        refine ⟨_, rfl, HS1.out, ?_⟩
        simp only [Act.put, List.setIfInBounds_toArray, List.set_cons_zero, List.set_cons_succ]
        refine RD.h_any [10] (by kernel_rfl) (by simp) (RD.one_of ?_)
        have K2 := Lib.hid (K1.out.trans (KX.bel ((Below.refl _ _).alloc (Nat.le_refl _) (.cells #[.slice A5 2144 c5] 24)) K1.out.size))
        have HS2 := Lib.hid (LK.out _ K2.out)
        refine RD.h_run (.slice (some ⟨X1.heap.size, 0, none⟩) 1 1) (X1.alloc (.cells #[.slice A5 2144 c5] 24)) rfl (by rfl) (by go_simp) ⟨HS2.out, ?_⟩
        simp only [Act.put, List.setIfInBounds_toArray, List.set_cons_zero, List.set_cons_succ]
        refine RD.h_any [11] (by kernel_rfl) (by simp) (RD.one_of ?_)
        refine RD.h_op rfl (step_append_lies _ (by rfl) (.tmp 73) (.tmp 83) 61 (by rfl) w.heap.size 24 iA _ 1 24 Tryz.underlying61 HIA.out hz0 hz1 hz2 rfl (by omega) v cn vs (by rfl) ((own_below HR.out.own.drew B5.out).alloc _) ⟨X1.heap.size, 0, none⟩ 1 1 [.slice A5 2144 c5] (by rfl) (by rfl) (World.news_of_block (heap_alloc_new X1 _)) (by simp [Value.oneCell']) (by omega) (by simp only [maxLen]; omega) (by omega) (by have q1 := B5.out.size; have q2 := BW2.out.size; have q3 : W2.drew.heap.size = W2.heap.size := rfl; simp only [World.size_alloc]; omega) (X1.heap.size + 1) (by simp) ?_)
        intro gg cap X3 o3 g3 a3 l3
        have HQ := push_step (f := partR sec slt sd k n tx) (w := w) (W := W2) (Y := W2.drew) (E2 := (fun b => b = dP + 1 ∨ v.ownBlock = some b)) (EP := dP + 1) (KX.bel (Below.refl _ _).drew (Nat.le_refl _)) BW2.out.drew (.inl rfl) HWB.out.2 HP.out.drew (HR.out.below (rowE_fp _) (Below.refl _ _).drew) (fun e => by have := HV.out _ e; omega) (fun r e => .inr (.inr e)) hcn0 (B5.out.alloc B5.out.size (.cells #[.slice A5 2144 c5] 24)) (news := [.slice A5 2144 c5]) (m := 1) (fun i hi => by
          obtain rfl : i = 0 := by omega
          refine ⟨_, rfl, (rowE_fp _).weak ((rowE_fp _).keep (rowE_new O5.out HPS.out) ((Below.refl X1.heap.size X1).alloc (Nat.le_refl _) (.cells #[.slice A5 2144 c5] 24)).size (fun b _ hlt => ((Below.refl X1.heap.size X1).alloc (Nat.le_refl _) (.cells #[.slice A5 2144 c5] 24)).block b hlt)) fun b hb => ⟨?_, fun e => ?_⟩⟩
          · have := BW2.out.size; have q3 : W2.drew.heap.size = W2.heap.size := rfl; omega
          · have := (HR.out.own.lt b e).2; have q3 : W2.drew.heap.size = W2.heap.size := rfl; omega) o3 g3 (by simpa using a3) l3
        obtain ⟨K3, E3, K8, B8, P8, G8, n8, y8, l8⟩ := HQ
        have e3 := E3.cell 0
        have f3 := E3.frozen 0
        simp at e3
        have HS3 := Lib.hid (LK.out _ K3)
        have HS4 := Lib.hid (LK.out _ K8)
        refine ⟨HS3.out, ?_⟩
        simp only [Act.put, List.setIfInBounds_toArray, List.set_cons_zero, List.set_cons_succ]
        refine RD.h_any [12] (by kernel_rfl) (by simp) (RD.one_of ?_)
        refine RD.h_skip (X3.setCell ⟨dP + 1, 0, none⟩ (.slice (some ⟨gg, 0, none⟩) (cn + 1) cap)) rfl (by rfl) (by go_simp) ⟨HS4.out, ?_⟩
        simp only [Act.put, List.setIfInBounds_toArray, List.set_cons_zero, List.set_cons_succ]
        refine RD.h_done (by kernel_rfl) ?_
        obtain ⟨Y, hY⟩ : ∃ Y, X3.setCell ⟨dP + 1, 0, none⟩ (.slice (some ⟨gg, 0, none⟩) (cn + 1) cap) = Y := ⟨_, rfl⟩
        rw [hY] at K8 B8 P8 G8 l8 ⊢
        have KY := Lib.hid K8
        have BY := Lib.hid B8
        have PY := Lib.hid P8
        have GY := Lib.hid G8
        have NY := Lib.hid (show gg ≠ dP + 1 ∧ (v.ownBlock = some gg ∨ W2.heap.size ≤ gg) ∧ gg < Y.heap.size from ⟨n8, y8, l8⟩)
        clear K3 E3 K8 B8 P8 G8 n8 y8 l8 o3 g3 a3 l3 hY e3 f3 e0 e1 HS0 HS1 HS2 HS3 HS4 r1 r2
        have KYD := Lib.hid (KY.out.trans (KX.bel (Below.refl _ _).drew KY.out.size))
        have HT0 := Lib.hid (show Y.drew.cell? ⟨t, 2, none⟩ = some (.int .u32 (q : Int)) from (LK.out _ KYD.out).2.2.2.2.2.1)
        have e0 : Y.drew.cell? ⟨dP + 1, 0, none⟩ = some (.slice (some ⟨gg, 0, none⟩) (cn + 1) cap) := by have := PY.out.drew.cell 0; simpa using this
        have SKY := Lib.hid (KYD.out.sl (treeE_fp _ _ _ _ _) SK.out (fun b hb => ⟨by have := HD.out; omega, by
          rintro (e | e)
          · have := HD.out; omega
          · have := HV.out _ e; have := HD.out; omega⟩))
        gi_wp2_with (fail)
        refine RD.h_begin (fun X => X.cell? ⟨t, 2, none⟩ = some (.int .u32 (q : Int))) 7 (by kernel_rfl) ?_ (by kernel_rfl) rfl ?_
        · rintro ⟨_, _, h, _⟩
          cases h
        refine RD.h_take 1 (.slice Ak (k + 1) ck) rfl (by kernel_rfl) (by kernel_rfl) (by kernel_rfl) (fun _ _ _ h => h) (by rfl) HT0.out (fun X hX => ?_) ?_
        · go_simp
        simp only [Act.put, List.setIfInBounds_toArray, List.set_cons_zero, List.set_cons_succ]
        refine RD.h_take 2 (.pointer (some ⟨t, 2, none⟩)) rfl (by kernel_rfl) (by kernel_rfl) (by kernel_rfl) (fun _ _ _ h => h) (by rfl) HT0.out (fun X hX => ?_) ?_
        · go_simp
        simp only [Act.put, List.setIfInBounds_toArray, List.set_cons_zero, List.set_cons_succ]
        refine RD.h_take 3 (.int .u32 (q : Int)) rfl (by kernel_rfl) (by kernel_rfl) (by kernel_rfl) (fun _ _ _ h => h) (by rfl) HT0.out (fun X hX => ?_) ?_
        · go_simp
        simp only [Act.put, List.setIfInBounds_toArray, List.set_cons_zero, List.set_cons_succ]
        have WAC := Lib.hid (show Calls Tryz.prog 29 #[.slice Ak (k + 1) ck, .int .u32 (q : Int)] Y.drew _ from way_any sec sd j tr k q hq2 (by have := HL.out; omega) Ak ck (fun b => wL.heap.size ≤ b ∧ b < W.heap.size) Y.drew SKY.out)
        clear hq2
        refine RD.h_any [0, 4] (by kernel_rfl) (by simp) (RD.two_of ?_ ?_)
        · refine RD.h_run (.slice (some ⟨gg, 0, none⟩) (cn + 1) cap) Y.drew rfl (by rfl) (by go_simp) ⟨HT0.out, ?_⟩
          simp only [Act.put, List.setIfInBounds_toArray, List.set_cons_zero, List.set_cons_succ]
          refine RD.h_any [4] (by kernel_rfl) (by simp) (RD.one_of ?_)
          refine RD.h_call 29 #[.slice Ak (k + 1) ck, .int .u32 (q : Int)] rfl (by rfl) (by go_simp) (WAC.out.mono ?_)
          rintro e X4 ⟨A6', c6', vs6, rfl, o6, el6, b6⟩
          obtain ⟨gw, hgw⟩ : ∃ gw, A6' = some ⟨gw, 0, none⟩ := by
            rcases o6.2 with ⟨_, h9⟩ | ⟨gw, _, _, h9, _⟩
            · have := HL.out; omega
            · injection h9 with h9
              exact ⟨gw, h9⟩
          subst hgw
          have O6' := Lib.hid o6
          have EL6 := Lib.hid el6
          have B6' := Lib.hid b6
          have E6 := PY.out.drew.below b6 PY.out.drew.lt
          have e6 := E6.cell 0
          simp at e6
          have HT1 := Lib.hid (show X4.cell? ⟨t, 2, none⟩ = some (.int .u32 (q : Int)) from (LK.out _ (KYD.out.trans (KX.bel b6 KYD.out.size))).2.2.2.2.2.1)
          clear o6 el6 b6
          refine ⟨_, rfl, HT1.out, ?_⟩
          simp only [Act.put, List.setIfInBounds_toArray, List.set_cons_zero, List.set_cons_succ]
          refine RD.h_any [5] (by kernel_rfl) (by simp) (RD.one_of ?_)
          refine RD.h_op rfl (step_append_lies _ (by rfl) (.tmp 85) (.tmp 89) 61 (by rfl) w.heap.size 24 iA _ 1 24 Tryz.underlying61 HIA.out hz0 hz1 hz2 rfl (by omega) (.slice (some ⟨gg, 0, none⟩) (cn + 1) cap) (cn + 1) (vs ++ [.slice A5 2144 c5]) (by rfl) (own_below GY.out.own.drew B6'.out) ⟨gw, 0, none⟩ k c6' vs6 (by rfl) (by have := O6'.out.1; omega) (O6'.out.cells (g := gw) rfl) (fun u hu => by
            obtain ⟨i, hi, hiu⟩ := List.getElem_of_mem hu
            obtain ⟨u', h8, h9⟩ := EL6.out i (by have := O6'.out.1; omega)
            obtain ⟨_, _, _, h7, _⟩ := h9
            rw [List.getElem?_eq_getElem hi, hiu] at h8
            cases h8
            rw [h7]
            rfl) (by have := HL.out; omega) (by have := HL.out; simp only [maxLen]; omega) (by have := HL.out; omega) (by have q1 := B6'.out.size; have q2 := BY.out.size; have q3 : Y.drew.heap.size = Y.heap.size := rfl; omega) X4.heap.size rfl ?_)
          intro g2 cap2 X5 o5 g5 a5 l5
          have HQ2 := push_step (f := partR sec slt sd k n tx) (w := w) (W := W2) (Y := Y.drew) (E2 := (fun b => b = dP + 1 ∨ v.ownBlock = some b)) (EP := dP + 1) KYD.out BY.out.drew (.inl rfl) HWB.out.2 PY.out.drew (GY.out.below (rowE_fp _) (Below.refl _ _).drew) (fun e => by have := NY.out.1; simp [Value.ownBlock] at e; omega) (fun r e => by
            simp [Value.ownBlock] at e
            subst e
            rcases NY.out.2.1 with h9 | h9
            · exact .inr (.inr h9)
            · exact .inl h9) (by omega) B6'.out (news := vs6) (m := k) (fun i hi => by
            obtain ⟨u', h8, A9, n9, c9, rfl, h7, h6⟩ := EL6.out i hi
            refine ⟨_, h8, A9, n9, c9, rfl, by rw [HPW.out i hi]; exact h7, fun a hn ha => ?_⟩
            have h5 := h6 a hn ha
            have hw1 := BL.out.size
            refine ⟨by omega, fun e => ?_⟩
            simp [Value.ownBlock] at e
            rcases NY.out.2.1 with h9 | h9
            · have := HV.out _ h9; have := HD.out; omega
            · have := HD.out; omega) o5 g5 a5 l5
          obtain ⟨K5, E5, K9, B9', P9, G9, n9, y9, l9⟩ := HQ2
          have e5 := E5.cell 0
          have f5 := E5.frozen 0
          simp at e5
          have HT3 := Lib.hid (show X5.cell? ⟨t, 2, none⟩ = some (.int .u32 (q : Int)) from (LK.out _ K5).2.2.2.2.2.1)
          have HT4 := Lib.hid ((LK.out _ K9).2.2.2.2.2.1)
          refine ⟨HT3.out, ?_⟩
          simp only [Act.put, List.setIfInBounds_toArray, List.set_cons_zero, List.set_cons_succ]
          refine RD.h_any [6] (by kernel_rfl) (by simp) (RD.one_of ?_)
          refine RD.h_skip (X5.setCell ⟨dP + 1, 0, none⟩ (.slice (some ⟨g2, 0, none⟩) (cn + 1 + k) cap2)) rfl (by rfl) (by go_simp) ⟨HT4.out, ?_⟩
          simp only [Act.put, List.setIfInBounds_toArray, List.set_cons_zero, List.set_cons_succ]
          refine RD.h_done (by kernel_rfl) ?_
          obtain ⟨Z, hZ⟩ : ∃ Z, X5.setCell ⟨dP + 1, 0, none⟩ (.slice (some ⟨g2, 0, none⟩) (cn + 1 + k) cap2) = Z := ⟨_, rfl⟩
          rw [hZ] at K9 B9' P9 G9 l9 ⊢
          rw [HCF.out] at P9 G9
          have KZ := Lib.hid K9
          have BZ := Lib.hid B9'
          have PZ := Lib.hid P9
          have GZ := Lib.hid G9
          have NZ := Lib.hid (show (v.ownBlock = some g2 ∨ W2.heap.size ≤ g2) ∧ g2 < Z.heap.size from ⟨by
            rcases y9 with h9 | h9
            · simp [Value.ownBlock] at h9
              subst h9
              exact NY.out.2.1
            · exact .inr h9, l9⟩)
          clear K5 E5 K9 B9' P9 G9 n9 y9 l9 o5 g5 a5 l5 hZ e5 f5 e0 e6 HT0 HT1 HT3 HT4
          have EZ := Lib.hid (KZ.out.bk HE.out HE.out.lt (by
            rintro (e | e)
            · have := HD.out; omega
            · have := HV.out _ e; have := HD.out; omega))
          have SKZ := Lib.hid (KZ.out.sl (treeE_fp _ _ _ _ _) SK.out (fun b hb => ⟨by have := HD.out; omega, by
            rintro (e | e)
            · have := HD.out; omega
            · have := HV.out _ e; have := HD.out; omega⟩))
          have ROZ := Lib.hid (root_any sec sd j tr k Ak ck _ Z SKZ.out)
          have z0 : Z.cell? ⟨d2, 0, none⟩ = some (.slice AS 32 cS) := EZ.out.cell 0
          have z1 := EZ.out.frozen 0
          gi_wp2_with (refine ⟨trivial, ?_⟩; gi_at_call 26; refine (calls_in ROZ.out).mono ?_; rintro e Z2 ⟨⟨A7', c7', rfl, r7', a7'⟩, hz2'⟩; obtain rfl := hz2'; have R7' := Lib.hid r7'; have LA := Lib.hid (show ∀ a, A7' = some a → a.block < d2 from fun a ha => by have := a7' a ha; have := HD.out; omega); clear r7' a7')
          have KF := Lib.hid ((KZ.out.mono (n' := W2.heap.size) (E' := fun b => b = d2 ∨ b = dP + 1 ∨ v.ownBlock = some b) (Nat.le_refl _) fun b _ e => .inr e).trans (KX.set (.inl rfl) Z 0 (.slice A7' 32 c7')))
          have HFIN := PI.done (cap := cap2) HWB.out.1 HD.out.2.2.2.1 (by omega) (by omega) (by have := HSM.out; omega) HI.out (by have := HSM.out; have := HTW.out; omega) HV3.out (fun b e => own_cells HR.out.own e) KF.out (BZ.out.setCell (p := ⟨d2, 0, none⟩) HWB.out.1 _) (EZ.out.put 0 (.slice A7' 32 c7')) (by rw [HON.out]; exact rd_box R7'.out EZ.out no_u8_slice 0 _) LA.out (PZ.out.far (by show dP + 1 ≠ d2; have := HD.out; omega) _) (GZ.out.boxR EZ.out no_u8_slice (fun e => by
            simp [Value.ownBlock] at e
            rcases NZ.out.1 with h9 | h9
            · have := HV.out _ h9; have := HD.out; omega
            · have := HD.out; omega)) NZ.out.1 (by simpa using NZ.out.2)
          exact ⟨HFIN.1, HFIN.2.1, HFIN.2.2.1, fun z' hz' => HFIN.2.2.2 z' (by simpa using hz')⟩
        · refine RD.h_call 29 #[.slice Ak (k + 1) ck, .int .u32 (q : Int)] rfl (by rfl) (by go_simp) (WAC.out.mono ?_)
          rintro e X4 ⟨A6', c6', vs6, rfl, o6, el6, b6⟩
          obtain ⟨gw, hgw⟩ : ∃ gw, A6' = some ⟨gw, 0, none⟩ := by
            rcases o6.2 with ⟨_, h9⟩ | ⟨gw, _, _, h9, _⟩
            · have := HL.out; omega
            · injection h9 with h9
              exact ⟨gw, h9⟩
          subst hgw
          have O6' := Lib.hid o6
          have EL6 := Lib.hid el6
          have B6' := Lib.hid b6
          have E6 := PY.out.drew.below b6 PY.out.drew.lt
          have e6 := E6.cell 0
          simp at e6
          have HT1 := Lib.hid (show X4.cell? ⟨t, 2, none⟩ = some (.int .u32 (q : Int)) from (LK.out _ (KYD.out.trans (KX.bel b6 KYD.out.size))).2.2.2.2.2.1)
          clear o6 el6 b6
          refine ⟨_, rfl, HT1.out, ?_⟩
          simp only [Act.put, List.setIfInBounds_toArray, List.set_cons_zero, List.set_cons_succ]
          refine RD.h_any [0] (by kernel_rfl) (by simp) (RD.one_of ?_)
          refine RD.h_run (.slice (some ⟨gg, 0, none⟩) (cn + 1) cap) X4 rfl (by rfl) (by go_simp) ⟨HT1.out, ?_⟩
          simp only [Act.put, List.setIfInBounds_toArray, List.set_cons_zero, List.set_cons_succ]
          refine RD.h_any [5] (by kernel_rfl) (by simp) (RD.one_of ?_)
          refine RD.h_op rfl (step_append_lies _ (by rfl) (.tmp 85) (.tmp 89) 61 (by rfl) w.heap.size 24 iA _ 1 24 Tryz.underlying61 HIA.out hz0 hz1 hz2 rfl (by omega) (.slice (some ⟨gg, 0, none⟩) (cn + 1) cap) (cn + 1) (vs ++ [.slice A5 2144 c5]) (by rfl) (own_below GY.out.own.drew B6'.out) ⟨gw, 0, none⟩ k c6' vs6 (by rfl) (by have := O6'.out.1; omega) (O6'.out.cells (g := gw) rfl) (fun u hu => by
            obtain ⟨i, hi, hiu⟩ := List.getElem_of_mem hu
            obtain ⟨u', h8, h9⟩ := EL6.out i (by have := O6'.out.1; omega)
            obtain ⟨_, _, _, h7, _⟩ := h9
            rw [List.getElem?_eq_getElem hi, hiu] at h8
            cases h8
            rw [h7]
            rfl) (by have := HL.out; omega) (by have := HL.out; simp only [maxLen]; omega) (by have := HL.out; omega) (by have q1 := B6'.out.size; have q2 := BY.out.size; have q3 : Y.drew.heap.size = Y.heap.size := rfl; omega) X4.heap.size rfl ?_)
          intro g2 cap2 X5 o5 g5 a5 l5
          have HQ2 := push_step (f := partR sec slt sd k n tx) (w := w) (W := W2) (Y := Y.drew) (E2 := (fun b => b = dP + 1 ∨ v.ownBlock = some b)) (EP := dP + 1) KYD.out BY.out.drew (.inl rfl) HWB.out.2 PY.out.drew (GY.out.below (rowE_fp _) (Below.refl _ _).drew) (fun e => by have := NY.out.1; simp [Value.ownBlock] at e; omega) (fun r e => by
            simp [Value.ownBlock] at e
            subst e
            rcases NY.out.2.1 with h9 | h9
            · exact .inr (.inr h9)
            · exact .inl h9) (by omega) B6'.out (news := vs6) (m := k) (fun i hi => by
            obtain ⟨u', h8, A9, n9, c9, rfl, h7, h6⟩ := EL6.out i hi
            refine ⟨_, h8, A9, n9, c9, rfl, by rw [HPW.out i hi]; exact h7, fun a hn ha => ?_⟩
            have h5 := h6 a hn ha
            have hw1 := BL.out.size
            refine ⟨by omega, fun e => ?_⟩
            simp [Value.ownBlock] at e
            rcases NY.out.2.1 with h9 | h9
            · have := HV.out _ h9; have := HD.out; omega
            · have := HD.out; omega) o5 g5 a5 l5
          obtain ⟨K5, E5, K9, B9', P9, G9, n9, y9, l9⟩ := HQ2
          have e5 := E5.cell 0
          have f5 := E5.frozen 0
          simp at e5
          have HT3 := Lib.hid (show X5.cell? ⟨t, 2, none⟩ = some (.int .u32 (q : Int)) from (LK.out _ K5).2.2.2.2.2.1)
          have HT4 := Lib.hid ((LK.out _ K9).2.2.2.2.2.1)
          refine ⟨HT3.out, ?_⟩
          simp only [Act.put, List.setIfInBounds_toArray, List.set_cons_zero, List.set_cons_succ]
          refine RD.h_any [6] (by kernel_rfl) (by simp) (RD.one_of ?_)
          refine RD.h_skip (X5.setCell ⟨dP + 1, 0, none⟩ (.slice (some ⟨g2, 0, none⟩) (cn + 1 + k) cap2)) rfl (by rfl) (by go_simp) ⟨HT4.out, ?_⟩
          simp only [Act.put, List.setIfInBounds_toArray, List.set_cons_zero, List.set_cons_succ]
          refine RD.h_done (by kernel_rfl) ?_
          obtain ⟨Z, hZ⟩ : ∃ Z, X5.setCell ⟨dP + 1, 0, none⟩ (.slice (some ⟨g2, 0, none⟩) (cn + 1 + k) cap2) = Z := ⟨_, rfl⟩
          rw [hZ] at K9 B9' P9 G9 l9 ⊢
          rw [HCF.out] at P9 G9
          have KZ := Lib.hid K9
          have BZ := Lib.hid B9'
          have PZ := Lib.hid P9
          have GZ := Lib.hid G9
          have NZ := Lib.hid (show (v.ownBlock = some g2 ∨ W2.heap.size ≤ g2) ∧ g2 < Z.heap.size from ⟨by
            rcases y9 with h9 | h9
            · simp [Value.ownBlock] at h9
              subst h9
              exact NY.out.2.1
            · exact .inr h9, l9⟩)
          clear K5 E5 K9 B9' P9 G9 n9 y9 l9 o5 g5 a5 l5 hZ e5 f5 e0 e6 HT0 HT1 HT3 HT4
          have EZ := Lib.hid (KZ.out.bk HE.out HE.out.lt (by
            rintro (e | e)
            · have := HD.out; omega
            · have := HV.out _ e; have := HD.out; omega))
          have SKZ := Lib.hid (KZ.out.sl (treeE_fp _ _ _ _ _) SK.out (fun b hb => ⟨by have := HD.out; omega, by
            rintro (e | e)
            · have := HD.out; omega
            · have := HV.out _ e; have := HD.out; omega⟩))
          have ROZ := Lib.hid (root_any sec sd j tr k Ak ck _ Z SKZ.out)
          have z0 : Z.cell? ⟨d2, 0, none⟩ = some (.slice AS 32 cS) := EZ.out.cell 0
          have z1 := EZ.out.frozen 0
          gi_wp2_with (refine ⟨trivial, ?_⟩; gi_at_call 26; refine (calls_in ROZ.out).mono ?_; rintro e Z2 ⟨⟨A7', c7', rfl, r7', a7'⟩, hz2'⟩; obtain rfl := hz2'; have R7' := Lib.hid r7'; have LA := Lib.hid (show ∀ a, A7' = some a → a.block < d2 from fun a ha => by have := a7' a ha; have := HD.out; omega); clear r7' a7')
          have KF := Lib.hid ((KZ.out.mono (n' := W2.heap.size) (E' := fun b => b = d2 ∨ b = dP + 1 ∨ v.ownBlock = some b) (Nat.le_refl _) fun b _ e => .inr e).trans (KX.set (.inl rfl) Z 0 (.slice A7' 32 c7')))
          have HFIN := PI.done (cap := cap2) HWB.out.1 HD.out.2.2.2.1 (by omega) (by omega) (by have := HSM.out; omega) HI.out (by have := HSM.out; have := HTW.out; omega) HV3.out (fun b e => own_cells HR.out.own e) KF.out (BZ.out.setCell (p := ⟨d2, 0, none⟩) HWB.out.1 _) (EZ.out.put 0 (.slice A7' 32 c7')) (by rw [HON.out]; exact rd_box R7'.out EZ.out no_u8_slice 0 _) LA.out (PZ.out.far (by show dP + 1 ≠ d2; have := HD.out; omega) _) (GZ.out.boxR EZ.out no_u8_slice (fun e => by
            simp [Value.ownBlock] at e
            rcases NZ.out.1 with h9 | h9
            · have := HV.out _ h9; have := HD.out; omega
            · have := HD.out; omega)) NZ.out.1 (by simpa using NZ.out.2)
          exact ⟨HFIN.1, HFIN.2.1, HFIN.2.2.1, fun z' hz' => HFIN.2.2.2 z' (by simpa using hz')⟩
      · refine RD.h_call 28 #[(.agg #[.slice As 32 cs, .slice Al 32 cl, .slice Ae 32 ce]), .int .u32 (j : Int), .int .u64 (tr : Int), .int .u32 (q : Int), .slice AS 32 cS] rfl (by rfl) (by go_simp) ((SGC.out W2.drew j tr q AS cS _ BW2.out.drew (by have := HL.out; have := HJ.out; omega) htr64 hq32 HY.out.drew).mono ?_)
        rintro e X1 ⟨A5, n5, c5, rfl, q5, b5⟩
        obtain rfl : n5 = 2144 := (own_len q5).symm.trans (sign_len _ _ _ _)
        have O5 := Lib.hid q5
        have B5 := Lib.hid b5
        have E1 := HP.out.drew.below b5 HP.out.drew.lt
        have e1 := E1.cell 0
        simp at e1
        have K1 := Lib.hid ((KX.bel (n := W2.heap.size) (E := (fun b => b = dP + 1 ∨ v.ownBlock = some b)) (Below.refl _ _).drew (Nat.le_refl _)).trans (KX.bel b5 (Nat.le_refl _)))
        have HS1 := Lib.hid (LK.out _ K1.out)
        clear q5 b5
        refine ⟨_, rfl, HS1.out, ?_⟩
        simp only [Act.put, List.setIfInBounds_toArray, List.set_cons_zero, List.set_cons_succ]
        refine RD.h_any [0, 10] (by kernel_rfl) (by simp) (RD.two_of ?_ ?_)
        · refine RD.h_run v X1 rfl (by rfl) (by go_simp) ⟨HS1.out, ?_⟩
          simp only [Act.put, List.setIfInBounds_toArray, List.set_cons_zero, List.set_cons_succ]
          refine RD.h_any [10] (by kernel_rfl) (by simp) (RD.one_of ?_)
          have K2 := Lib.hid (K1.out.trans (KX.bel ((Below.refl _ _).alloc (Nat.le_refl _) (.cells #[.slice A5 2144 c5] 24)) K1.out.size))
          have HS2 := Lib.hid (LK.out _ K2.out)
          refine RD.h_run (.slice (some ⟨X1.heap.size, 0, none⟩) 1 1) (X1.alloc (.cells #[.slice A5 2144 c5] 24)) rfl (by rfl) (by go_simp) ⟨HS2.out, ?_⟩
          simp only [Act.put, List.setIfInBounds_toArray, List.set_cons_zero, List.set_cons_succ]
          refine RD.h_any [11] (by kernel_rfl) (by simp) (RD.one_of ?_)
          refine RD.h_op rfl (step_append_lies _ (by rfl) (.tmp 73) (.tmp 83) 61 (by rfl) w.heap.size 24 iA _ 1 24 Tryz.underlying61 HIA.out hz0 hz1 hz2 rfl (by omega) v cn vs (by rfl) ((own_below HR.out.own.drew B5.out).alloc _) ⟨X1.heap.size, 0, none⟩ 1 1 [.slice A5 2144 c5] (by rfl) (by rfl) (World.news_of_block (heap_alloc_new X1 _)) (by simp [Value.oneCell']) (by omega) (by simp only [maxLen]; omega) (by omega) (by have q1 := B5.out.size; have q2 := BW2.out.size; have q3 : W2.drew.heap.size = W2.heap.size := rfl; simp only [World.size_alloc]; omega) (X1.heap.size + 1) (by simp) ?_)
          intro gg cap X3 o3 g3 a3 l3
          have HQ := push_step (f := partR sec slt sd k n tx) (w := w) (W := W2) (Y := W2.drew) (E2 := (fun b => b = dP + 1 ∨ v.ownBlock = some b)) (EP := dP + 1) (KX.bel (Below.refl _ _).drew (Nat.le_refl _)) BW2.out.drew (.inl rfl) HWB.out.2 HP.out.drew (HR.out.below (rowE_fp _) (Below.refl _ _).drew) (fun e => by have := HV.out _ e; omega) (fun r e => .inr (.inr e)) hcn0 (B5.out.alloc B5.out.size (.cells #[.slice A5 2144 c5] 24)) (news := [.slice A5 2144 c5]) (m := 1) (fun i hi => by
            obtain rfl : i = 0 := by omega
            refine ⟨_, rfl, (rowE_fp _).weak ((rowE_fp _).keep (rowE_new O5.out HPS.out) ((Below.refl X1.heap.size X1).alloc (Nat.le_refl _) (.cells #[.slice A5 2144 c5] 24)).size (fun b _ hlt => ((Below.refl X1.heap.size X1).alloc (Nat.le_refl _) (.cells #[.slice A5 2144 c5] 24)).block b hlt)) fun b hb => ⟨?_, fun e => ?_⟩⟩
            · have := BW2.out.size; have q3 : W2.drew.heap.size = W2.heap.size := rfl; omega
            · have := (HR.out.own.lt b e).2; have q3 : W2.drew.heap.size = W2.heap.size := rfl; omega) o3 g3 (by simpa using a3) l3
          obtain ⟨K3, E3, K8, B8, P8, G8, n8, y8, l8⟩ := HQ
          have e3 := E3.cell 0
          have f3 := E3.frozen 0
          simp at e3
          have HS3 := Lib.hid (LK.out _ K3)
          have HS4 := Lib.hid (LK.out _ K8)
          refine ⟨HS3.out, ?_⟩
          simp only [Act.put, List.setIfInBounds_toArray, List.set_cons_zero, List.set_cons_succ]
          refine RD.h_any [12] (by kernel_rfl) (by simp) (RD.one_of ?_)
          refine RD.h_skip (X3.setCell ⟨dP + 1, 0, none⟩ (.slice (some ⟨gg, 0, none⟩) (cn + 1) cap)) rfl (by rfl) (by go_simp) ⟨HS4.out, ?_⟩
          simp only [Act.put, List.setIfInBounds_toArray, List.set_cons_zero, List.set_cons_succ]
          refine RD.h_done (by kernel_rfl) ?_
          obtain ⟨Y, hY⟩ : ∃ Y, X3.setCell ⟨dP + 1, 0, none⟩ (.slice (some ⟨gg, 0, none⟩) (cn + 1) cap) = Y := ⟨_, rfl⟩
          rw [hY] at K8 B8 P8 G8 l8 ⊢
          have KY := Lib.hid K8
          have BY := Lib.hid B8
          have PY := Lib.hid P8
          have GY := Lib.hid G8
          have NY := Lib.hid (show gg ≠ dP + 1 ∧ (v.ownBlock = some gg ∨ W2.heap.size ≤ gg) ∧ gg < Y.heap.size from ⟨n8, y8, l8⟩)
          clear K3 E3 K8 B8 P8 G8 n8 y8 l8 o3 g3 a3 l3 hY e3 f3 e0 e1 HS0 HS1 HS2 HS3 HS4 r1 r2
          have KYD := Lib.hid (KY.out.trans (KX.bel (Below.refl _ _).drew KY.out.size))
          have HT0 := Lib.hid (show Y.drew.cell? ⟨t, 2, none⟩ = some (.int .u32 (q : Int)) from (LK.out _ KYD.out).2.2.2.2.2.1)
          have e0 : Y.drew.cell? ⟨dP + 1, 0, none⟩ = some (.slice (some ⟨gg, 0, none⟩) (cn + 1) cap) := by have := PY.out.drew.cell 0; simpa using this
          have SKY := Lib.hid (KYD.out.sl (treeE_fp _ _ _ _ _) SK.out (fun b hb => ⟨by have := HD.out; omega, by
            rintro (e | e)
            · have := HD.out; omega
            · have := HV.out _ e; have := HD.out; omega⟩))
          gi_wp2_with (fail)
          refine RD.h_begin (fun X => X.cell? ⟨t, 2, none⟩ = some (.int .u32 (q : Int))) 7 (by kernel_rfl) ?_ (by kernel_rfl) rfl ?_
          · rintro ⟨_, _, h, _⟩
            cases h
          refine RD.h_take 1 (.slice Ak (k + 1) ck) rfl (by kernel_rfl) (by kernel_rfl) (by kernel_rfl) (fun _ _ _ h => h) (by rfl) HT0.out (fun X hX => ?_) ?_
          · go_simp
          simp only [Act.put, List.setIfInBounds_toArray, List.set_cons_zero, List.set_cons_succ]
          refine RD.h_take 2 (.pointer (some ⟨t, 2, none⟩)) rfl (by kernel_rfl) (by kernel_rfl) (by kernel_rfl) (fun _ _ _ h => h) (by rfl) HT0.out (fun X hX => ?_) ?_
          · go_simp
          simp only [Act.put, List.setIfInBounds_toArray, List.set_cons_zero, List.set_cons_succ]
          refine RD.h_take 3 (.int .u32 (q : Int)) rfl (by kernel_rfl) (by kernel_rfl) (by kernel_rfl) (fun _ _ _ h => h) (by rfl) HT0.out (fun X hX => ?_) ?_
          · go_simp
          simp only [Act.put, List.setIfInBounds_toArray, List.set_cons_zero, List.set_cons_succ]
          have WAC := Lib.hid (show Calls Tryz.prog 29 #[.slice Ak (k + 1) ck, .int .u32 (q : Int)] Y.drew _ from way_any sec sd j tr k q hq2 (by have := HL.out; omega) Ak ck (fun b => wL.heap.size ≤ b ∧ b < W.heap.size) Y.drew SKY.out)
          clear hq2
          refine RD.h_any [0, 4] (by kernel_rfl) (by simp) (RD.two_of ?_ ?_)
          · refine RD.h_run (.slice (some ⟨gg, 0, none⟩) (cn + 1) cap) Y.drew rfl (by rfl) (by go_simp) ⟨HT0.out, ?_⟩
            simp only [Act.put, List.setIfInBounds_toArray, List.set_cons_zero, List.set_cons_succ]
            refine RD.h_any [4] (by kernel_rfl) (by simp) (RD.one_of ?_)
            refine RD.h_call 29 #[.slice Ak (k + 1) ck, .int .u32 (q : Int)] rfl (by rfl) (by go_simp) (WAC.out.mono ?_)
            rintro e X4 ⟨A6', c6', vs6, rfl, o6, el6, b6⟩
            obtain ⟨gw, hgw⟩ : ∃ gw, A6' = some ⟨gw, 0, none⟩ := by
              rcases o6.2 with ⟨_, h9⟩ | ⟨gw, _, _, h9, _⟩
              · have := HL.out; omega
              · injection h9 with h9
                exact ⟨gw, h9⟩
            subst hgw
            have O6' := Lib.hid o6
            have EL6 := Lib.hid el6
            have B6' := Lib.hid b6
            have E6 := PY.out.drew.below b6 PY.out.drew.lt
            have e6 := E6.cell 0
            simp at e6
            have HT1 := Lib.hid (show X4.cell? ⟨t, 2, none⟩ = some (.int .u32 (q : Int)) from (LK.out _ (KYD.out.trans (KX.bel b6 KYD.out.size))).2.2.2.2.2.1)
            clear o6 el6 b6
            refine ⟨_, rfl, HT1.out, ?_⟩
            simp only [Act.put, List.setIfInBounds_toArray, List.set_cons_zero, List.set_cons_succ]
            refine RD.h_any [5] (by kernel_rfl) (by simp) (RD.one_of ?_)
            refine RD.h_op rfl (step_append_lies _ (by rfl) (.tmp 85) (.tmp 89) 61 (by rfl) w.heap.size 24 iA _ 1 24 Tryz.underlying61 HIA.out hz0 hz1 hz2 rfl (by omega) (.slice (some ⟨gg, 0, none⟩) (cn + 1) cap) (cn + 1) (vs ++ [.slice A5 2144 c5]) (by rfl) (own_below GY.out.own.drew B6'.out) ⟨gw, 0, none⟩ k c6' vs6 (by rfl) (by have := O6'.out.1; omega) (O6'.out.cells (g := gw) rfl) (fun u hu => by
              obtain ⟨i, hi, hiu⟩ := List.getElem_of_mem hu
              obtain ⟨u', h8, h9⟩ := EL6.out i (by have := O6'.out.1; omega)
              obtain ⟨_, _, _, h7, _⟩ := h9
              rw [List.getElem?_eq_getElem hi, hiu] at h8
              cases h8
              rw [h7]
              rfl) (by have := HL.out; omega) (by have := HL.out; simp only [maxLen]; omega) (by have := HL.out; omega) (by have q1 := B6'.out.size; have q2 := BY.out.size; have q3 : Y.drew.heap.size = Y.heap.size := rfl; omega) X4.heap.size rfl ?_)
            intro g2 cap2 X5 o5 g5 a5 l5
            have HQ2 := push_step (f := partR sec slt sd k n tx) (w := w) (W := W2) (Y := Y.drew) (E2 := (fun b => b = dP + 1 ∨ v.ownBlock = some b)) (EP := dP + 1) KYD.out BY.out.drew (.inl rfl) HWB.out.2 PY.out.drew (GY.out.below (rowE_fp _) (Below.refl _ _).drew) (fun e => by have := NY.out.1; simp [Value.ownBlock] at e; omega) (fun r e => by
              simp [Value.ownBlock] at e
              subst e
              rcases NY.out.2.1 with h9 | h9
              · exact .inr (.inr h9)
              · exact .inl h9) (by omega) B6'.out (news := vs6) (m := k) (fun i hi => by
              obtain ⟨u', h8, A9, n9, c9, rfl, h7, h6⟩ := EL6.out i hi
              refine ⟨_, h8, A9, n9, c9, rfl, by rw [HPW.out i hi]; exact h7, fun a hn ha => ?_⟩
              have h5 := h6 a hn ha
              have hw1 := BL.out.size
              refine ⟨by omega, fun e => ?_⟩
              simp [Value.ownBlock] at e
              rcases NY.out.2.1 with h9 | h9
              · have := HV.out _ h9; have := HD.out; omega
              · have := HD.out; omega) o5 g5 a5 l5
            obtain ⟨K5, E5, K9, B9', P9, G9, n9, y9, l9⟩ := HQ2
            have e5 := E5.cell 0
            have f5 := E5.frozen 0
            simp at e5
            have HT3 := Lib.hid (show X5.cell? ⟨t, 2, none⟩ = some (.int .u32 (q : Int)) from (LK.out _ K5).2.2.2.2.2.1)
            have HT4 := Lib.hid ((LK.out _ K9).2.2.2.2.2.1)
            refine ⟨HT3.out, ?_⟩
            simp only [Act.put, List.setIfInBounds_toArray, List.set_cons_zero, List.set_cons_succ]
            refine RD.h_any [6] (by kernel_rfl) (by simp) (RD.one_of ?_)
            refine RD.h_skip (X5.setCell ⟨dP + 1, 0, none⟩ (.slice (some ⟨g2, 0, none⟩) (cn + 1 + k) cap2)) rfl (by rfl) (by go_simp) ⟨HT4.out, ?_⟩
            simp only [Act.put, List.setIfInBounds_toArray, List.set_cons_zero, List.set_cons_succ]
            refine RD.h_done (by kernel_rfl) ?_
            obtain ⟨Z, hZ⟩ : ∃ Z, X5.setCell ⟨dP + 1, 0, none⟩ (.slice (some ⟨g2, 0, none⟩) (cn + 1 + k) cap2) = Z := ⟨_, rfl⟩
            rw [hZ] at K9 B9' P9 G9 l9 ⊢
            rw [HCF.out] at P9 G9
            have KZ := Lib.hid K9
            have BZ := Lib.hid B9'
            have PZ := Lib.hid P9
            have GZ := Lib.hid G9
            have NZ := Lib.hid (show (v.ownBlock = some g2 ∨ W2.heap.size ≤ g2) ∧ g2 < Z.heap.size from ⟨by
              rcases y9 with h9 | h9
              · simp [Value.ownBlock] at h9
                subst h9
                exact NY.out.2.1
              · exact .inr h9, l9⟩)
            clear K5 E5 K9 B9' P9 G9 n9 y9 l9 o5 g5 a5 l5 hZ e5 f5 e0 e6 HT0 HT1 HT3 HT4
            have EZ := Lib.hid (KZ.out.bk HE.out HE.out.lt (by
              rintro (e | e)
              · have := HD.out; omega
              · have := HV.out _ e; have := HD.out; omega))
            have SKZ := Lib.hid (KZ.out.sl (treeE_fp _ _ _ _ _) SK.out (fun b hb => ⟨by have := HD.out; omega, by
              rintro (e | e)
              · have := HD.out; omega
              · have := HV.out _ e; have := HD.out; omega⟩))
            have ROZ := Lib.hid (root_any sec sd j tr k Ak ck _ Z SKZ.out)
            have z0 : Z.cell? ⟨d2, 0, none⟩ = some (.slice AS 32 cS) := EZ.out.cell 0
            have z1 := EZ.out.frozen 0
            gi_wp2_with (refine ⟨trivial, ?_⟩; gi_at_call 26; refine (calls_in ROZ.out).mono ?_; rintro e Z2 ⟨⟨A7', c7', rfl, r7', a7'⟩, hz2'⟩; obtain rfl := hz2'; have R7' := Lib.hid r7'; have LA := Lib.hid (show ∀ a, A7' = some a → a.block < d2 from fun a ha => by have := a7' a ha; have := HD.out; omega); clear r7' a7')
            have KF := Lib.hid ((KZ.out.mono (n' := W2.heap.size) (E' := fun b => b = d2 ∨ b = dP + 1 ∨ v.ownBlock = some b) (Nat.le_refl _) fun b _ e => .inr e).trans (KX.set (.inl rfl) Z 0 (.slice A7' 32 c7')))
            have HFIN := PI.done (cap := cap2) HWB.out.1 HD.out.2.2.2.1 (by omega) (by omega) (by have := HSM.out; omega) HI.out (by have := HSM.out; have := HTW.out; omega) HV3.out (fun b e => own_cells HR.out.own e) KF.out (BZ.out.setCell (p := ⟨d2, 0, none⟩) HWB.out.1 _) (EZ.out.put 0 (.slice A7' 32 c7')) (by rw [HON.out]; exact rd_box R7'.out EZ.out no_u8_slice 0 _) LA.out (PZ.out.far (by show dP + 1 ≠ d2; have := HD.out; omega) _) (GZ.out.boxR EZ.out no_u8_slice (fun e => by
              simp [Value.ownBlock] at e
              rcases NZ.out.1 with h9 | h9
              · have := HV.out _ h9; have := HD.out; omega
              · have := HD.out; omega)) NZ.out.1 (by simpa using NZ.out.2)
            exact ⟨HFIN.1, HFIN.2.1, HFIN.2.2.1, fun z' hz' => HFIN.2.2.2 z' (by simpa using hz')⟩
          · refine RD.h_call 29 #[.slice Ak (k + 1) ck, .int .u32 (q : Int)] rfl (by rfl) (by go_simp) (WAC.out.mono ?_)
            rintro e X4 ⟨A6', c6', vs6, rfl, o6, el6, b6⟩
            obtain ⟨gw, hgw⟩ : ∃ gw, A6' = some ⟨gw, 0, none⟩ := by
              rcases o6.2 with ⟨_, h9⟩ | ⟨gw, _, _, h9, _⟩
              · have := HL.out; omega
              · injection h9 with h9
                exact ⟨gw, h9⟩
            subst hgw
            have O6' := Lib.hid o6
            have EL6 := Lib.hid el6
            have B6' := Lib.hid b6
            have E6 := PY.out.drew.below b6 PY.out.drew.lt
            have e6 := E6.cell 0
            simp at e6
            have HT1 := Lib.hid (show X4.cell? ⟨t, 2, none⟩ = some (.int .u32 (q : Int)) from (LK.out _ (KYD.out.trans (KX.bel b6 KYD.out.size))).2.2.2.2.2.1)
            clear o6 el6 b6
            refine ⟨_, rfl, HT1.out, ?_⟩
            simp only [Act.put, List.setIfInBounds_toArray, List.set_cons_zero, List.set_cons_succ]
            refine RD.h_any [0] (by kernel_rfl) (by simp) (RD.one_of ?_)
            refine RD.h_run (.slice (some ⟨gg, 0, none⟩) (cn + 1) cap) X4 rfl (by rfl) (by go_simp) ⟨HT1.out, ?_⟩
            simp only [Act.put, List.setIfInBounds_toArray, List.set_cons_zero, List.set_cons_succ]
            refine RD.h_any [5] (by kernel_rfl) (by simp) (RD.one_of ?_)
            refine RD.h_op rfl (step_append_lies _ (by rfl) (.tmp 85) (.tmp 89) 61 (by rfl) w.heap.size 24 iA _ 1 24 Tryz.underlying61 HIA.out hz0 hz1 hz2 rfl (by omega) (.slice (some ⟨gg, 0, none⟩) (cn + 1) cap) (cn + 1) (vs ++ [.slice A5 2144 c5]) (by rfl) (own_below GY.out.own.drew B6'.out) ⟨gw, 0, none⟩ k c6' vs6 (by rfl) (by have := O6'.out.1; omega) (O6'.out.cells (g := gw) rfl) (fun u hu => by
              obtain ⟨i, hi, hiu⟩ := List.getElem_of_mem hu
              obtain ⟨u', h8, h9⟩ := EL6.out i (by have := O6'.out.1; omega)
              obtain ⟨_, _, _, h7, _⟩ := h9
              rw [List.getElem?_eq_getElem hi, hiu] at h8
              cases h8
              rw [h7]
              rfl) (by have := HL.out; omega) (by have := HL.out; simp only [maxLen]; omega) (by have := HL.out; omega) (by have q1 := B6'.out.size; have q2 := BY.out.size; have q3 : Y.drew.heap.size = Y.heap.size := rfl; omega) X4.heap.size rfl ?_)
            intro g2 cap2 X5 o5 g5 a5 l5
            have HQ2 := push_step (f := partR sec slt sd k n tx) (w := w) (W := W2) (Y := Y.drew) (E2 := (fun b => b = dP + 1 ∨ v.ownBlock = some b)) (EP := dP + 1) KYD.out BY.out.drew (.inl rfl) HWB.out.2 PY.out.drew (GY.out.below (rowE_fp _) (Below.refl _ _).drew) (fun e => by have := NY.out.1; simp [Value.ownBlock] at e; omega) (fun r e => by
              simp [Value.ownBlock] at e
              subst e
              rcases NY.out.2.1 with h9 | h9
              · exact .inr (.inr h9)
              · exact .inl h9) (by omega) B6'.out (news := vs6) (m := k) (fun i hi => by
              obtain ⟨u', h8, A9, n9, c9, rfl, h7, h6⟩ := EL6.out i hi
              refine ⟨_, h8, A9, n9, c9, rfl, by rw [HPW.out i hi]; exact h7, fun a hn ha => ?_⟩
              have h5 := h6 a hn ha
              have hw1 := BL.out.size
              refine ⟨by omega, fun e => ?_⟩
              simp [Value.ownBlock] at e
              rcases NY.out.2.1 with h9 | h9
              · have := HV.out _ h9; have := HD.out; omega
              · have := HD.out; omega) o5 g5 a5 l5
            obtain ⟨K5, E5, K9, B9', P9, G9, n9, y9, l9⟩ := HQ2
            have e5 := E5.cell 0
            have f5 := E5.frozen 0
            simp at e5
            have HT3 := Lib.hid (show X5.cell? ⟨t, 2, none⟩ = some (.int .u32 (q : Int)) from (LK.out _ K5).2.2.2.2.2.1)
            have HT4 := Lib.hid ((LK.out _ K9).2.2.2.2.2.1)
            refine ⟨HT3.out, ?_⟩
            simp only [Act.put, List.setIfInBounds_toArray, List.set_cons_zero, List.set_cons_succ]
            refine RD.h_any [6] (by kernel_rfl) (by simp) (RD.one_of ?_)
            refine RD.h_skip (X5.setCell ⟨dP + 1, 0, none⟩ (.slice (some ⟨g2, 0, none⟩) (cn + 1 + k) cap2)) rfl (by rfl) (by go_simp) ⟨HT4.out, ?_⟩
            simp only [Act.put, List.setIfInBounds_toArray, List.set_cons_zero, List.set_cons_succ]
            refine RD.h_done (by kernel_rfl) ?_
            obtain ⟨Z, hZ⟩ : ∃ Z, X5.setCell ⟨dP + 1, 0, none⟩ (.slice (some ⟨g2, 0, none⟩) (cn + 1 + k) cap2) = Z := ⟨_, rfl⟩
            rw [hZ] at K9 B9' P9 G9 l9 ⊢
            rw [HCF.out] at P9 G9
            have KZ := Lib.hid K9
            have BZ := Lib.hid B9'
            have PZ := Lib.hid P9
            have GZ := Lib.hid G9
            have NZ := Lib.hid (show (v.ownBlock = some g2 ∨ W2.heap.size ≤ g2) ∧ g2 < Z.heap.size from ⟨by
              rcases y9 with h9 | h9
              · simp [Value.ownBlock] at h9
                subst h9
                exact NY.out.2.1
              · exact .inr h9, l9⟩)
            clear K5 E5 K9 B9' P9 G9 n9 y9 l9 o5 g5 a5 l5 hZ e5 f5 e0 e6 HT0 HT1 HT3 HT4
            have EZ := Lib.hid (KZ.out.bk HE.out HE.out.lt (by
              rintro (e | e)
              · have := HD.out; omega
              · have := HV.out _ e; have := HD.out; omega))
            have SKZ := Lib.hid (KZ.out.sl (treeE_fp _ _ _ _ _) SK.out (fun b hb => ⟨by have := HD.out; omega, by
              rintro (e | e)
              · have := HD.out; omega
              · have := HV.out _ e; have := HD.out; omega⟩))
            have ROZ := Lib.hid (root_any sec sd j tr k Ak ck _ Z SKZ.out)
            have z0 : Z.cell? ⟨d2, 0, none⟩ = some (.slice AS 32 cS) := EZ.out.cell 0
            have z1 := EZ.out.frozen 0
            gi_wp2_with (refine ⟨trivial, ?_⟩; gi_at_call 26; refine (calls_in ROZ.out).mono ?_; rintro e Z2 ⟨⟨A7', c7', rfl, r7', a7'⟩, hz2'⟩; obtain rfl := hz2'; have R7' := Lib.hid r7'; have LA := Lib.hid (show ∀ a, A7' = some a → a.block < d2 from fun a ha => by have := a7' a ha; have := HD.out; omega); clear r7' a7')
            have KF := Lib.hid ((KZ.out.mono (n' := W2.heap.size) (E' := fun b => b = d2 ∨ b = dP + 1 ∨ v.ownBlock = some b) (Nat.le_refl _) fun b _ e => .inr e).trans (KX.set (.inl rfl) Z 0 (.slice A7' 32 c7')))
            have HFIN := PI.done (cap := cap2) HWB.out.1 HD.out.2.2.2.1 (by omega) (by omega) (by have := HSM.out; omega) HI.out (by have := HSM.out; have := HTW.out; omega) HV3.out (fun b e => own_cells HR.out.own e) KF.out (BZ.out.setCell (p := ⟨d2, 0, none⟩) HWB.out.1 _) (EZ.out.put 0 (.slice A7' 32 c7')) (by rw [HON.out]; exact rd_box R7'.out EZ.out no_u8_slice 0 _) LA.out (PZ.out.far (by show dP + 1 ≠ d2; have := HD.out; omega) _) (GZ.out.boxR EZ.out no_u8_slice (fun e => by
              simp [Value.ownBlock] at e
              rcases NZ.out.1 with h9 | h9
              · have := HV.out _ h9; have := HD.out; omega
              · have := HD.out; omega)) NZ.out.1 (by simpa using NZ.out.2)
            exact ⟨HFIN.1, HFIN.2.1, HFIN.2.2.1, fun z' hz' => HFIN.2.2.2 z' (by simpa using hz')⟩
        · have K2 := Lib.hid (K1.out.trans (KX.bel ((Below.refl _ _).alloc (Nat.le_refl _) (.cells #[.slice A5 2144 c5] 24)) K1.out.size))
          have HS2 := Lib.hid (LK.out _ K2.out)
          refine RD.h_run (.slice (some ⟨X1.heap.size, 0, none⟩) 1 1) (X1.alloc (.cells #[.slice A5 2144 c5] 24)) rfl (by rfl) (by go_simp) ⟨HS2.out, ?_⟩
          simp only [Act.put, List.setIfInBounds_toArray, List.set_cons_zero, List.set_cons_succ]
          have e2 : (X1.alloc (.cells #[.slice A5 2144 c5] 24)).cell? ⟨dP + 1, 0, none⟩ = some v := ((E1.alloc _).cell 0).trans (by simp)
          refine RD.h_any [0] (by kernel_rfl) (by simp) (RD.one_of ?_)
          refine RD.h_run v (X1.alloc (.cells #[.slice A5 2144 c5] 24)) rfl (by rfl) (by go_simp) ⟨HS2.out, ?_⟩
          simp only [Act.put, List.setIfInBounds_toArray, List.set_cons_zero, List.set_cons_succ]
          refine RD.h_any [11] (by kernel_rfl) (by simp) (RD.one_of ?_)
          refine RD.h_op rfl (step_append_lies _ (by rfl) (.tmp 73) (.tmp 83) 61 (by rfl) w.heap.size 24 iA _ 1 24 Tryz.underlying61 HIA.out hz0 hz1 hz2 rfl (by omega) v cn vs (by rfl) ((own_below HR.out.own.drew B5.out).alloc _) ⟨X1.heap.size, 0, none⟩ 1 1 [.slice A5 2144 c5] (by rfl) (by rfl) (World.news_of_block (heap_alloc_new X1 _)) (by simp [Value.oneCell']) (by omega) (by simp only [maxLen]; omega) (by omega) (by have q1 := B5.out.size; have q2 := BW2.out.size; have q3 : W2.drew.heap.size = W2.heap.size := rfl; simp only [World.size_alloc]; omega) (X1.heap.size + 1) (by simp) ?_)
          intro gg cap X3 o3 g3 a3 l3
          have HQ := push_step (f := partR sec slt sd k n tx) (w := w) (W := W2) (Y := W2.drew) (E2 := (fun b => b = dP + 1 ∨ v.ownBlock = some b)) (EP := dP + 1) (KX.bel (Below.refl _ _).drew (Nat.le_refl _)) BW2.out.drew (.inl rfl) HWB.out.2 HP.out.drew (HR.out.below (rowE_fp _) (Below.refl _ _).drew) (fun e => by have := HV.out _ e; omega) (fun r e => .inr (.inr e)) hcn0 (B5.out.alloc B5.out.size (.cells #[.slice A5 2144 c5] 24)) (news := [.slice A5 2144 c5]) (m := 1) (fun i hi => by
            obtain rfl : i = 0 := by omega
            refine ⟨_, rfl, (rowE_fp _).weak ((rowE_fp _).keep (rowE_new O5.out HPS.out) ((Below.refl X1.heap.size X1).alloc (Nat.le_refl _) (.cells #[.slice A5 2144 c5] 24)).size (fun b _ hlt => ((Below.refl X1.heap.size X1).alloc (Nat.le_refl _) (.cells #[.slice A5 2144 c5] 24)).block b hlt)) fun b hb => ⟨?_, fun e => ?_⟩⟩
            · have := BW2.out.size; have q3 : W2.drew.heap.size = W2.heap.size := rfl; omega
            · have := (HR.out.own.lt b e).2; have q3 : W2.drew.heap.size = W2.heap.size := rfl; omega) o3 g3 (by simpa using a3) l3
          obtain ⟨K3, E3, K8, B8, P8, G8, n8, y8, l8⟩ := HQ
          have e3 := E3.cell 0
          have f3 := E3.frozen 0
          simp at e3
          have HS3 := Lib.hid (LK.out _ K3)
          have HS4 := Lib.hid (LK.out _ K8)
          refine ⟨HS3.out, ?_⟩
          simp only [Act.put, List.setIfInBounds_toArray, List.set_cons_zero, List.set_cons_succ]
          refine RD.h_any [12] (by kernel_rfl) (by simp) (RD.one_of ?_)
          refine RD.h_skip (X3.setCell ⟨dP + 1, 0, none⟩ (.slice (some ⟨gg, 0, none⟩) (cn + 1) cap)) rfl (by rfl) (by go_simp) ⟨HS4.out, ?_⟩
          simp only [Act.put, List.setIfInBounds_toArray, List.set_cons_zero, List.set_cons_succ]
          refine RD.h_done (by kernel_rfl) ?_
          obtain ⟨Y, hY⟩ : ∃ Y, X3.setCell ⟨dP + 1, 0, none⟩ (.slice (some ⟨gg, 0, none⟩) (cn + 1) cap) = Y := ⟨_, rfl⟩
          rw [hY] at K8 B8 P8 G8 l8 ⊢
          have KY := Lib.hid K8
          have BY := Lib.hid B8
          have PY := Lib.hid P8
          have GY := Lib.hid G8
          have NY := Lib.hid (show gg ≠ dP + 1 ∧ (v.ownBlock = some gg ∨ W2.heap.size ≤ gg) ∧ gg < Y.heap.size from ⟨n8, y8, l8⟩)
          clear K3 E3 K8 B8 P8 G8 n8 y8 l8 o3 g3 a3 l3 hY e3 f3 e0 e1 HS0 HS1 HS2 HS3 HS4 r1 r2
          have KYD := Lib.hid (KY.out.trans (KX.bel (Below.refl _ _).drew KY.out.size))
          have HT0 := Lib.hid (show Y.drew.cell? ⟨t, 2, none⟩ = some (.int .u32 (q : Int)) from (LK.out _ KYD.out).2.2.2.2.2.1)
          have e0 : Y.drew.cell? ⟨dP + 1, 0, none⟩ = some (.slice (some ⟨gg, 0, none⟩) (cn + 1) cap) := by have := PY.out.drew.cell 0; simpa using this
          have SKY := Lib.hid (KYD.out.sl (treeE_fp _ _ _ _ _) SK.out (fun b hb => ⟨by have := HD.out; omega, by
            rintro (e | e)
            · have := HD.out; omega
            · have := HV.out _ e; have := HD.out; omega⟩))
          gi_wp2_with (fail)
          refine RD.h_begin (fun X => X.cell? ⟨t, 2, none⟩ = some (.int .u32 (q : Int))) 7 (by kernel_rfl) ?_ (by kernel_rfl) rfl ?_
          · rintro ⟨_, _, h, _⟩
            cases h
          refine RD.h_take 1 (.slice Ak (k + 1) ck) rfl (by kernel_rfl) (by kernel_rfl) (by kernel_rfl) (fun _ _ _ h => h) (by rfl) HT0.out (fun X hX => ?_) ?_
          · go_simp
          simp only [Act.put, List.setIfInBounds_toArray, List.set_cons_zero, List.set_cons_succ]
          refine RD.h_take 2 (.pointer (some ⟨t, 2, none⟩)) rfl (by kernel_rfl) (by kernel_rfl) (by kernel_rfl) (fun _ _ _ h => h) (by rfl) HT0.out (fun X hX => ?_) ?_
          · go_simp
          simp only [Act.put, List.setIfInBounds_toArray, List.set_cons_zero, List.set_cons_succ]
          refine RD.h_take 3 (.int .u32 (q : Int)) rfl (by kernel_rfl) (by kernel_rfl) (by kernel_rfl) (fun _ _ _ h => h) (by rfl) HT0.out (fun X hX => ?_) ?_
          · go_simp
          simp only [Act.put, List.setIfInBounds_toArray, List.set_cons_zero, List.set_cons_succ]
          have WAC := Lib.hid (show Calls Tryz.prog 29 #[.slice Ak (k + 1) ck, .int .u32 (q : Int)] Y.drew _ from way_any sec sd j tr k q hq2 (by have := HL.out; omega) Ak ck (fun b => wL.heap.size ≤ b ∧ b < W.heap.size) Y.drew SKY.out)
          clear hq2
          refine RD.h_any [0, 4] (by kernel_rfl) (by simp) (RD.two_of ?_ ?_)
          · refine RD.h_run (.slice (some ⟨gg, 0, none⟩) (cn + 1) cap) Y.drew rfl (by rfl) (by go_simp) ⟨HT0.out, ?_⟩
            simp only [Act.put, List.setIfInBounds_toArray, List.set_cons_zero, List.set_cons_succ]
            refine RD.h_any [4] (by kernel_rfl) (by simp) (RD.one_of ?_)
            refine RD.h_call 29 #[.slice Ak (k + 1) ck, .int .u32 (q : Int)] rfl (by rfl) (by go_simp) (WAC.out.mono ?_)
            rintro e X4 ⟨A6', c6', vs6, rfl, o6, el6, b6⟩
            obtain ⟨gw, hgw⟩ : ∃ gw, A6' = some ⟨gw, 0, none⟩ := by
              rcases o6.2 with ⟨_, h9⟩ | ⟨gw, _, _, h9, _⟩
              · have := HL.out; omega
              · injection h9 with h9
                exact ⟨gw, h9⟩
            subst hgw
            have O6' := Lib.hid o6
            have EL6 := Lib.hid el6
            have B6' := Lib.hid b6
            have E6 := PY.out.drew.below b6 PY.out.drew.lt
            have e6 := E6.cell 0
            simp at e6
            have HT1 := Lib.hid (show X4.cell? ⟨t, 2, none⟩ = some (.int .u32 (q : Int)) from (LK.out _ (KYD.out.trans (KX.bel b6 KYD.out.size))).2.2.2.2.2.1)
            clear o6 el6 b6
            refine ⟨_, rfl, HT1.out, ?_⟩
            simp only [Act.put, List.setIfInBounds_toArray, List.set_cons_zero, List.set_cons_succ]
            refine RD.h_any [5] (by kernel_rfl) (by simp) (RD.one_of ?_)
            refine RD.h_op rfl (step_append_lies _ (by rfl) (.tmp 85) (.tmp 89) 61 (by rfl) w.heap.size 24 iA _ 1 24 Tryz.underlying61 HIA.out hz0 hz1 hz2 rfl (by omega) (.slice (some ⟨gg, 0, none⟩) (cn + 1) cap) (cn + 1) (vs ++ [.slice A5 2144 c5]) (by rfl) (own_below GY.out.own.drew B6'.out) ⟨gw, 0, none⟩ k c6' vs6 (by rfl) (by have := O6'.out.1; omega) (O6'.out.cells (g := gw) rfl) (fun u hu => by
              obtain ⟨i, hi, hiu⟩ := List.getElem_of_mem hu
              obtain ⟨u', h8, h9⟩ := EL6.out i (by have := O6'.out.1; omega)
              obtain ⟨_, _, _, h7, _⟩ := h9
              rw [List.getElem?_eq_getElem hi, hiu] at h8
              cases h8
              rw [h7]
              rfl) (by have := HL.out; omega) (by have := HL.out; simp only [maxLen]; omega) (by have := HL.out; omega) (by have q1 := B6'.out.size; have q2 := BY.out.size; have q3 : Y.drew.heap.size = Y.heap.size := rfl; omega) X4.heap.size rfl ?_)
            intro g2 cap2 X5 o5 g5 a5 l5
            have HQ2 := push_step (f := partR sec slt sd k n tx) (w := w) (W := W2) (Y := Y.drew) (E2 := (fun b => b = dP + 1 ∨ v.ownBlock = some b)) (EP := dP + 1) KYD.out BY.out.drew (.inl rfl) HWB.out.2 PY.out.drew (GY.out.below (rowE_fp _) (Below.refl _ _).drew) (fun e => by have := NY.out.1; simp [Value.ownBlock] at e; omega) (fun r e => by
              simp [Value.ownBlock] at e
              subst e
              rcases NY.out.2.1 with h9 | h9
              · exact .inr (.inr h9)
              · exact .inl h9) (by omega) B6'.out (news := vs6) (m := k) (fun i hi => by
              obtain ⟨u', h8, A9, n9, c9, rfl, h7, h6⟩ := EL6.out i hi
              refine ⟨_, h8, A9, n9, c9, rfl, by rw [HPW.out i hi]; exact h7, fun a hn ha => ?_⟩
              have h5 := h6 a hn ha
              have hw1 := BL.out.size
              refine ⟨by omega, fun e => ?_⟩
              simp [Value.ownBlock] at e
              rcases NY.out.2.1 with h9 | h9
              · have := HV.out _ h9; have := HD.out; omega
              · have := HD.out; omega) o5 g5 a5 l5
            obtain ⟨K5, E5, K9, B9', P9, G9, n9, y9, l9⟩ := HQ2
            have e5 := E5.cell 0
            have f5 := E5.frozen 0
            simp at e5
            have HT3 := Lib.hid (show X5.cell? ⟨t, 2, none⟩ = some (.int .u32 (q : Int)) from (LK.out _ K5).2.2.2.2.2.1)
            have HT4 := Lib.hid ((LK.out _ K9).2.2.2.2.2.1)
            refine ⟨HT3.out, ?_⟩
            simp only [Act.put, List.setIfInBounds_toArray, List.set_cons_zero, List.set_cons_succ]
            refine RD.h_any [6] (by kernel_rfl) (by simp) (RD.one_of ?_)
            refine RD.h_skip (X5.setCell ⟨dP + 1, 0, none⟩ (.slice (some ⟨g2, 0, none⟩) (cn + 1 + k) cap2)) rfl (by rfl) (by go_simp) ⟨HT4.out, ?_⟩
            simp only [Act.put, List.setIfInBounds_toArray, List.set_cons_zero, List.set_cons_succ]
            refine RD.h_done (by kernel_rfl) ?_
            obtain ⟨Z, hZ⟩ : ∃ Z, X5.setCell ⟨dP + 1, 0, none⟩ (.slice (some ⟨g2, 0, none⟩) (cn + 1 + k) cap2) = Z := ⟨_, rfl⟩
            rw [hZ] at K9 B9' P9 G9 l9 ⊢
            rw [HCF.out] at P9 G9
            have KZ := Lib.hid K9
            have BZ := Lib.hid B9'
            have PZ := Lib.hid P9
            have GZ := Lib.hid G9
            have NZ := Lib.hid (show (v.ownBlock = some g2 ∨ W2.heap.size ≤ g2) ∧ g2 < Z.heap.size from ⟨by
              rcases y9 with h9 | h9
              · simp [Value.ownBlock] at h9
                subst h9
                exact NY.out.2.1
              · exact .inr h9, l9⟩)
            clear K5 E5 K9 B9' P9 G9 n9 y9 l9 o5 g5 a5 l5 hZ e5 f5 e0 e6 HT0 HT1 HT3 HT4
            have EZ := Lib.hid (KZ.out.bk HE.out HE.out.lt (by
              rintro (e | e)
              · have := HD.out; omega
              · have := HV.out _ e; have := HD.out; omega))
            have SKZ := Lib.hid (KZ.out.sl (treeE_fp _ _ _ _ _) SK.out (fun b hb => ⟨by have := HD.out; omega, by
              rintro (e | e)
              · have := HD.out; omega
              · have := HV.out _ e; have := HD.out; omega⟩))
            have ROZ := Lib.hid (root_any sec sd j tr k Ak ck _ Z SKZ.out)
            have z0 : Z.cell? ⟨d2, 0, none⟩ = some (.slice AS 32 cS) := EZ.out.cell 0
            have z1 := EZ.out.frozen 0
            gi_wp2_with (refine ⟨trivial, ?_⟩; gi_at_call 26; refine (calls_in ROZ.out).mono ?_; rintro e Z2 ⟨⟨A7', c7', rfl, r7', a7'⟩, hz2'⟩; obtain rfl := hz2'; have R7' := Lib.hid r7'; have LA := Lib.hid (show ∀ a, A7' = some a → a.block < d2 from fun a ha => by have := a7' a ha; have := HD.out; omega); clear r7' a7')
            have KF := Lib.hid ((KZ.out.mono (n' := W2.heap.size) (E' := fun b => b = d2 ∨ b = dP + 1 ∨ v.ownBlock = some b) (Nat.le_refl _) fun b _ e => .inr e).trans (KX.set (.inl rfl) Z 0 (.slice A7' 32 c7')))
            have HFIN := PI.done (cap := cap2) HWB.out.1 HD.out.2.2.2.1 (by omega) (by omega) (by have := HSM.out; omega) HI.out (by have := HSM.out; have := HTW.out; omega) HV3.out (fun b e => own_cells HR.out.own e) KF.out (BZ.out.setCell (p := ⟨d2, 0, none⟩) HWB.out.1 _) (EZ.out.put 0 (.slice A7' 32 c7')) (by rw [HON.out]; exact rd_box R7'.out EZ.out no_u8_slice 0 _) LA.out (PZ.out.far (by show dP + 1 ≠ d2; have := HD.out; omega) _) (GZ.out.boxR EZ.out no_u8_slice (fun e => by
              simp [Value.ownBlock] at e
              rcases NZ.out.1 with h9 | h9
              · have := HV.out _ h9; have := HD.out; omega
              · have := HD.out; omega)) NZ.out.1 (by simpa using NZ.out.2)
            exact ⟨HFIN.1, HFIN.2.1, HFIN.2.2.1, fun z' hz' => HFIN.2.2.2 z' (by simpa using hz')⟩
          · refine RD.h_call 29 #[.slice Ak (k + 1) ck, .int .u32 (q : Int)] rfl (by rfl) (by go_simp) (WAC.out.mono ?_)
            rintro e X4 ⟨A6', c6', vs6, rfl, o6, el6, b6⟩
            obtain ⟨gw, hgw⟩ : ∃ gw, A6' = some ⟨gw, 0, none⟩ := by
              rcases o6.2 with ⟨_, h9⟩ | ⟨gw, _, _, h9, _⟩
              · have := HL.out; omega
              · injection h9 with h9
                exact ⟨gw, h9⟩
            subst hgw
            have O6' := Lib.hid o6
            have EL6 := Lib.hid el6
            have B6' := Lib.hid b6
            have E6 := PY.out.drew.below b6 PY.out.drew.lt
            have e6 := E6.cell 0
            simp at e6
            have HT1 := Lib.hid (show X4.cell? ⟨t, 2, none⟩ = some (.int .u32 (q : Int)) from (LK.out _ (KYD.out.trans (KX.bel b6 KYD.out.size))).2.2.2.2.2.1)
            clear o6 el6 b6
            refine ⟨_, rfl, HT1.out, ?_⟩
            simp only [Act.put, List.setIfInBounds_toArray, List.set_cons_zero, List.set_cons_succ]
            refine RD.h_any [0] (by kernel_rfl) (by simp) (RD.one_of ?_)
            refine RD.h_run (.slice (some ⟨gg, 0, none⟩) (cn + 1) cap) X4 rfl (by rfl) (by go_simp) ⟨HT1.out, ?_⟩
            simp only [Act.put, List.setIfInBounds_toArray, List.set_cons_zero, List.set_cons_succ]
            refine RD.h_any [5] (by kernel_rfl) (by simp) (RD.one_of ?_)
            refine RD.h_op rfl (step_append_lies _ (by rfl) (.tmp 85) (.tmp 89) 61 (by rfl) w.heap.size 24 iA _ 1 24 Tryz.underlying61 HIA.out hz0 hz1 hz2 rfl (by omega) (.slice (some ⟨gg, 0, none⟩) (cn + 1) cap) (cn + 1) (vs ++ [.slice A5 2144 c5]) (by rfl) (own_below GY.out.own.drew B6'.out) ⟨gw, 0, none⟩ k c6' vs6 (by rfl) (by have := O6'.out.1; omega) (O6'.out.cells (g := gw) rfl) (fun u hu => by
              obtain ⟨i, hi, hiu⟩ := List.getElem_of_mem hu
              obtain ⟨u', h8, h9⟩ := EL6.out i (by have := O6'.out.1; omega)
              obtain ⟨_, _, _, h7, _⟩ := h9
              rw [List.getElem?_eq_getElem hi, hiu] at h8
              cases h8
              rw [h7]
              rfl) (by have := HL.out; omega) (by have := HL.out; simp only [maxLen]; omega) (by have := HL.out; omega) (by have q1 := B6'.out.size; have q2 := BY.out.size; have q3 : Y.drew.heap.size = Y.heap.size := rfl; omega) X4.heap.size rfl ?_)
            intro g2 cap2 X5 o5 g5 a5 l5
            have HQ2 := push_step (f := partR sec slt sd k n tx) (w := w) (W := W2) (Y := Y.drew) (E2 := (fun b => b = dP + 1 ∨ v.ownBlock = some b)) (EP := dP + 1) KYD.out BY.out.drew (.inl rfl) HWB.out.2 PY.out.drew (GY.out.below (rowE_fp _) (Below.refl _ _).drew) (fun e => by have := NY.out.1; simp [Value.ownBlock] at e; omega) (fun r e => by
              simp [Value.ownBlock] at e
              subst e
              rcases NY.out.2.1 with h9 | h9
              · exact .inr (.inr h9)
              · exact .inl h9) (by omega) B6'.out (news := vs6) (m := k) (fun i hi => by
              obtain ⟨u', h8, A9, n9, c9, rfl, h7, h6⟩ := EL6.out i hi
              refine ⟨_, h8, A9, n9, c9, rfl, by rw [HPW.out i hi]; exact h7, fun a hn ha => ?_⟩
              have h5 := h6 a hn ha
              have hw1 := BL.out.size
              refine ⟨by omega, fun e => ?_⟩
              simp [Value.ownBlock] at e
              rcases NY.out.2.1 with h9 | h9
              · have := HV.out _ h9; have := HD.out; omega
              · have := HD.out; omega) o5 g5 a5 l5
            obtain ⟨K5, E5, K9, B9', P9, G9, n9, y9, l9⟩ := HQ2
            have e5 := E5.cell 0
            have f5 := E5.frozen 0
            simp at e5
            have HT3 := Lib.hid (show X5.cell? ⟨t, 2, none⟩ = some (.int .u32 (q : Int)) from (LK.out _ K5).2.2.2.2.2.1)
            have HT4 := Lib.hid ((LK.out _ K9).2.2.2.2.2.1)
            refine ⟨HT3.out, ?_⟩
            simp only [Act.put, List.setIfInBounds_toArray, List.set_cons_zero, List.set_cons_succ]
            refine RD.h_any [6] (by kernel_rfl) (by simp) (RD.one_of ?_)
            refine RD.h_skip (X5.setCell ⟨dP + 1, 0, none⟩ (.slice (some ⟨g2, 0, none⟩) (cn + 1 + k) cap2)) rfl (by rfl) (by go_simp) ⟨HT4.out, ?_⟩
            simp only [Act.put, List.setIfInBounds_toArray, List.set_cons_zero, List.set_cons_succ]
            refine RD.h_done (by kernel_rfl) ?_
            obtain ⟨Z, hZ⟩ : ∃ Z, X5.setCell ⟨dP + 1, 0, none⟩ (.slice (some ⟨g2, 0, none⟩) (cn + 1 + k) cap2) = Z := ⟨_, rfl⟩
            rw [hZ] at K9 B9' P9 G9 l9 ⊢
            rw [HCF.out] at P9 G9
            have KZ := Lib.hid K9
            have BZ := Lib.hid B9'
            have PZ := Lib.hid P9
            have GZ := Lib.hid G9
            have NZ := Lib.hid (show (v.ownBlock = some g2 ∨ W2.heap.size ≤ g2) ∧ g2 < Z.heap.size from ⟨by
              rcases y9 with h9 | h9
              · simp [Value.ownBlock] at h9
                subst h9
                exact NY.out.2.1
              · exact .inr h9, l9⟩)
            clear K5 E5 K9 B9' P9 G9 n9 y9 l9 o5 g5 a5 l5 hZ e5 f5 e0 e6 HT0 HT1 HT3 HT4
            have EZ := Lib.hid (KZ.out.bk HE.out HE.out.lt (by
              rintro (e | e)
              · have := HD.out; omega
              · have := HV.out _ e; have := HD.out; omega))
            have SKZ := Lib.hid (KZ.out.sl (treeE_fp _ _ _ _ _) SK.out (fun b hb => ⟨by have := HD.out; omega, by
              rintro (e | e)
              · have := HD.out; omega
              · have := HV.out _ e; have := HD.out; omega⟩))
            have ROZ := Lib.hid (root_any sec sd j tr k Ak ck _ Z SKZ.out)
            have z0 : Z.cell? ⟨d2, 0, none⟩ = some (.slice AS 32 cS) := EZ.out.cell 0
            have z1 := EZ.out.frozen 0
            gi_wp2_with (refine ⟨trivial, ?_⟩; gi_at_call 26; refine (calls_in ROZ.out).mono ?_; rintro e Z2 ⟨⟨A7', c7', rfl, r7', a7'⟩, hz2'⟩; obtain rfl := hz2'; have R7' := Lib.hid r7'; have LA := Lib.hid (show ∀ a, A7' = some a → a.block < d2 from fun a ha => by have := a7' a ha; have := HD.out; omega); clear r7' a7')
            have KF := Lib.hid ((KZ.out.mono (n' := W2.heap.size) (E' := fun b => b = d2 ∨ b = dP + 1 ∨ v.ownBlock = some b) (Nat.le_refl _) fun b _ e => .inr e).trans (KX.set (.inl rfl) Z 0 (.slice A7' 32 c7')))
            have HFIN := PI.done (cap := cap2) HWB.out.1 HD.out.2.2.2.1 (by omega) (by omega) (by have := HSM.out; omega) HI.out (by have := HSM.out; have := HTW.out; omega) HV3.out (fun b e => own_cells HR.out.own e) KF.out (BZ.out.setCell (p := ⟨d2, 0, none⟩) HWB.out.1 _) (EZ.out.put 0 (.slice A7' 32 c7')) (by rw [HON.out]; exact rd_box R7'.out EZ.out no_u8_slice 0 _) LA.out (PZ.out.far (by show dP + 1 ≠ d2; have := HD.out; omega) _) (GZ.out.boxR EZ.out no_u8_slice (fun e => by
              simp [Value.ownBlock] at e
              rcases NZ.out.1 with h9 | h9
              · have := HV.out _ h9; have := HD.out; omega
              · have := HD.out; omega)) NZ.out.1 (by simpa using NZ.out.2)
            exact ⟨HFIN.1, HFIN.2.1, HFIN.2.2.1, fun z' hz' => HFIN.2.2.2 z' (by simpa using hz')⟩
    case done' =>
      intro D2 z W2 hD2 hI hK2
      obtain ⟨v, vs, p1, p2, p3⟩ := hI.got
      obtain ⟨AP, cP, rfl⟩ := p2.form
      have HRB := Lib.hid (sl_rows (p2.read (rowE_fp _)))
      have HFL := Lib.hid (show ((List.range (2 + l * (k + 1))).map (partR sec slt sd k n tx)).flatten = SG by rw [cat_flat]; exact HSG.out)
      have HP := Lib.hid p1
      have BW2 := Lib.hid hI.bel
      have HK2 := Lib.hid hK2
      have HD2 := Lib.hid hD2
      have HDD := Lib.hid (show D < wM.heap.size from Nat.lt_of_lt_of_le HDW.out BM.out.size)
      have HKD2 := Lib.hid (show W2.heap[D]? = some (.deferred (some [])) from (hI.ke.same D HDD.out (by have := HDW.out; have := L9.out; have := L12.out; omega)).trans KDM.out)
      have e0 : W2.cell? ⟨dP + 1, 0, none⟩ = some (.slice AP (2 + l * (k + 1)) cP) := HP.out.cell 0
      clear p1 p2 p3 hI hK2 hD2
      have CAC := Lib.hid (show Calls Tryz.prog 30 #[.slice AP (2 + l * (k + 1)) cP] W2 (New W2.heap.size W2 SG) from by
        have h9 := cat_any AP (2 + l * (k + 1)) cP _ W2 HRB.out (by rw [HFL.out, HGL.out]; have := HZ.out; omega)
        rw [HFL.out] at h9
        exact h9)
      obtain ⟨cnt, hcnt⟩ : ∃ cnt, 2 + l * (k + 1) = cnt := ⟨_, rfl⟩
      rw [hcnt] at e0 CAC
      clear hcnt
      go_wp2_with (go_at_call 30; ((with_reducible refine CAC.out.mono ?_); rintro e w20 ⟨A20, n20, c20, rfl, q20, b20⟩; obtain rfl := own_len q20; have O20 := Lib.hid q20; have B20 := Lib.hid b20; clear q20 b20))
      have MK2 := below_at B20.out HK2.out
      have MK1 : (w20.putObj D2 (.deferred none)).heap[D]? = some (.deferred (some [])) := (World.putObj_heap_other (by have := HDD.out; have := HD2.out; omega)).trans (below_at B20.out HKD2.out)
      refine ⟨by simp, .inl ⟨_, _, rfl, run_takeDeferred MK2, ?_⟩⟩
      refine ⟨by simp, .inl ⟨_, _, rfl, run_takeDeferred MK1, ?_⟩⟩
      refine ⟨_, results_tmp2 rfl _ _ _, A20, c20, rfl, ?_, ?_⟩
      · exact (CK.putObj MK1 rfl).rd ((CK.putObj MK2 rfl).rd (Rd.own O20.out))
      · refine ((BW2.out.trans (B20.out.mono BW2.out.size)).trans (belowK_b (w := wM) (BX.out _ BM.out).size w20 D2 _ _ HD2.out MK2 rfl rfl)).trans (belowK_b (w := wL) BL.out.size _ D _ _ HDL.out MK1 rfl rfl)
end Go.Proofs.YtkpfppiedadmbaaGreatDoor.S16
