/-
  The landed package mac: a text's sum with a key. No statement is proved here.
-/
import Derived.Test.YtjgcaodicbikiaaDoorMacK2
import Derived.Deep.RegionHeld3
import Derived.Deep.Cut
namespace Go.Proofs.YtjgcaodicbikiaaDoor.S6
set_option linter.unusedSimpArgs false
set_option linter.unusedVariables false
open Go.RowKit

theorem keepK {W : World} {g : Nat} {T : TypeId} {sz bl : Int} {F : FuncId} (h : Bk W g T (kA sz bl F)) : W.cell? ⟨g, 2, none⟩ = some (.func (.func F) #[] #[]) := h.cell 2
theorem keyK_len (k : Int) (key : List UInt8) (bl : Nat) (hb : blK k = bl) (hs : szK k ≤ bl) : (keyK k key).length ≤ bl := by
  unfold keyK
  split
  · rw [sumK_length]; exact hs
  · omega
theorem macK_pad (k : Int) (bl : Nat) (key text : List UInt8) (hb : blK k = bl) (h0 : bl ≠ 0) (hl : (keyK k key).length ≤ bl) :
    macK k key text = sumK k ((padK bl (keyK k key)).map (· ^^^ 92) ++ sumK k ((padK bl (keyK k key)).map (· ^^^ 54) ++ text)) := by
  rw [macK, hb, if_neg h0, padK_row _ _ _ hl, padK_row _ _ _ hl]
set_option maxHeartbeats 4000000 in
theorem mac_0 (A : Option Addr) (n c : Nat) (key : List UInt8) (At : Option Addr) (nt ct : Nat) (text : List UInt8) (w : World) (hg : GK w) (h1 : Rd w A n c key) (h2 : Rd w At nt ct text) (hn : n ≤ 100000) (hnt : nt ≤ 100000) :
    Calls Tryd.prog 14 #[.int .i64 0, .slice A n c, .slice At nt ct] w (GivesF w.heap.size w (macK 0 key text)) := by
  have hkl := keyK_len 0 key 64 rfl (by decide)
  obtain ⟨KY, hKY⟩ : ∃ KY, KY = padK 64 (keyK 0 key) := ⟨_, rfl⟩
  obtain ⟨X, hX⟩ : ∃ X, X = KY.map (· ^^^ 92) := ⟨_, rfl⟩
  obtain ⟨Y, hY⟩ : ∃ Y, Y = KY.map (· ^^^ 54) := ⟨_, rfl⟩
  obtain ⟨I, hI⟩ : ∃ I, I = sumK 0 (Y ++ text) := ⟨_, rfl⟩
  obtain ⟨Z, hZ⟩ : ∃ Z, Z = sumK 0 (X ++ I) := ⟨_, rfl⟩
  have e : macK 0 key text = Z := by
    rw [hZ, hI, hX, hY, hKY]
    exact macK_pad 0 64 key text rfl (by decide) hkl
  rw [e]
  have KL := Lib.hid (show KY.length = 64 by rw [hKY]; exact padK_length _ _ hkl)
  have XL := Lib.hid (show X.length = 64 by rw [hX, List.length_map, KL.out])
  have YL := Lib.hid (show Y.length = 64 by rw [hY, List.length_map, KL.out])
  have IL := Lib.hid (show I.length = 32 by rw [hI]; exact sumK_length 0 _)
  have TL := Lib.hid h2.len
  have HG := Lib.hid hg
  have HF := Lib.hid (show ∀ (A : Option Addr) (c : Nat) (W : World), GK W → Rd W A n c key → Calls Tryd.prog 23 #[.agg (kA 32 64 32), .slice A n c] W (New W.heap.size W KY) from fun A c W g h => by rw [hKY]; exact fill_0 A n c key W g h (by omega))
  have HX := Lib.hid (show ∀ (A : Option Addr) (c : Nat) (W : World), Rd W A 64 c KY → Calls Tryd.prog 24 #[.slice A 64 c, .int .u8 92] W (New W.heap.size W X) from fun A c W h => by rw [hX]; exact turned_any A 64 c KY 92 W h (by omega))
  have HY := Lib.hid (show ∀ (A : Option Addr) (c : Nat) (W : World), Rd W A 64 c KY → Calls Tryd.prog 24 #[.slice A 64 c, .int .u8 54] W (New W.heap.size W Y) from fun A c W h => by rw [hY]; exact turned_any A 64 c KY 54 W h (by omega))
  have HI := Lib.hid (show ∀ (A : Option Addr) (W : World), GK W → RdBs W A 2 2 [Y, text] → Calls Tryd.prog 32 #[.slice A 2 2] W (New W.heap.size W I) from fun A W g h => by
    have := short_any A 2 2 [Y, text] W g h (by simp; have := YL.out; have := TL.out; omega)
    rw [hI]
    simpa using this)
  have HZ := Lib.hid (show ∀ (A : Option Addr) (W : World), GK W → RdBs W A 2 2 [X, I] → Calls Tryd.prog 32 #[.slice A 2 2] W (New W.heap.size W Z) from fun A W g h => by
    have := short_any A 2 2 [X, I] W g h (by simp; have := XL.out; have := IL.out; omega)
    rw [hZ]
    simpa using this)
  have R0 := Lib.hid h1
  have T0 := Lib.hid h2
  clear hg h1 h2 hn hnt hkl hKY hX hY hI hZ e
  go_enter Tryd.func14, Tryd.ntmps14
  go_upto_region 4 with (first
    | (go_at_call 20; ((with_reducible refine (find_0 _).mono ?_); rintro e w1 ⟨rfl, b1⟩; have B1 := Lib.hid (b1.alloc b1.size (.cells (kA 32 64 32) 40)); have R1 := Lib.hid ((R0.out.below b1).alloc (.cells (kA 32 64 32) 40)); have T1 := Lib.hid ((T0.out.below b1).alloc (.cells (kA 32 64 32) 40)); have O1 := Lib.hid (Bk.new w1 40 (kA 32 64 32)); clear b1)))
  obtain ⟨wk, hwk⟩ : ∃ wk, w1.alloc (.cells (kA 32 64 32) 40) = wk := ⟨_, rfl⟩
  obtain ⟨g, hgk⟩ : ∃ g, g = w1.heap.size := ⟨_, rfl⟩
  rw [hwk] at B1 R1 T1 O1 ⊢
  rw [← hgk] at O1 ⊢
  have c0 := O1.out.cell 0
  have c1 := O1.out.cell 1
  have c2 := O1.out.cell 2
  simp at c0 c1 c2
  clear hwk hgk
  go_upto_region 5 with (first
    | (go_at_call 23; ((with_reducible refine (HF.out _ _ _ (HG.out.below (Nat.le_refl _) B1.out) R1.out).mono ?_); intro e w3 h3; obtain ⟨A3, c3, rfl, r3, b3⟩ := new_len h3; rw [KL.out] at r3; rw [KL.out]; have R3 := Lib.hid r3; have B3 := Lib.hid (B1.out.trans (b3.mono B1.out.size)); have T3 := Lib.hid (T1.out.below b3); have O3 := Lib.hid (O1.out.below b3 O1.out.lt); clear h3 r3 b3)))
  have B4 := Lib.hid B3.out.drew
  have R4 := Lib.hid R3.out.drew
  have T4 := Lib.hid T3.out.drew
  have O4 := Lib.hid O3.out.drew
  clear c0 c1 c2
  first
  | (go_region_held3 (fun w' => w'.cell? ⟨g, 2, none⟩ = some (.func (.func 32) #[] #[]))
      (first
        | exact keepK O9.out
        | exact keepK O8.out
        | exact keepK (O7.out.alloc _)
        | exact keepK O7.out
        | exact keepK (O6.out.alloc _)
        | exact keepK O6.out
        | exact keepK O5.out
        | exact keepK O4.out)
      (first
        | (go_at_call 24; ((with_reducible refine (HX.out _ _ _ R4.out).mono ?_); intro e w5 h5; obtain ⟨A5, c5, rfl, r5, b5⟩ := new_len h5; rw [XL.out] at r5; rw [XL.out]; have R5 := Lib.hid r5; have B5 := Lib.hid (B4.out.trans (b5.mono B4.out.size)); have T5 := Lib.hid (T4.out.below b5); have O5 := Lib.hid (O4.out.below b5 O4.out.lt); have S5 := Lib.hid (R4.out.below b5); clear h5 r5 b5))
        | (go_at_call 24; ((with_reducible refine (HY.out _ _ _ S5.out).mono ?_); intro e w6 h6; obtain ⟨A6, c6, rfl, r6, b6⟩ := new_len h6; rw [YL.out] at r6; rw [YL.out]; have R6 := Lib.hid (RdBs.two (T := 22) r6 (T5.out.below b6) _ rfl); have B6 := Lib.hid (B5.out.trans (b6.mono B5.out.size)); have O6 := Lib.hid (O5.out.below b6 O5.out.lt); have S6 := Lib.hid (R5.out.below b6); clear h6 r6 b6))
        | (go_at_call 32; ((with_reducible refine (HI.out _ _ (HG.out.below (Nat.le_refl _) (B6.out.alloc B6.out.size _)) R6.out).mono ?_); intro e w7 h7; obtain ⟨A7, c7, rfl, r7, b7⟩ := new_len h7; rw [IL.out] at r7; rw [IL.out]; have B7 := Lib.hid ((B6.out.alloc B6.out.size (.cells #[.slice A6 64 c6, .slice At nt ct] 22)).trans (b7.mono (by have := B6.out.size; simp; omega))); have O7 := Lib.hid ((O6.out.alloc (.cells #[.slice A6 64 c6, .slice At nt ct] 22)).below b7 (by have := O6.out.lt; simp; omega)); have R7 := Lib.hid (RdBs.two (T := 22) ((S6.out.alloc (.cells #[.slice A6 64 c6, .slice At nt ct] 22)).below b7) r7 _ rfl); clear h7 r7 b7))
        | (go_at_call 32; ((with_reducible refine (HZ.out _ _ (HG.out.below (Nat.le_refl _) (B7.out.alloc B7.out.size _)) R7.out).mono ?_); intro e w8 h8; obtain ⟨A8, n8, c8, rfl, o8, b8⟩ := h8; have W8 := Lib.hid (New.from (B7.out.alloc B7.out.size (.cells #[.slice A5 64 c5, .slice A7 32 c7] 22)) ⟨A8, n8, c8, rfl, o8, b8⟩); have O8 := Lib.hid ((O7.out.alloc (.cells #[.slice A5 64 c5, .slice A7 32 c7] 22)).below b8 (by have := O7.out.lt; simp; omega)); clear o8 b8))
        | fail))
  | fail
  go_wp2
  go_ret
  exact GivesF.of_new W8.out
set_option maxHeartbeats 4000000 in
theorem mac_1 (A : Option Addr) (n c : Nat) (key : List UInt8) (At : Option Addr) (nt ct : Nat) (text : List UInt8) (w : World) (hg : GK w) (h1 : Rd w A n c key) (h2 : Rd w At nt ct text) (hn : n ≤ 100000) (hnt : nt ≤ 100000) :
    Calls Tryd.prog 14 #[.int .i64 1, .slice A n c, .slice At nt ct] w (GivesF w.heap.size w (macK 1 key text)) := by
  have hkl := keyK_len 1 key 128 rfl (by decide)
  obtain ⟨KY, hKY⟩ : ∃ KY, KY = padK 128 (keyK 1 key) := ⟨_, rfl⟩
  obtain ⟨X, hX⟩ : ∃ X, X = KY.map (· ^^^ 92) := ⟨_, rfl⟩
  obtain ⟨Y, hY⟩ : ∃ Y, Y = KY.map (· ^^^ 54) := ⟨_, rfl⟩
  obtain ⟨I, hI⟩ : ∃ I, I = sumK 1 (Y ++ text) := ⟨_, rfl⟩
  obtain ⟨Z, hZ⟩ : ∃ Z, Z = sumK 1 (X ++ I) := ⟨_, rfl⟩
  have e : macK 1 key text = Z := by
    rw [hZ, hI, hX, hY, hKY]
    exact macK_pad 1 128 key text rfl (by decide) hkl
  rw [e]
  have KL := Lib.hid (show KY.length = 128 by rw [hKY]; exact padK_length _ _ hkl)
  have XL := Lib.hid (show X.length = 128 by rw [hX, List.length_map, KL.out])
  have YL := Lib.hid (show Y.length = 128 by rw [hY, List.length_map, KL.out])
  have IL := Lib.hid (show I.length = 64 by rw [hI]; exact sumK_length 1 _)
  have TL := Lib.hid h2.len
  have HG := Lib.hid hg
  have HF := Lib.hid (show ∀ (A : Option Addr) (c : Nat) (W : World), GK W → Rd W A n c key → Calls Tryd.prog 23 #[.agg (kA 64 128 31), .slice A n c] W (New W.heap.size W KY) from fun A c W g h => by rw [hKY]; exact fill_1 A n c key W g h (by omega))
  have HX := Lib.hid (show ∀ (A : Option Addr) (c : Nat) (W : World), Rd W A 128 c KY → Calls Tryd.prog 24 #[.slice A 128 c, .int .u8 92] W (New W.heap.size W X) from fun A c W h => by rw [hX]; exact turned_any A 128 c KY 92 W h (by omega))
  have HY := Lib.hid (show ∀ (A : Option Addr) (c : Nat) (W : World), Rd W A 128 c KY → Calls Tryd.prog 24 #[.slice A 128 c, .int .u8 54] W (New W.heap.size W Y) from fun A c W h => by rw [hY]; exact turned_any A 128 c KY 54 W h (by omega))
  have HI := Lib.hid (show ∀ (A : Option Addr) (W : World), GK W → RdBs W A 2 2 [Y, text] → Calls Tryd.prog 31 #[.slice A 2 2] W (New W.heap.size W I) from fun A W g h => by
    have := parts_sum A 2 2 [Y, text] W g h (by simp; have := YL.out; have := TL.out; omega)
    rw [hI]
    simpa using this)
  have HZ := Lib.hid (show ∀ (A : Option Addr) (W : World), GK W → RdBs W A 2 2 [X, I] → Calls Tryd.prog 31 #[.slice A 2 2] W (New W.heap.size W Z) from fun A W g h => by
    have := parts_sum A 2 2 [X, I] W g h (by simp; have := XL.out; have := IL.out; omega)
    rw [hZ]
    simpa using this)
  have R0 := Lib.hid h1
  have T0 := Lib.hid h2
  clear hg h1 h2 hn hnt hkl hKY hX hY hI hZ e
  go_enter Tryd.func14, Tryd.ntmps14
  go_upto_region 4 with (first
    | (go_at_call 20; ((with_reducible refine (find_1 _).mono ?_); rintro e w1 ⟨rfl, b1⟩; have B1 := Lib.hid (b1.alloc b1.size (.cells (kA 64 128 31) 40)); have R1 := Lib.hid ((R0.out.below b1).alloc (.cells (kA 64 128 31) 40)); have T1 := Lib.hid ((T0.out.below b1).alloc (.cells (kA 64 128 31) 40)); have O1 := Lib.hid (Bk.new w1 40 (kA 64 128 31)); clear b1)))
  obtain ⟨wk, hwk⟩ : ∃ wk, w1.alloc (.cells (kA 64 128 31) 40) = wk := ⟨_, rfl⟩
  obtain ⟨g, hgk⟩ : ∃ g, g = w1.heap.size := ⟨_, rfl⟩
  rw [hwk] at B1 R1 T1 O1 ⊢
  rw [← hgk] at O1 ⊢
  have c0 := O1.out.cell 0
  have c1 := O1.out.cell 1
  have c2 := O1.out.cell 2
  simp at c0 c1 c2
  clear hwk hgk
  go_upto_region 5 with (first
    | (go_at_call 23; ((with_reducible refine (HF.out _ _ _ (HG.out.below (Nat.le_refl _) B1.out) R1.out).mono ?_); intro e w3 h3; obtain ⟨A3, c3, rfl, r3, b3⟩ := new_len h3; rw [KL.out] at r3; rw [KL.out]; have R3 := Lib.hid r3; have B3 := Lib.hid (B1.out.trans (b3.mono B1.out.size)); have T3 := Lib.hid (T1.out.below b3); have O3 := Lib.hid (O1.out.below b3 O1.out.lt); clear h3 r3 b3)))
  have B4 := Lib.hid B3.out.drew
  have R4 := Lib.hid R3.out.drew
  have T4 := Lib.hid T3.out.drew
  have O4 := Lib.hid O3.out.drew
  clear c0 c1 c2
  first
  | (go_region_held3 (fun w' => w'.cell? ⟨g, 2, none⟩ = some (.func (.func 31) #[] #[]))
      (first
        | exact keepK O9.out
        | exact keepK O8.out
        | exact keepK (O7.out.alloc _)
        | exact keepK O7.out
        | exact keepK (O6.out.alloc _)
        | exact keepK O6.out
        | exact keepK O5.out
        | exact keepK O4.out)
      (first
        | (go_at_call 24; ((with_reducible refine (HX.out _ _ _ R4.out).mono ?_); intro e w5 h5; obtain ⟨A5, c5, rfl, r5, b5⟩ := new_len h5; rw [XL.out] at r5; rw [XL.out]; have R5 := Lib.hid r5; have B5 := Lib.hid (B4.out.trans (b5.mono B4.out.size)); have T5 := Lib.hid (T4.out.below b5); have O5 := Lib.hid (O4.out.below b5 O4.out.lt); have S5 := Lib.hid (R4.out.below b5); clear h5 r5 b5))
        | (go_at_call 24; ((with_reducible refine (HY.out _ _ _ S5.out).mono ?_); intro e w6 h6; obtain ⟨A6, c6, rfl, r6, b6⟩ := new_len h6; rw [YL.out] at r6; rw [YL.out]; have R6 := Lib.hid (RdBs.two (T := 22) r6 (T5.out.below b6) _ rfl); have B6 := Lib.hid (B5.out.trans (b6.mono B5.out.size)); have O6 := Lib.hid (O5.out.below b6 O5.out.lt); have S6 := Lib.hid (R5.out.below b6); clear h6 r6 b6))
        | (go_at_call 31; ((with_reducible refine (HI.out _ _ (HG.out.below (Nat.le_refl _) (B6.out.alloc B6.out.size _)) R6.out).mono ?_); intro e w7 h7; obtain ⟨A7, c7, rfl, r7, b7⟩ := new_len h7; rw [IL.out] at r7; rw [IL.out]; have B7 := Lib.hid ((B6.out.alloc B6.out.size (.cells #[.slice A6 128 c6, .slice At nt ct] 22)).trans (b7.mono (by have := B6.out.size; simp; omega))); have O7 := Lib.hid ((O6.out.alloc (.cells #[.slice A6 128 c6, .slice At nt ct] 22)).below b7 (by have := O6.out.lt; simp; omega)); have R7 := Lib.hid (RdBs.two (T := 22) ((S6.out.alloc (.cells #[.slice A6 128 c6, .slice At nt ct] 22)).below b7) r7 _ rfl); clear h7 r7 b7))
        | (go_at_call 31; ((with_reducible refine (HZ.out _ _ (HG.out.below (Nat.le_refl _) (B7.out.alloc B7.out.size _)) R7.out).mono ?_); intro e w8 h8; obtain ⟨A8, n8, c8, rfl, o8, b8⟩ := h8; have W8 := Lib.hid (New.from (B7.out.alloc B7.out.size (.cells #[.slice A5 128 c5, .slice A7 64 c7] 22)) ⟨A8, n8, c8, rfl, o8, b8⟩); have O8 := Lib.hid ((O7.out.alloc (.cells #[.slice A5 128 c5, .slice A7 64 c7] 22)).below b8 (by have := O7.out.lt; simp; omega)); clear o8 b8))
        | fail))
  | fail
  go_wp2
  go_ret
  exact GivesF.of_new W8.out
theorem mac_none (k : Int) (A : Option Addr) (n c : Nat) (key : List UInt8) (At : Option Addr) (nt ct : Nat) (text : List UInt8) (w : World) (hk : k < 0 ∨ 2 ≤ k) (hb : blK k = 0) :
    Calls Tryd.prog 14 #[.int .i64 k, .slice A n c, .slice At nt ct] w (GivesF w.heap.size w (macK k key text)) := by
  have e : macK k key text = [] := by simp [macK, hb]
  rw [e]
  have HF := Lib.hid (show ∀ W, _ from fun W => find_none k W hk)
  clear hk hb e
  go_enter Tryd.func14, Tryd.ntmps14
  go_wp2_with (go_at_call 20; ((with_reducible refine (HF.out _).mono ?_); rintro e w1 ⟨rfl, b1⟩; have B1 := Lib.hid b1; clear b1))
  go_ret
  exact ⟨none, 0, rfl, Rd.nil_ _, B1.out.alloc B1.out.size _, fun a h => by cases h⟩
theorem mac_any (k : Int) (A : Option Addr) (n c : Nat) (key : List UInt8) (At : Option Addr) (nt ct : Nat) (text : List UInt8) (w : World) (hg : GK w) (h1 : Rd w A n c key) (h2 : Rd w At nt ct text) (hn : n ≤ 100000) (hnt : nt ≤ 100000) :
    Calls Tryd.prog 14 #[.int .i64 k, .slice A n c, .slice At nt ct] w (GivesF w.heap.size w (macK k key text)) := by
  rcases kinds k with rfl | rfl | ⟨hk, _, hb⟩
  · exact mac_0 A n c key At nt ct text w hg h1 h2 hn hnt
  · exact mac_1 A n c key At nt ct text w hg h1 h2 hn hnt
  · exact mac_none k A n c key At nt ct text w hk hb
end Go.Proofs.YtjgcaodicbikiaaDoor.S6
