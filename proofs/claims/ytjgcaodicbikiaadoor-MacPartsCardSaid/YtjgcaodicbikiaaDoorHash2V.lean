/-
  A text that is summed: what end does.
-/
import Derived.Test.YtjgcaodicbikiaaDoorHashV
import Derived.Test.YtjgcaodicbikiaaDoorCat
import Derived.Test.YtjgcaodicbikiaaDoorMulV
namespace Go.Proofs.YtjgcaodicbikiaaDoor.S5
set_option linter.unusedSimpArgs false
set_option linter.unusedVariables false
open Go.RowKit

/-- The constants lie in their variables. -/
structure GOk (w : World) : Prop where
  k : KOk w
  h : ∀ i, i < 8 → w.cell? ⟨1, i, none⟩ = (sL hH)[i]?
theorem GOk.below {w w' : World} {B : Nat} (h : GOk w) (hB : w.heap.size ≤ B) (hb : Below B w w') : GOk w' :=
  ⟨h.k.below hB hb, fun i hi => by
    have h0 := h.h i hi
    obtain ⟨v, hv⟩ : ∃ v, (sL hH)[i]? = some v := ⟨(sL hH)[i]'(by rw [sL_length]; exact hi), List.getElem?_eq_getElem _⟩
    rw [hv] at h0 ⊢
    rw [hb.cell (Nat.lt_of_lt_of_le (World.block_lt_of_cell? w _ h0) hB)]
    exact h0⟩
theorem GOk.only {w w' : World} {g : Nat} (h : GOk w) (ho : w.grownBy w' (some g)) (h0 : g ≠ 3) (h1 : g ≠ 1) : GOk w' :=
  ⟨kok_only h.k ho h0, fun i hi => by
    have h0 := h.h i hi
    obtain ⟨v, hv⟩ : ∃ v, (sL hH)[i]? = some v := ⟨(sL hH)[i]'(by rw [sL_length]; exact hi), List.getElem?_eq_getElem _⟩
    rw [hv] at h0 ⊢
    exact (World.cell?_of_block (ho.block _ (World.block_lt_of_cell? w _ h0) (fun e => h1 (by injection e with e; exact e.symm)))).trans h0⟩
theorem GOk.lt {w : World} (h : GOk w) : 3 < w.heap.size ∧ 1 < w.heap.size :=
  ⟨World.block_lt_of_cell? w _ (h.k 0 (by omega)), World.block_lt_of_cell? w _ ((h.h 0 (by omega)).trans rfl)⟩

/-- What ends a text. -/
def endL (n : Nat) : List UInt8 := (128 :: List.replicate (127 - (n + 16) % 128) 0) ++ (List.replicate 8 0 ++ putL (8 * n) 8)
theorem endL_length (n : Nat) : (endL n).length = 144 - (n + 16) % 128 := by
  have : (n + 16) % 128 < 128 := Nat.mod_lt _ (by omega)
  simp [endL, putL_length]
  omega
theorem pad_end (xs : List UInt8) : pad xs = xs ++ endL xs.length := by simp [pad, endL]
theorem put8_any (V : Nat) (I : Int) (hI : I = (V : Int)) (w : World) (hV : V < 18446744073709551616) :
    Calls Tryd.prog 25 #[.int .u64 I, .int .i64 8] w fun e w' => ∃ (A : Option Addr) (c : Nat), e = .returned (.slice A 8 c) ∧ Rd w' A 8 c (putL V 8) ∧ Below w.heap.size w w' := by
  subst hI
  refine (put_any V 8 w (by omega) hV).mono ?_
  rintro e w' ⟨A, n, c, rfl, ho, hb⟩
  obtain rfl : 8 = n := by have e1 := own_len ho; rw [putL_length] at e1; exact e1
  exact ⟨A, c, rfl, Rd.own ho, hb⟩
theorem GOk.only_k {w w' : World} {g : Nat} (h : GOk w) (ho : w.grownBy w' (some g)) (h0 : g ≠ 3) : KOk w' := kok_only h.k ho h0
theorem fill_at (k : Nat) (h : 1 ≤ k) : (bv (List.replicate k 0)).set 0 (.int .u8 128) = bv (128 :: List.replicate (k - 1) 0) := by
  obtain ⟨m, rfl⟩ : ∃ m, k = m + 1 := ⟨k - 1, by omega⟩
  simp [bv, List.replicate_succ]
theorem end_flat (L k : Nat) (hk : k = 128 - (L + 16) % 128) : [128 :: List.replicate (k - 1) 0, putL 0 8, putL (8 * L) 8].flatten = endL L := by
  have e : putL 0 8 = List.replicate 8 0 := by decide
  rw [endL, hk, e, show 128 - (L + 16) % 128 - 1 = 127 - (L + 16) % 128 by omega]
  simp
theorem sep_own {w : World} {B e n g c : Nat} {A : Option Addr} {xs : List Value} (h : w.ownsRow B e 1 (.slice A n c) n xs) (hg : g < B) : 0 < n → Sep A g := fun hn ad e' => by
  subst e'
  have := (h.lt ad.block rfl).1
  omega
theorem only_from {w w1 w2 : World} {g : Nat} (hb : Below w.heap.size w w1) (ho : w1.grownBy w2 (some g)) : w.grownBy w2 (some g) :=
  ⟨ho.os.trans hb.os, ho.tape.trans hb.tape, ho.output.trans hb.output, Nat.le_trans hb.size ho.size, fun i hi hne => (ho.block i (Nat.lt_of_lt_of_le hi hb.size) hne).trans (hb.block i hi)⟩
theorem end_room {L n : Nat} {xs : List UInt8} (h : L = xs.length) (hm : L ≤ 268435456) (hn : (endL L).length = n) : xs.length + n ≤ 4294967296 := by
  rw [endL_length] at hn
  omega
set_option maxHeartbeats 1000000 in
theorem end_any (g : Nat) (xs : List UInt8) (w : World) (hh : HashIs w g xs) (hk : GOk w) (hg : g ≠ 3) (hm : xs.length ≤ 268435456) :
    Calls Tryd.prog 40 #[.pointer (some ⟨g, 0, none⟩)] w fun e w' => e = .returned (.tuple #[]) ∧ HashIs w' g (pad xs) ∧ w.grownBy w' (some g) := by
  obtain ⟨i0, hi, hz0, hz1, hz2⟩ := info_parts Tryd.infoU8
  obtain ⟨r, hr1, hr2, hb⟩ := hh
  have hlt := hb.lt
  obtain ⟨L, hL⟩ : ∃ L, L = xs.length := ⟨_, rfl⟩
  have cL := hC_136 hb hr1
  rw [← hL] at cL hm
  obtain ⟨k, hkk⟩ : ∃ k, k = 128 - (L + 16) % 128 := ⟨_, rfl⟩
  have k1 : 1 ≤ k := by omega
  have k2 : k ≤ 128 := by omega
  have HH := Lib.hid (show HashIs w g xs from ⟨r, hr1, hr2, hb⟩)
  have ek : 128 - ((L : Int) + 16) % 128 = (k : Int) := by omega
  have HL := Lib.hid hL
  have HKK := Lib.hid hkk
  have HF := Lib.hid (end_flat L k hkk)
  clear hL hkk hr1 hr2 hb
  go_enter Tryd.func40, Tryd.ntmps40
  go_wp2_with (first
    | (go_at_call 49; ((with_reducible refine (mul8_any L _ (by omega)).mono ?_); rintro e w1 ⟨rfl, rfl⟩))
    | (at_make; refine wpList_make_full _ rfl _ _ 22 rfl w.heap.size 5 i0 (.int .u8 0) 1 Tryd.underlying22 hi hz0 hz1 _ _ _ _ k rfl rfl rfl rfl ?b2 ?b3 (Nat.le_refl _) ?_))
  case b2 => rw [hz2]; omega
  case b3 => unfold maxLen; omega
  intro w0 hown0 hgrow0
  rw [bv_zero] at hown0
  have hb0 : Below w.heap.size w w0 := (Below.refl _ _).grown hgrow0 (Nat.le_refl _) (fun k h => by cases h)
  clear hgrow0
  have hc := hown0.cellAt 0 (by omega)
  have hf := hown0.frozenAt 0
  have hs := (hown0.stored 0 (.int .u8 128)).1
  rw [bv_at _ _ (by simp; omega)] at hc
  rw [fill_at k k1] at hs
  have k1i : (0 : Int) < (k : Int) := by omega
  obtain ⟨w1, hw1⟩ : ∃ w1, w1 = w0.setCell ⟨w.heap.size, 0, none⟩ (.int .u8 128) := ⟨_, rfl⟩
  have hb1 : Below w.heap.size w w1 := by rw [hw1]; exact hb0.setCell (Nat.le_refl _) _
  rw [← hw1] at hs
  have HW1 := Lib.hid hw1
  have HB1 := Lib.hid hb1
  have HR1 := Lib.hid (Rd.own hs)
  have HH1 := Lib.hid (HH.out.below hb1 hlt)
  have HK1 := Lib.hid (hk.below (Nat.le_refl _) hb1)
  clear hw1 hb1 hs hb0 hown0
  go_wp2_with (first
    | (go_at_call 25; ((with_reducible refine (put8_any 0 0 rfl _ (by omega)).mono ?_); rintro e w2 ⟨A2, c2, rfl, r2, b2⟩; have R2 := Lib.hid r2; have B2 := Lib.hid (show Below w1.heap.size w1 w2 by rw [HW1.out]; exact b2); clear r2 b2))
    | (go_at_call 25; ((with_reducible refine (put8_any (8 * L) (8 * (L : Int)) (by omega) _ (by omega)).mono ?_); rintro e w3 ⟨A3, c3, rfl, r3, b3⟩; have R3 := Lib.hid r3; have R23 := Lib.hid (R2.out.below b3); have B3 := Lib.hid (B2.out.trans (b3.mono B2.out.size)); clear r3 b3))
    | (go_at_call 50; ((with_reducible refine (cat_any _ 3 3 [128 :: List.replicate (k - 1) 0, putL 0 8, putL (8 * L) 8] _ ?_ ?_).mono ?_); exact RdBs.built3 w3 22 (HR1.out.below B3.out) R23.out R3.out; (rw [HF.out, endL_length]; omega); intro e w4 h4; rw [HF.out] at h4; obtain ⟨A4, n4, c4, rfl, o4, b4⟩ := h4; have R4 := Lib.hid (Rd.own o4); have L4 := Lib.hid (own_len o4); have S4 := Lib.hid (sep_own (g := g) o4 (by have := HB1.out.size; have := B3.out.size; simp; omega)); have B4 := Lib.hid (show Below w1.heap.size w1 w4 from (B3.out.alloc B3.out.size _).trans (b4.mono (by have := B3.out.size; simp; omega))); clear o4 b4))
    | (go_at_call 39; ((with_reducible refine (write_any g A4 n4 c4 xs (endL L) w4 (HH1.out.below B4.out HH1.out.lt) R4.out S4.out (HK1.out.below (Nat.le_refl _) B4.out).k hg (end_room HL.out hm L4.out)).mono ?_); rintro e w5 ⟨rfl, h5, o5⟩; have H5 := Lib.hid h5; have O5 := Lib.hid o5; clear h5 o5))
    | fail)
  go_end0
  exact ⟨rfl, by rw [pad_end, ← HL.out]; exact H5.out, only_from (HB1.out.trans (B4.out.mono HB1.out.size)) O5.out⟩
end Go.Proofs.YtjgcaodicbikiaaDoor.S5
