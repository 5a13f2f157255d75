/-
  A text that is summed: what New and end do.
-/
import Derived.Test.YtjgcaodicbikiaaDoorHash
namespace Go.Proofs.YtjgcaodicbikiaaDoor.S2
set_option linter.unusedSimpArgs false
set_option linter.unusedVariables false
open Go.RowKit

/-- The constants lie in their variables. -/
structure GOk (w : World) : Prop where
  k : KOk w
  h : ∀ i, i < 8 → w.cell? ⟨0, i, none⟩ = (sL hH)[i]?
theorem GOk.below {w w' : World} {B : Nat} (h : GOk w) (hB : w.heap.size ≤ B) (hb : Below B w w') : GOk w' :=
  ⟨h.k.below hB hb, fun i hi => by
    have h0 := h.h i hi
    obtain ⟨v, hv⟩ : ∃ v, (sL hH)[i]? = some v := ⟨(sL hH)[i]'(by rw [sL_length]; exact hi), List.getElem?_eq_getElem _⟩
    rw [hv] at h0 ⊢
    rw [hb.cell (Nat.lt_of_lt_of_le (World.block_lt_of_cell? w _ h0) hB)]
    exact h0⟩
theorem GOk.only {w w' : World} {g : Nat} (h : GOk w) (ho : w.grownBy w' (some g)) (h0 : g ≠ 2) (h1 : g ≠ 0) : GOk w' :=
  ⟨kok_only h.k ho h0, fun i hi => by
    have h0 := h.h i hi
    obtain ⟨v, hv⟩ : ∃ v, (sL hH)[i]? = some v := ⟨(sL hH)[i]'(by rw [sL_length]; exact hi), List.getElem?_eq_getElem _⟩
    rw [hv] at h0 ⊢
    exact (World.cell?_of_block (ho.block _ (World.block_lt_of_cell? w _ h0) (fun e => h1 (by injection e with e; exact e.symm)))).trans h0⟩
theorem GOk.lt {w : World} (h : GOk w) : 2 < w.heap.size ∧ 0 < w.heap.size :=
  ⟨World.block_lt_of_cell? w _ (h.k 0 (by omega)), World.block_lt_of_cell? w _ ((h.h 0 (by omega)).trans rfl)⟩

theorem Tryd.builtHash : Tryd.prog.built 62 [(0, .agg (sA hH))] = some (hC hH (List.replicate 64 0) 0).toArray := by kernel_rfl
set_option maxHeartbeats 1000000 in
theorem new_any (w : World) (hg : GOk w) :
    Calls Tryd.prog 28 #[] w fun e w' => e = .returned (.pointer (some ⟨w.heap.size, 0, none⟩)) ∧ HashIs w' w.heap.size [] ∧ Below w.heap.size w w' := by
  have hr : w.rangeAt 0 0 (sL hH) := fun j v hv => by
    have hj : j < 8 := (List.getElem?_eq_some_iff.1 hv).1
    rw [Nat.zero_add, hg.h j hj, hv]
  have HR := Lib.hid hr
  obtain ⟨cs, hcs⟩ : ∃ cs, cs = (hC hH (List.replicate 64 0) 0).toArray := ⟨_, rfl⟩
  have HB := Lib.hid (show Tryd.prog.built 62 [(0, .agg (sA hH))] = some cs by rw [hcs]; exact Tryd.builtHash)
  have HCS := Lib.hid hcs
  clear hcs hr
  go_enter Tryd.func28, Tryd.ntmps28
  go_wp2_with (first
    | (refine wpList_load_mid rfl 53 _ rfl 0 0 rfl (sL hH) _ HR.out Tryd.underlying53 rfl Tryd.info8 ?_)
    | (refine wpList_build_to rfl 62 _ rfl cs ?_ ?_))
  · exact HB.out
  go_ret
  refine ⟨rfl, ⟨List.replicate 64 0, by simp, by simp, ?_⟩, (Below.refl _ _).alloc (Nat.le_refl _) _⟩
  have := HCS.out
  rw [this]
  exact Bk.newAt _ _ _ _ rfl

theorem Tryd.zero72 : (Tryd.prog.info? 75).map (fun i => (i.zero, i.size)) = some (some (.agg (bv (List.replicate 72 0)).toArray), 72) := by kernel_rfl
/-- 'a[:h]' of an array of bytes in memory. -/
theorem run_cutArrH (T : TypeId) (N b o : Nat) (h : Int) (h' : Nat) (hT : Tryd.prog.underlying T = some (.array N 5)) (hh : h = h') (h2 : h' ≤ N) (h0 : 0 < N) (W : World) :
    (Instr.sliceAt T (.pointer (some ⟨b, o, none⟩)) none (some (.int .i64 h)) none).run Tryd.prog W = .ok (.slice (some ⟨b, o, none⟩) h' N) W := by
  have ea : Tryd.prog.arrayLen T = N := by simp [Program.arrayLen, hT]
  have ee : Tryd.prog.elem T = 5 := by simp [Program.elem, hT]
  have hs : (sizeOf 5).run Tryd.prog W = .ok 1 W := by kernel_rfl
  subst hh
  rw [run_sliceAt_array_h W T _ (by rw [ea, ee]; exact hT) .i64 h' (by omega) (by rw [ea]; omega), ee, hs]
  simp only [Result.andThen, slicedAt, ea, Int.toNat_natCast, Nat.zero_mul, Nat.sub_zero]
  rw [if_neg (by omega)]
  simp [Addr.add]
/-- What ends a text. -/
def endL (n : Nat) : List UInt8 := (128 :: List.replicate (63 - (n + 8) % 64) 0) ++ putL (8 * n) 8
theorem endL_length (n : Nat) : (endL n).length = 72 - (n + 8) % 64 := by
  have : (n + 8) % 64 < 64 := Nat.mod_lt _ (by omega)
  simp [endL, putL_length]
  omega
theorem pad_end (xs : List UInt8) : pad xs = xs ++ endL xs.length := by simp [pad, endL]
theorem fill_parts (k : Nat) (h1 : 1 ≤ k) (h2 : k ≤ 64) : (bv (List.replicate 72 0)).set 0 (.int .u8 128) = bv (128 :: List.replicate (k - 1) 0) ++ bv (List.replicate 8 0) ++ bv (List.replicate (64 - k) 0) := by
  have e : List.replicate 72 (0 : UInt8) = 0 :: (List.replicate (k - 1) 0 ++ List.replicate 8 0 ++ List.replicate (64 - k) 0) := by
    rw [List.replicate_append_replicate, List.replicate_append_replicate, ← List.replicate_succ]
    congr 1
    omega
  rw [e]
  simp [bv]
theorem HashIs.only {w w' : World} {g b : Nat} {xs : List UInt8} (h : HashIs w g xs) (ho : w.grownBy w' (some b)) (hg : g ≠ b) : HashIs w' g xs := by
  obtain ⟨r, h1, h2, h3⟩ := h
  exact ⟨r, h1, h2, h3.only ho (fun e => hg (by injection e))⟩
theorem end_hash {w w' w'' : World} {g b : Nat} {xs : List UInt8} (h : HashIs w g xs) (hb : Below w.heap.size w w') (ho : w'.grownBy w'' (some b)) (hg : g ≠ b) (hlt : g < w.heap.size) : HashIs w'' g xs :=
  HashIs.only (h.below hb hlt) ho hg
theorem end_rd {w : World} {b k L : Nat} (h : Bk w b 75 (bv (128 :: List.replicate (k - 1) 0) ++ bv ((putL (8 * L) 8).take 8) ++ bv (List.replicate (64 - k) 0)).toArray) (hk : k = 64 - (L + 8) % 64) (k1 : 1 ≤ k) (k2 : k ≤ 64) :
    Rd w (some ⟨b, 0, none⟩) (k + 8) 72 (endL L) := by
  have e : endL L = (128 :: List.replicate (k - 1) 0) ++ (putL (8 * L) 8).take 8 := by
    rw [List.take_of_length_le (by rw [putL_length]; omega), endL, hk, show 64 - (L + 8) % 64 - 1 = 63 - (L + 8) % 64 by omega]
  have hl : (endL L).length = k + 8 := by rw [endL_length]; omega
  rw [← bv_append, ← e] at h
  refine Rd.of_bk h hl (by omega) (by simp [maxLen]) fun j hj => ?_
  rw [Nat.zero_add, List.getElem?_toArray, List.getElem?_append_left (by rw [bv_length]; omega), bv_at _ _ (by omega)]
  simp [List.getD, hl, hj]
theorem end_sep {b g : Nat} (h : b ≠ g) : Sep (some ⟨b, 0, none⟩) g := by
  intro ad e
  injection e with e
  subst e
  exact h
theorem end_len {L k : Nat} {xs : List UInt8} (h : L = xs.length) (hm : L ≤ 2147483648) (hk : k ≤ 64) : xs.length + (k + 8) ≤ 4294967296 := by omega
theorem GOk.only_k {w w' : World} {g : Nat} (h : GOk w) (ho : w.grownBy w' (some g)) (h0 : g ≠ 2) : KOk w' := kok_only h.k ho h0
theorem min8 {k : Nat} (h : k ≤ 64) : 8 = Nat.min 8 (72 - k) := (Nat.min_eq_left (by omega)).symm
set_option maxHeartbeats 1000000 in
theorem end_any (g : Nat) (xs : List UInt8) (w : World) (hh : HashIs w g xs) (hk : GOk w) (hg : g ≠ 2) (hm : xs.length ≤ 2147483648) :
    Calls Tryd.prog 38 #[.pointer (some ⟨g, 0, none⟩)] w fun e w' => e = .returned (.tuple #[]) ∧ HashIs w' g (pad xs) ∧ w.grownBy w' (some g) := by
  obtain ⟨r, hr1, hr2, hb⟩ := hh
  have hlt := hb.lt
  obtain ⟨L, hL⟩ : ∃ L, L = xs.length := ⟨_, rfl⟩
  have cL := hC_72 hb hr1
  rw [← hL] at cL hm
  obtain ⟨k, hkk⟩ : ∃ k, k = 64 - (L + 8) % 64 := ⟨_, rfl⟩
  have k1 : 1 ≤ k := by omega
  have k2 : k ≤ 64 := by omega
  have HH := Lib.hid (show HashIs w g xs from ⟨r, hr1, hr2, hb⟩)
  have ek : 64 - ((L : Int) + 8) % 64 = (k : Int) := by omega
  have hz := (zero_of_info (P := Tryd.prog) Tryd.zero72).1
  obtain ⟨cs, hcs⟩ : ∃ cs, cs = (bv (List.replicate 72 0)).toArray := ⟨_, rfl⟩
  rw [← hcs] at hz
  have hb1 : Bk (w.alloc (.cells cs 75)) w.heap.size 75 cs := Bk.newAt _ _ _ _ rfl
  have c0 : (w.alloc (.cells cs 75)).cell? ⟨w.heap.size, 0, none⟩ = some (.int .u8 0) := by rw [hb1.cell, hcs]; rfl
  have f0 := hb1.frozen 0
  have HB1 := Lib.hid hb1
  have HCS := Lib.hid hcs
  have HL := Lib.hid hL
  have HKK := Lib.hid hkk
  clear hb1 hcs hL hkk hr1 hr2 hb
  go_enter Tryd.func38, Tryd.ntmps38
  go_wp2
  obtain ⟨w1, hw1⟩ : ∃ w1, w1 = (w.alloc (.cells (cs.setIfInBounds 0 (.int .u8 128)) 75)).drew := ⟨_, rfl⟩
  have hB : Below w.heap.size w w1 := by rw [hw1]; exact ((Below.refl _ _).alloc (Nat.le_refl _) _).drew
  have hF : Bk w1 w.heap.size 75 (bv (128 :: List.replicate (k - 1) 0) ++ bv (List.replicate 8 0) ++ bv (List.replicate (64 - k) 0)).toArray := by
    have e : cs.setIfInBounds 0 (.int .u8 128) = (bv (128 :: List.replicate (k - 1) 0) ++ bv (List.replicate 8 0) ++ bv (List.replicate (64 - k) 0)).toArray := by rw [HCS.out, List.setIfInBounds_toArray, fill_parts k k1 k2]
    rw [hw1, ← e]
    exact (Bk.newAt w 75 (cs.setIfInBounds 0 (.int .u8 128)) _ rfl).drew
  have cL1 : w1.cell? ⟨g, 72, none⟩ = some (.int .u64 (L : Int)) := (hB.cell hlt).trans cL
  have hsl := run_cutArrL 75 72 w.heap.size 0 (k : Int) k Tryd.underlying75 rfl (by omega)
  have hsl2 := run_cutArrH 75 72 w.heap.size 0 ((k : Int) + 8) (k + 8) Tryd.underlying75 (by omega) (by omega) (by omega)
  have hw8 : IntKind.u64.wrap (8 * (L : Int)) = 8 * (L : Int) := by rw [IntKind.wrap_u64]; omega
  have HP := Lib.hid (show ∀ W, Calls Tryd.prog 25 #[.int .u64 (8 * (L : Int)), .int .i64 8] W (New W.heap.size W (putL (8 * L) 8)) from fun W => by
    have := put_any (8 * L) 8 W (by omega) (by omega)
    rw [Int.natCast_mul] at this
    exact this)
  have HK1 := Lib.hid (hk.below (Nat.le_refl _) hB)
  have HF := Lib.hid hF
  have HBB := Lib.hid hB
  have HHW := Lib.hid (HH.out.below hB hlt)
  have kI : (k : Int) ≤ 64 := by omega
  clear hF hB
  refine wp_region_any (by kernel_rfl) ?_
  change wpAny _ _ _ _ _ _ _ (World.drew _)
  rw [← hw1]
  clear hw1 c0 f0 ek
  refine wpAny_take (i := 0) (v := ?va0) rfl (by kernel_rfl) (by kernel_rfl) (by kernel_rfl) (fun _ _ _ h => h) (Or.inl ⟨by rfl, ?hy0⟩) ?re0
  case hy0 => (intro w'; go_simp; try with_reducible rfl)
  simp only [Act.put, List.setIfInBounds_toArray, List.set_cons_zero, List.set_cons_succ]
  refine wpAny_take (i := 1) (v := ?va1) rfl (by kernel_rfl) (by kernel_rfl) (by kernel_rfl) (fun _ _ _ h => h) (Or.inl ⟨by rfl, ?hy1⟩) ?re1
  case hy1 => (intro w'; go_simp; try with_reducible rfl)
  simp only [Act.put, List.setIfInBounds_toArray, List.set_cons_zero, List.set_cons_succ]
  refine wpAny_take (i := 2) (v := ?va2) rfl (by kernel_rfl) (by kernel_rfl) (by kernel_rfl) (fun _ _ _ h => h) (Or.inl ⟨by rfl, ?hy2⟩) ?re2
  case hy2 => (intro w'; go_simp; try with_reducible rfl)
  simp only [Act.put, List.setIfInBounds_toArray, List.set_cons_zero, List.set_cons_succ]
  refine wpAny_take (i := 3) (v := ?va3) rfl (by kernel_rfl) (by kernel_rfl) (by kernel_rfl) (fun _ _ _ h => h) (Or.inl ⟨by rfl, ?hy3⟩) ?re3
  case hy3 => (intro w'; go_simp; try with_reducible rfl)
  simp only [Act.put, List.setIfInBounds_toArray, List.set_cons_zero, List.set_cons_succ]
  refine wpAny_take (i := 4) (v := ?va4) rfl (by kernel_rfl) (by kernel_rfl) (by kernel_rfl) (fun _ _ _ h => h) (Or.inl ⟨by rfl, ?hy4⟩) ?re4
  case hy4 => (intro w'; go_simp; try with_reducible rfl)
  simp only [Act.put, List.setIfInBounds_toArray, List.set_cons_zero, List.set_cons_succ]
  refine wpAny_seq 5 rfl (by kernel_rfl) ?_
  simp only [List.drop_succ_cons, List.drop_zero]
  go_wp2_with (first
    | (go_at_call 25; refine (HP.out _).mono ?_; rintro e w2 ⟨A2, n2, c2, rfl, ho2, hb2⟩; obtain rfl : 8 = n2 := (by have e1 := own_len ho2; rw [putL_length] at e1; exact e1); have hr2 := Rd.own ho2; have HR2 := Lib.hid hr2; have HB2 := Lib.hid hb2; clear hr2 hb2 ho2)
    | (refine wpList_copy_bk rfl (.tmp 14) (.tmp 20) 22 22 rfl 5 Tryd.underlying22 (by kernel_rfl) w.heap.size k (72 - k) (72 - k) A2 8 c2 (putL (8 * L) 8) rfl rfl HR2.out (by decide) _ _ _ 75 (HF.out.below HB2.out HF.out.lt) (by simp [bv_length]; omega) 8 (min8 k2) (by simp [bv_length]) ?_; intro w3 hb3 ho3; have HB3 := Lib.hid hb3; have HO3 := Lib.hid ho3; clear hb3 ho3)
    | (go_at_call 29; ((with_reducible refine (write_any g (some ⟨w.heap.size, 0, none⟩) (k + 8) 72 xs (endL L) w3 (end_hash HHW.out HB2.out HO3.out (Nat.ne_of_lt hlt) (Nat.lt_of_lt_of_le hlt HBB.out.size)) (end_rd HB3.out HKK.out k1 k2) (fun _ => end_sep (Nat.ne_of_gt hlt)) ((HK1.out.below (Nat.le_refl _) HB2.out).only_k HO3.out (Nat.ne_of_gt hk.lt.1)) hg (end_len HL.out hm k2)).mono ?_); rintro e w4 ⟨rfl, hh4, ho4⟩; have HH4 := Lib.hid hh4; have HO4 := Lib.hid ho4; clear hh4 ho4)))
  go_end0
  refine ⟨rfl, by rw [pad_end, ← HL.out]; exact HH4.out, ?_⟩
  have b1 := HBB.out.trans (HB2.out.mono HBB.out.size)
  have b3 := below_only b1 HO3.out (Nat.le_refl _) b1.size
  exact ⟨HO4.out.os.trans b3.os, HO4.out.tape.trans b3.tape, HO4.out.output.trans b3.output, Nat.le_trans b3.size HO4.out.size, fun i hi hne => (HO4.out.block i (Nat.lt_of_lt_of_le hi b3.size) hne).trans (b3.block i hi)⟩
end Go.Proofs.YtjgcaodicbikiaaDoor.S2
