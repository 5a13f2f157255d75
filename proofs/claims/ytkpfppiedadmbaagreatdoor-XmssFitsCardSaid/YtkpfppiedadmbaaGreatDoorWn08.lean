/-
  Texts put together: Hash2, Hash3, Same, Step. No statement is proved here.
-/
import Derived.Test.YtkpfppiedadmbaaGreatDoorWn07
import Derived.Test.YtkpfppiedadmbaaGreatDoorWn02
import Derived.RegionTactic
import Derived.ChangeAlike
import Derived.Deep.Draws
import Derived.Deep.DrawnRows
import Derived.Deep.AppendLies

/-
  A text that is summed: what New and end do.
-/
namespace Go.Proofs.YtkpfppiedadmbaaGreatDoor.S2
set_option linter.unusedSimpArgs false
set_option linter.unusedVariables false
set_option maxRecDepth 1024
open Go.RowKit

/-- The constants lie in their variables. -/
structure GOk (w : World) : Prop where
  k : KOk w
  h : ∀ i, i < 8 → w.cell? ⟨0, i, none⟩ = (sL hH)[i]?
theorem GOk.below {w w' : World} {B : Nat} (h : GOk w) (hB : w.heap.size ≤ B) (hb : Below B w w') : GOk w' :=
  ⟨h.k.below hB hb, fun i hi => by
    have h0 := h.h i hi
    obtain ⟨v, hv⟩ : ∃ v, (sL hH)[i]? = some v := ⟨(sL hH)[i]'(by rw [sL_length]; exact hi), List.getElem?_eq_getElem _⟩
    rw [hv] at h0 ⊢
    rw [hb.cell (Nat.lt_of_lt_of_le (World.block_lt_of_cell? w _ h0) hB)]
    exact h0⟩
theorem GOk.only {w w' : World} {g : Nat} (h : GOk w) (ho : w.grownBy w' (some g)) (h0 : g ≠ 2) (h1 : g ≠ 0) : GOk w' :=
  ⟨kok_only h.k ho h0, fun i hi => by
    have h0 := h.h i hi
    obtain ⟨v, hv⟩ : ∃ v, (sL hH)[i]? = some v := ⟨(sL hH)[i]'(by rw [sL_length]; exact hi), List.getElem?_eq_getElem _⟩
    rw [hv] at h0 ⊢
    exact (World.cell?_of_block (ho.block _ (World.block_lt_of_cell? w _ h0) (fun e => h1 (by injection e with e; exact e.symm)))).trans h0⟩
theorem GOk.lt {w : World} (h : GOk w) : 2 < w.heap.size ∧ 0 < w.heap.size :=
  ⟨World.block_lt_of_cell? w _ (h.k 0 (by omega)), World.block_lt_of_cell? w _ ((h.h 0 (by omega)).trans rfl)⟩

theorem Tryz.builtHash : Tryz.prog.built 137 [(0, .agg (sA hH))] = some (hC hH (List.replicate 64 0) 0).toArray := by kernel_rfl
set_option maxHeartbeats 1000000 in
theorem new_any (w : World) (hg : GOk w) :
    Calls Tryz.prog 103 #[] w fun e w' => e = .returned (.pointer (some ⟨w.heap.size, 0, none⟩)) ∧ HashIs w' w.heap.size [] ∧ Below w.heap.size w w' := by
  have hr : w.rangeAt 0 0 (sL hH) := fun j v hv => by
    have hj : j < 8 := (List.getElem?_eq_some_iff.1 hv).1
    rw [Nat.zero_add, hg.h j hj, hv]
  have HR := Lib.hid hr
  obtain ⟨cs, hcs⟩ : ∃ cs, cs = (hC hH (List.replicate 64 0) 0).toArray := ⟨_, rfl⟩
  have HB := Lib.hid (show Tryz.prog.built 137 [(0, .agg (sA hH))] = some cs by rw [hcs]; exact Tryz.builtHash)
  have HCS := Lib.hid hcs
  clear hcs hr
  go_enter Tryz.func103, Tryz.ntmps103
  go_wp2_with (first
    | (refine wpList_load_mid rfl 114 _ rfl 0 0 rfl (sL hH) _ HR.out Tryz.underlying114 rfl Tryz.info8 ?_)
    | (refine wpList_build_to rfl 137 _ rfl cs ?_ ?_))
  · exact HB.out
  go_ret
  refine ⟨rfl, ⟨List.replicate 64 0, by simp, by simp, ?_⟩, (Below.refl _ _).alloc (Nat.le_refl _) _⟩
  have := HCS.out
  rw [this]
  exact Bk.newAt _ _ _ _ rfl

theorem Tryz.zero72 : (Tryz.prog.info? 146).map (fun i => (i.zero, i.size)) = some (some (.agg (bv (List.replicate 72 0)).toArray), 72) := by kernel_rfl
/-- 'a[:h]' of an array of bytes in memory. -/
theorem run_cutArrH (T : TypeId) (N b o : Nat) (h : Int) (h' : Nat) (hT : Tryz.prog.underlying T = some (.array N 5)) (hh : h = h') (h2 : h' ≤ N) (h0 : 0 < N) (W : World) :
    (Instr.sliceAt T (.pointer (some ⟨b, o, none⟩)) none (some (.int .i64 h)) none).run Tryz.prog W = .ok (.slice (some ⟨b, o, none⟩) h' N) W := by
  have ea : Tryz.prog.arrayLen T = N := by simp [Program.arrayLen, hT]
  have ee : Tryz.prog.elem T = 5 := by simp [Program.elem, hT]
  have hs : (sizeOf 5).run Tryz.prog W = .ok 1 W := by kernel_rfl
  subst hh
  rw [run_sliceAt_array_h W T _ (by rw [ea, ee]; exact hT) .i64 h' (by omega) (by rw [ea]; omega), ee, hs]
  simp only [Result.andThen, slicedAt, ea, Int.toNat_natCast, Nat.zero_mul, Nat.sub_zero]
  rw [if_neg (by omega)]
  simp [Addr.add]
/-- What ends a text. -/
def endL (n : Nat) : List UInt8 := (128 :: List.replicate (63 - (n + 8) % 64) 0) ++ putL (8 * n) 8
theorem endL_length (n : Nat) : (endL n).length = 72 - (n + 8) % 64 := by
  have : (n + 8) % 64 < 64 := Nat.mod_lt _ (by omega)
  simp [endL, putL_length]
  omega
theorem pad_end (xs : List UInt8) : pad xs = xs ++ endL xs.length := by simp [pad, endL]
theorem fill_parts (k : Nat) (h1 : 1 ≤ k) (h2 : k ≤ 64) : (bv (List.replicate 72 0)).set 0 (.int .u8 128) = bv (128 :: List.replicate (k - 1) 0) ++ bv (List.replicate 8 0) ++ bv (List.replicate (64 - k) 0) := by
  have e : List.replicate 72 (0 : UInt8) = 0 :: (List.replicate (k - 1) 0 ++ List.replicate 8 0 ++ List.replicate (64 - k) 0) := by
    rw [List.replicate_append_replicate, List.replicate_append_replicate, ← List.replicate_succ]
    congr 1
    omega
  rw [e]
  simp [bv]
theorem HashIs.only {w w' : World} {g b : Nat} {xs : List UInt8} (h : HashIs w g xs) (ho : w.grownBy w' (some b)) (hg : g ≠ b) : HashIs w' g xs := by
  obtain ⟨r, h1, h2, h3⟩ := h
  exact ⟨r, h1, h2, h3.only ho (fun e => hg (by injection e))⟩
theorem end_hash {w w' w'' : World} {g b : Nat} {xs : List UInt8} (h : HashIs w g xs) (hb : Below w.heap.size w w') (ho : w'.grownBy w'' (some b)) (hg : g ≠ b) (hlt : g < w.heap.size) : HashIs w'' g xs :=
  HashIs.only (h.below hb hlt) ho hg
theorem end_rd {w : World} {b k L : Nat} (h : Bk w b 146 (bv (128 :: List.replicate (k - 1) 0) ++ bv ((putL (8 * L) 8).take 8) ++ bv (List.replicate (64 - k) 0)).toArray) (hk : k = 64 - (L + 8) % 64) (k1 : 1 ≤ k) (k2 : k ≤ 64) :
    Rd w (some ⟨b, 0, none⟩) (k + 8) 72 (endL L) := by
  have e : endL L = (128 :: List.replicate (k - 1) 0) ++ (putL (8 * L) 8).take 8 := by
    rw [List.take_of_length_le (by rw [putL_length]; omega), endL, hk, show 64 - (L + 8) % 64 - 1 = 63 - (L + 8) % 64 by omega]
  have hl : (endL L).length = k + 8 := by rw [endL_length]; omega
  rw [← bv_append, ← e] at h
  refine Rd.of_bk h hl (by omega) (by simp [maxLen]) fun j hj => ?_
  rw [Nat.zero_add, List.getElem?_toArray, List.getElem?_append_left (by rw [bv_length]; omega), bv_at _ _ (by omega)]
  simp [List.getD, hl, hj]
theorem end_sep {b g : Nat} (h : b ≠ g) : Sep (some ⟨b, 0, none⟩) g := by
  intro ad e
  injection e with e
  subst e
  exact h
theorem end_len {L k : Nat} {xs : List UInt8} (h : L = xs.length) (hm : L ≤ 2147483648) (hk : k ≤ 64) : xs.length + (k + 8) ≤ 4294967296 := by omega
theorem GOk.only_k {w w' : World} {g : Nat} (h : GOk w) (ho : w.grownBy w' (some g)) (h0 : g ≠ 2) : KOk w' := kok_only h.k ho h0
theorem min8 {k : Nat} (h : k ≤ 64) : 8 = Nat.min 8 (72 - k) := (Nat.min_eq_left (by omega)).symm
set_option maxHeartbeats 1000000 in
theorem end_any (g : Nat) (xs : List UInt8) (w : World) (hh : HashIs w g xs) (hk : GOk w) (hg : g ≠ 2) (hm : xs.length ≤ 2147483648) :
    Calls Tryz.prog 117 #[.pointer (some ⟨g, 0, none⟩)] w fun e w' => e = .returned (.tuple #[]) ∧ HashIs w' g (pad xs) ∧ w.grownBy w' (some g) := by
  obtain ⟨r, hr1, hr2, hb⟩ := hh
  have hlt := hb.lt
  obtain ⟨L, hL⟩ : ∃ L, L = xs.length := ⟨_, rfl⟩
  have cL := hC_72 hb hr1
  rw [← hL] at cL hm
  obtain ⟨k, hkk⟩ : ∃ k, k = 64 - (L + 8) % 64 := ⟨_, rfl⟩
  have k1 : 1 ≤ k := by omega
  have k2 : k ≤ 64 := by omega
  have HH := Lib.hid (show HashIs w g xs from ⟨r, hr1, hr2, hb⟩)
  have ek : 64 - ((L : Int) + 8) % 64 = (k : Int) := by omega
  have hz := (zero_of_info (P := Tryz.prog) Tryz.zero72).1
  obtain ⟨cs, hcs⟩ : ∃ cs, cs = (bv (List.replicate 72 0)).toArray := ⟨_, rfl⟩
  rw [← hcs] at hz
  have hb1 : Bk (w.alloc (.cells cs 146)) w.heap.size 146 cs := Bk.newAt _ _ _ _ rfl
  have c0 : (w.alloc (.cells cs 146)).cell? ⟨w.heap.size, 0, none⟩ = some (.int .u8 0) := by rw [hb1.cell, hcs]; rfl
  have f0 := hb1.frozen 0
  have HB1 := Lib.hid hb1
  have HCS := Lib.hid hcs
  have HL := Lib.hid hL
  have HKK := Lib.hid hkk
  clear hb1 hcs hL hkk hr1 hr2 hb
  go_enter Tryz.func117, Tryz.ntmps117
  go_wp2
  obtain ⟨w1, hw1⟩ : ∃ w1, w1 = (w.alloc (.cells (cs.setIfInBounds 0 (.int .u8 128)) 146)).drew := ⟨_, rfl⟩
  have hB : Below w.heap.size w w1 := by rw [hw1]; exact ((Below.refl _ _).alloc (Nat.le_refl _) _).drew
  have hF : Bk w1 w.heap.size 146 (bv (128 :: List.replicate (k - 1) 0) ++ bv (List.replicate 8 0) ++ bv (List.replicate (64 - k) 0)).toArray := by
    have e : cs.setIfInBounds 0 (.int .u8 128) = (bv (128 :: List.replicate (k - 1) 0) ++ bv (List.replicate 8 0) ++ bv (List.replicate (64 - k) 0)).toArray := by rw [HCS.out, List.setIfInBounds_toArray, fill_parts k k1 k2]
    rw [hw1, ← e]
    exact (Bk.newAt w 146 (cs.setIfInBounds 0 (.int .u8 128)) _ rfl).drew
  have cL1 : w1.cell? ⟨g, 72, none⟩ = some (.int .u64 (L : Int)) := (hB.cell hlt).trans cL
  have hsl := run_cutArrL 146 72 w.heap.size 0 (k : Int) k Tryz.underlying146 rfl (by omega)
  have hsl2 := run_cutArrH 146 72 w.heap.size 0 ((k : Int) + 8) (k + 8) Tryz.underlying146 (by omega) (by omega) (by omega)
  have hw8 : IntKind.u64.wrap (8 * (L : Int)) = 8 * (L : Int) := by rw [IntKind.wrap_u64]; omega
  have HP := Lib.hid (show ∀ W, Calls Tryz.prog 27 #[.int .u64 (8 * (L : Int)), .int .i64 8] W (New W.heap.size W (putL (8 * L) 8)) from fun W => by
    have := put_any (8 * L) 8 W (by omega) (by omega)
    rw [Int.natCast_mul] at this
    exact this)
  have HK1 := Lib.hid (hk.below (Nat.le_refl _) hB)
  have HF := Lib.hid hF
  have HBB := Lib.hid hB
  have HHW := Lib.hid (HH.out.below hB hlt)
  have kI : (k : Int) ≤ 64 := by omega
  clear hF hB
  refine wp_region_any (by kernel_rfl) ?_
  change wpAny _ _ _ _ _ _ _ (World.drew _)
  rw [← hw1]
  clear hw1 c0 f0 ek
  refine wpAny_take (i := 0) (v := ?va0) rfl (by kernel_rfl) (by kernel_rfl) (by kernel_rfl) (fun _ _ _ h => h) (Or.inl ⟨by rfl, ?hy0⟩) ?re0
  case hy0 => (intro w'; go_simp; try with_reducible rfl)
  simp only [Act.put, List.setIfInBounds_toArray, List.set_cons_zero, List.set_cons_succ]
  refine wpAny_take (i := 1) (v := ?va1) rfl (by kernel_rfl) (by kernel_rfl) (by kernel_rfl) (fun _ _ _ h => h) (Or.inl ⟨by rfl, ?hy1⟩) ?re1
  case hy1 => (intro w'; go_simp; try with_reducible rfl)
  simp only [Act.put, List.setIfInBounds_toArray, List.set_cons_zero, List.set_cons_succ]
  refine wpAny_take (i := 2) (v := ?va2) rfl (by kernel_rfl) (by kernel_rfl) (by kernel_rfl) (fun _ _ _ h => h) (Or.inl ⟨by rfl, ?hy2⟩) ?re2
  case hy2 => (intro w'; go_simp; try with_reducible rfl)
  simp only [Act.put, List.setIfInBounds_toArray, List.set_cons_zero, List.set_cons_succ]
  refine wpAny_take (i := 3) (v := ?va3) rfl (by kernel_rfl) (by kernel_rfl) (by kernel_rfl) (fun _ _ _ h => h) (Or.inl ⟨by rfl, ?hy3⟩) ?re3
  case hy3 => (intro w'; go_simp; try with_reducible rfl)
  simp only [Act.put, List.setIfInBounds_toArray, List.set_cons_zero, List.set_cons_succ]
  refine wpAny_take (i := 4) (v := ?va4) rfl (by kernel_rfl) (by kernel_rfl) (by kernel_rfl) (fun _ _ _ h => h) (Or.inl ⟨by rfl, ?hy4⟩) ?re4
  case hy4 => (intro w'; go_simp; try with_reducible rfl)
  simp only [Act.put, List.setIfInBounds_toArray, List.set_cons_zero, List.set_cons_succ]
  refine wpAny_seq 5 rfl (by kernel_rfl) ?_
  simp only [List.drop_succ_cons, List.drop_zero]
  go_wp2_with (first
    | (go_at_call 27; refine (HP.out _).mono ?_; rintro e w2 ⟨A2, n2, c2, rfl, ho2, hb2⟩; obtain rfl : 8 = n2 := (by have e1 := own_len ho2; rw [putL_length] at e1; exact e1); have hr2 := Rd.own ho2; have HR2 := Lib.hid hr2; have HB2 := Lib.hid hb2; clear hr2 hb2 ho2)
    | (refine wpList_copy_bk rfl (.tmp 14) (.tmp 20) 24 24 rfl 5 Tryz.underlying24 (by kernel_rfl) w.heap.size k (72 - k) (72 - k) A2 8 c2 (putL (8 * L) 8) rfl rfl HR2.out (by decide) _ _ _ 146 (HF.out.below HB2.out HF.out.lt) (by simp [bv_length]; omega) 8 (min8 k2) (by simp [bv_length]) ?_; intro w3 hb3 ho3; have HB3 := Lib.hid hb3; have HO3 := Lib.hid ho3; clear hb3 ho3)
    | (go_at_call 104; ((with_reducible refine (write_any g (some ⟨w.heap.size, 0, none⟩) (k + 8) 72 xs (endL L) w3 (end_hash HHW.out HB2.out HO3.out (Nat.ne_of_lt hlt) (Nat.lt_of_lt_of_le hlt HBB.out.size)) (end_rd HB3.out HKK.out k1 k2) (fun _ => end_sep (Nat.ne_of_gt hlt)) ((HK1.out.below (Nat.le_refl _) HB2.out).only_k HO3.out (Nat.ne_of_gt hk.lt.1)) hg (end_len HL.out hm k2)).mono ?_); rintro e w4 ⟨rfl, hh4, ho4⟩; have HH4 := Lib.hid hh4; have HO4 := Lib.hid ho4; clear hh4 ho4)))
  go_end0
  refine ⟨rfl, by rw [pad_end, ← HL.out]; exact HH4.out, ?_⟩
  have b1 := HBB.out.trans (HB2.out.mono HBB.out.size)
  have b3 := below_only b1 HO3.out (Nat.le_refl _) b1.size
  exact ⟨HO4.out.os.trans b3.os, HO4.out.tape.trans b3.tape, HO4.out.output.trans b3.output, Nat.le_trans b3.size HO4.out.size, fun i hi hne => (HO4.out.block i (Nat.lt_of_lt_of_le hi b3.size) hne).trans (b3.block i hi)⟩
end Go.Proofs.YtkpfppiedadmbaaGreatDoor.S2

/-
  A text that is summed: what Sum and One do.
-/
namespace Go.Proofs.YtkpfppiedadmbaaGreatDoor.S2
set_option linter.unusedSimpArgs false
set_option linter.unusedVariables false
set_option maxRecDepth 1024
open Go.RowKit

def outs (ws : List UInt32) (k : Nat) : List UInt8 := (ws.take k).flatMap fun x => putL x.toNat 4
theorem outs_succ (ws : List UInt32) (k : Nat) (h : k < ws.length) : outs ws (k + 1) = outs ws k ++ putL (ws.getD k 0).toNat 4 := by
  unfold outs
  rw [List.take_succ_eq_append_getElem h, List.flatMap_append]
  simp [List.getD, h]
theorem outs_length (ws : List UInt32) (k : Nat) (h : k ≤ ws.length) : (outs ws k).length = 4 * k := by
  induction k with
  | zero => rfl
  | succ k ih => rw [outs_succ _ _ (by omega), List.length_append, ih (by omega), putL_length]; omega
theorem outs_all (s : St) : outs s.list 8 = outL s := by
  unfold outs outL
  rw [List.take_of_length_le (by simp [St.list])]
theorem sum_length (xs : List UInt8) : (sum xs).length = 32 := by
  rw [sum, ← outs_all, outs_length _ _ (by simp [St.list])]
theorem sL_uv (s : St) : (sL s).toArray = uA s.list := rfl
theorem list_length (s : St) : s.list.length = 8 := rfl
theorem Tryz.zeroHash : (Tryz.prog.info? 137).map (fun i => (i.zero, i.size)) = some (some (.agg (hC ⟨0, 0, 0, 0, 0, 0, 0, 0⟩ (List.replicate 64 0) 0).toArray), 73) := by kernel_rfl
theorem hC_size (s : St) (r : List UInt8) (n : Nat) (h : r.length = 64) : (hC s r n).toArray.size = 73 := by simp [hC, sL_length, bv_length, h]
theorem hC_one (s : St) (r : List UInt8) (n : Nat) : (hC s r n).toArray.all (·.oneCell') = true := by
  refine all_oneCell_toArray fun v hv => ?_
  simp only [hC, List.mem_append, List.mem_singleton] at hv
  rcases hv with (hv | hv) | hv
  · simp only [sL, List.mem_cons, List.not_mem_nil, or_false] at hv
    rcases hv with rfl | rfl | rfl | rfl | rfl | rfl | rfl | rfl <;> rfl
  · exact bv_one _ v hv
  · subst hv; rfl
theorem put_4 (x : UInt32) (w : World) :
    Calls Tryz.prog 27 #[.int .u64 (x.toNat : Int), .int .i64 4] w fun e w' => ∃ (A : Option Addr) (c : Nat), e = .returned (.slice A 4 c) ∧ Rd w' A 4 c (putL x.toNat 4) ∧ Below w.heap.size w w' := by
  refine (put_any x.toNat 4 w (by omega) (by have := u32_lt x; omega)).mono ?_
  rintro e w' ⟨A, n, c, rfl, ho, hb⟩
  obtain rfl : 4 = n := by have e1 := own_len ho; rw [putL_length] at e1; exact e1
  exact ⟨A, c, rfl, Rd.own ho, hb⟩
theorem pad_length (xs : List UInt8) : 64 ≤ (pad xs).length := by
  rw [pad_end, List.length_append, endL_length]
  have : (xs.length + 8) % 64 < 64 := Nat.mod_lt _ (by omega)
  omega

theorem own_below {w w' : World} {B e size n : Nat} {v : Value} {xs : List Value} (h : w.ownsRow B e size v n xs) (hb : Below w.heap.size w w') : w'.ownsRow B e size v n xs := by
  refine ⟨h.1, ?_⟩
  rcases h.2 with h | ⟨g, cap, cur, h1, h2, h3, h4⟩
  · exact .inl h
  · exact .inr ⟨g, cap, cur, h1, h2, (hb.block g (Array.getElem?_eq_some_iff.1 h3).1).trans h3, h4⟩
set_option maxHeartbeats 1000000 in
theorem sum_any (g : Nat) (xs : List UInt8) (w : World) (hh : HashIs w g xs) (hk : GOk w) (hm : xs.length ≤ 2147483648) :
    Calls Tryz.prog 105 #[.pointer (some ⟨g, 0, none⟩)] w (New w.heap.size w (sum xs)) := by
  obtain ⟨i0, hi, hz0, hz1, hz2⟩ := info_parts Tryz.infoU8
  obtain ⟨r, hr1, hr2, hb⟩ := hh
  have hlt := hb.lt
  obtain ⟨cs, hcs⟩ : ∃ cs, cs = (hC (turns hH xs (xs.length / 64)) r xs.length).toArray := ⟨_, rfl⟩
  have hsz : cs.size = 73 := by rw [hcs]; exact hC_size _ _ _ hr1
  have h1c : cs.all (·.oneCell') = true := by rw [hcs]; exact hC_one _ _ _
  obtain ⟨zs, hzs⟩ : ∃ zs, zs = (hC ⟨0, 0, 0, 0, 0, 0, 0, 0⟩ (List.replicate 64 0) 0).toArray := ⟨_, rfl⟩
  have hzz : zs.size = 73 := by rw [hzs]; exact hC_size _ _ _ (by simp)
  have hz := (zero_of_info (P := Tryz.prog) Tryz.zeroHash).1
  have hi73 := (zero_of_info (P := Tryz.prog) Tryz.zeroHash).2
  rw [← hzs] at hz
  rw [← hcs] at hb
  have HCS := Lib.hid hcs
  have HSZ := Lib.hid hsz
  have HZZ := Lib.hid hzz
  have H1 := Lib.hid h1c
  have HI := Lib.hid hi73
  have HB := Lib.hid hb
  have HR1 := Lib.hid hr1
  have HR2 := Lib.hid hr2
  clear hcs hsz hzz h1c hi73 hzs hb hr1 hr2
  have HE := Lib.hid (show HashIs (w.alloc (.cells cs 137)) w.heap.size xs from ⟨r, HR1.out, HR2.out, by have := HCS.out; rw [← this]; exact Bk.newAt _ _ _ _ rfl⟩)
  have hb1 : Below w.heap.size w (w.alloc (.cells cs 137)) := (Below.refl _ _).alloc (Nat.le_refl _) _
  have HK1 := Lib.hid (hk.below (Nat.le_refl _) hb1)
  have HNE := Lib.hid (Nat.ne_of_gt hk.lt.1)
  have HB1 := Lib.hid hb1
  clear hb1
  go_enter Tryz.func105, Tryz.ntmps105
  go_wp2_with (first
    | (refine wpList_load_row rfl 137 _ rfl g rfl 137 cs (0, 0) _ HB.out Tryz.underlying137 rfl (by rw [HSZ.out]; exact HI.out) ?_)
    | (refine wpList_store_row rfl 137 _ _ rfl w.heap.size cs rfl rfl 137 zs (Bk.newAt _ _ _ _ rfl) (by rw [HSZ.out]; exact HI.out) (by rw [HZZ.out, HSZ.out]) H1.out ?_; rw [World.setRow_alloc_new])
    | (go_at_call 117; ((with_reducible refine (end_any w.heap.size xs _ HE.out HK1.out HNE.out hm).mono ?_); rintro e w1 ⟨rfl, hh1, ho1⟩; have HH1 := Lib.hid hh1; have HO1 := Lib.hid ho1; clear hh1 ho1; have hB1 : Below w.heap.size w w1 := below_only HB1.out HO1.out (Nat.le_refl _) HB1.out.size))
    | (at_make; refine wpList_make_own _ rfl _ _ 24 rfl w.heap.size 5 i0 (.int .u8 0) 1 Tryz.underlying24 hi hz0 hz1 _ _ _ 32 rfl rfl (by decide) (by rw [hz2]; decide) (by unfold maxLen; decide) hB1.size ?_))
  intro w2 hown0 hgrow0
  obtain ⟨st, r', n', hst, hr', hb1⟩ : ∃ (st : St) (r' : List UInt8) (n' : Nat), Hid (sum xs = outL st) ∧ r'.length = 64 ∧ Bk w1 w.heap.size 137 (hC st r' n').toArray := by
    obtain ⟨r', h1, h2, h3⟩ := HH1.out
    exact ⟨_, r', _, rfl, h1, h3⟩
  clear hr'
  clear hz
  have hB2 : Below w.heap.size w w2 := hB1.grown hgrow0 hB1.size (fun k h => by cases h)
  have hb2 := hb1.only hgrow0 (by simp)
  have HR := Lib.hid (show w2.rangeAt w.heap.size 0 (sL st) from by
    have h1 : Bk w2 w.heap.size 137 ([] ++ sL st ++ (bv r' ++ [Value.int .u64 (n' : Int)])).toArray := by simpa [hC] using hb2
    exact h1.range)
  clear hgrow0 hb2 hb1
  go_wp2_with (refine wpList_load_mid rfl 114 _ rfl w.heap.size 0 rfl (sL st) _ HR.out Tryz.underlying114 rfl Tryz.info8 ?_)
  go_loopw [4, 6, 14] (fun out _ i wr => ∃ k m : Nat, k ≤ 8 ∧ i = .int .i64 (k : Int) ∧ wr.ownsRow w.heap.size 5 1 out m (bv (outs st.list k)) ∧ Below w.heap.size w wr) (fun _ _ i _ => 8 - (intOf i).toNat)
  case atStart => exact ⟨0, 0, by omega, rfl, by simpa [bv, outs] using hown0, hB2⟩
  case round =>
    obtain ⟨k, m, hk8, rfl, hown, hbel⟩ := hrel
    clear hown0 hB2
    by_cases hlt8 : k < 8
    · obtain ⟨x, hx⟩ : ∃ x, x = st.list.getD k 0 := ⟨_, rfl⟩
      have E := Lib.hid (outs_succ st.list k (by rw [list_length]; exact hlt8))
      have hml : m ≤ 32 := by have := own_len hown; rw [outs_length _ _ (by rw [list_length]; omega)] at this; omega
      have hrun := fun W => run_index_agg (P := Tryz.prog) (T := 114) Tryz.underlying114 Tryz.infoU32 Tryz.underlying35 (sL st).toArray .i64 (k : Int) (by omega) (by omega) (.int .u32 (x.toNat : Int)) (by rw [sL_uv, Int.toNat_natCast, hx]; exact uA_get _ _ (by rw [list_length]; exact hlt8)) rfl W
      rw [← hx] at E
      have hwx : IntKind.u64.wrap (x.toNat : Int) = (x.toNat : Int) := by have := u32_lt x; rw [IntKind.wrap_u64]; omega
      have hbs := hbel.size
      clear hx
      go_wp2_with (first
        | (go_at_call 27; ((with_reducible refine (put_4 x _).mono ?_); rintro e w3 ⟨A3, c3, rfl, hr3, hb3⟩; have hown3 := own_below hown hb3; have hbel3 := hbel.trans (hb3.mono hbs)))
        | (at_builtin; refine append_rd rfl _ _ rfl w.heap.size _ m _ rfl hown3 A3 4 c3 _ rfl hr3 (by omega) hbel3.size ?_; intro v' w4 hown4 hg4))
      go_roundw
      case rel => exact ⟨k + 1, m + 4, by omega, by go_num, by rw [E.out]; exact hown4, hbel3.grown hg4 hbel3.size (fun g hg => (hown3.lt g hg).1)⟩
      case measure => simp [intOf]; omega
    · have e := outs_all st
      obtain rfl : k = 8 := by omega
      rw [e, ← hst.out] at hown
      clear e
      go_wp2
      go_ret
      exact New.mk hown hbel

set_option maxHeartbeats 1000000 in
theorem one_any (A : Option Addr) (n c : Nat) (xs : List UInt8) (w : World) (hr : Rd w A n c xs) (hk : GOk w) (hm : n ≤ 2147483648) :
    Calls Tryz.prog 81 #[.slice A n c] w (New w.heap.size w (sum xs)) := by
  have hl := hr.len
  have HM := Lib.hid (show xs.length ≤ 2147483648 by omega)
  have HM2 := Lib.hid (show ([] : List UInt8).length + n ≤ 4294967296 by simp; omega)
  have HNE := Lib.hid (Nat.ne_of_gt hk.lt.1)
  have HNE1 := Lib.hid (Nat.ne_of_gt hk.lt.2)
  clear hl
  go_enter Tryz.func81, Tryz.ntmps81
  go_wp2_with (first
    | (go_at_call 103; ((with_reducible refine (new_any _ hk).mono ?_); rintro e w1 ⟨rfl, hh1, hb1⟩; have HH1 := Lib.hid hh1; have HB1 := Lib.hid hb1; have hr1 := hr.below hb1; clear hh1 hb1))
    | (go_at_call 104; ((with_reducible refine (write_any w.heap.size A n c [] xs w1 HH1.out hr1 (sep_new hr (Nat.le_refl _)) (hk.below (Nat.le_refl _) HB1.out).k HNE.out HM2.out).mono ?_); rintro e w2 ⟨rfl, hh2, ho2⟩; have HH2 := Lib.hid (show HashIs w2 w.heap.size xs from hh2); have HO2 := Lib.hid ho2; clear hh2 ho2))
    | (go_at_call 105; ((with_reducible refine (sum_any w.heap.size xs w2 HH2.out ((hk.below (Nat.le_refl _) HB1.out).only HO2.out HNE.out HNE1.out) HM.out).mono ?_); rintro e w3 ⟨A3, n3, c3, rfl, ho3, hb3⟩)))
  go_ret
  exact New.from (below_only HB1.out HO2.out (Nat.le_refl _) HB1.out.size) ⟨A3, n3, c3, rfl, ho3, hb3⟩
end Go.Proofs.YtkpfppiedadmbaaGreatDoor.S2

/-
  What the document's own Same does.
-/
namespace Go.Proofs.YtkpfppiedadmbaaGreatDoor
set_option linter.unusedSimpArgs false
set_option linter.unusedVariables false
set_option maxRecDepth 1024
open Go.RowKit

def sameB (xs ys : List UInt8) : Bool := xs == ys
theorem sameB_refl (xs : List UInt8) : sameB xs xs = true := by simp [sameB]
theorem take_next {xs ys : List UInt8} {k : Nat} (h : xs.take k = ys.take k) (hx : k < xs.length) (hy : k < ys.length) (he : xs[k]?.getD 0 = ys[k]?.getD 0) : xs.take (k + 1) = ys.take (k + 1) := by
  rw [List.take_succ_eq_append_getElem hx, List.take_succ_eq_append_getElem hy, h]
  simp [hx, hy] at he
  rw [he]

set_option maxHeartbeats 1000000 in
theorem rsame_any (A A' : Option Addr) (n c n' c' : Nat) (xs ys : List UInt8) (w : World) (h1 : Rd w A n c xs) (h2 : Rd w A' n' c' ys) :
    Calls Tryz.prog 9 #[.slice A n c, .slice A' n' c'] w fun e w' => e = .returned (.bool (sameB xs ys)) ∧ ∃ q, w' = w.drewN q := by
  have l1 : n ≤ maxLen := Nat.le_trans h1.cap h1.max
  have l2 : n' ≤ maxLen := Nat.le_trans h2.cap h2.max
  unfold maxLen at l1 l2
  have e1 := h1.len
  have e2 := h2.len
  by_cases hnn : n = n'
  · subst hnn
    have E1 := Lib.hid e1
    have E2 := Lib.hid e2
    clear e1 e2
    go_enter Tryz.func9, Tryz.ntmps9
    go_wp2
    go_loopw [5] (fun i wr => ∃ k q : Nat, k ≤ n ∧ i = .int .i64 (k : Int) ∧ wr = w.drewN q ∧ xs.take k = ys.take k) (fun i _ => n - (intOf i).toNat)
    case atStart => exact ⟨0, 0, Nat.zero_le _, rfl, rfl, rfl⟩
    case round =>
      obtain ⟨k, q, hk, rfl, rfl, hpre⟩ := hrel
      have HP := Lib.hid hpre
      clear hpre
      by_cases hlt : k < n
      · obtain ⟨b1, o1, rfl, hb1, hc1⟩ := h1.at_ (by omega)
        obtain ⟨b2, o2, rfl, hb2, hc2⟩ := h2.at_ (by omega)
        have g1 := hc1 k hlt
        have g2 := hc2 k hlt
        have hki : (k : Int) < n := by omega
        simp only [List.getD_eq_getElem?_getD] at g1 g2
        clear hc1 hc2
        by_cases heq : xs[k]?.getD 0 = ys[k]?.getD 0
        · have HE := Lib.hid heq
          have ht : (((xs[k]?.getD 0).toNat : Int) != ((ys[k]?.getD 0).toNat : Int)) = false := by rw [heq]; simp
          clear heq
          go_wp2
          go_region
          go_wp2
          go_roundw
          case rel => exact ⟨k + 1, q + 1, by omega, by go_num, rfl, take_next HP.out (by have := E1.out; omega) (by have := E2.out; omega) HE.out⟩
          case measure => simp [intOf]; omega
        · have hne : sameB xs ys = false := by
            simp only [sameB, beq_eq_false_iff_ne]
            intro e; rw [e] at heq; exact heq rfl
          have ht : (((xs[k]?.getD 0).toNat : Int) != ((ys[k]?.getD 0).toNat : Int)) = true := by
            simp only [bne_iff_ne, ne_eq]
            intro e
            exact heq (UInt8.toNat_inj.1 (by omega))
          have HN := Lib.hid hne
          clear heq hne
          go_wp2
          go_region
          go_wp2
          go_ret
          exact ⟨by rw [HN.out]; rfl, q + 1, rfl⟩
      · obtain rfl : k = n := by omega
        have hs : sameB xs ys = true := by
          have hp := HP.out
          rw [List.take_of_length_le (by have := E1.out; omega), List.take_of_length_le (by have := E2.out; omega)] at hp
          rw [hp]; exact sameB_refl _
        have HN := Lib.hid hs
        clear hs
        go_wp2
        go_ret
        exact ⟨by rw [HN.out]; rfl, q, rfl⟩
  · have hne : sameB xs ys = false := by
      simp only [sameB, beq_eq_false_iff_ne]
      intro e; rw [e] at e1; omega
    have HN := Lib.hid hne
    have ht : ((n : Int) != (n' : Int)) = true := by simp; omega
    clear hne e1 e2 hnn
    go_enter Tryz.func9, Tryz.ntmps9
    go_wp2
    go_ret
    exact ⟨by rw [HN.out]; rfl, 0, rfl⟩

theorem rsame_true (A A' : Option Addr) (n c n' c' : Nat) (xs ys : List UInt8) (w : World) (h1 : Rd w A n c xs) (h2 : Rd w A' n' c' ys) (he : xs = ys) :
    Calls Tryz.prog 9 #[.slice A n c, .slice A' n' c'] w fun e w' => e = .returned (.bool true) ∧ Below w.heap.size w w' :=
  (rsame_any A A' n c n' c' xs ys w h1 h2).mono fun e w' ⟨h, q, hq⟩ => ⟨by rw [h, he, sameB_refl], by rw [hq]; exact ⟨rfl, rfl, rfl, Nat.le_refl _, fun _ _ => rfl⟩⟩
theorem own_lit_u8 (w : World) (B : Nat) (xs : List UInt8) (hB : B ≤ w.heap.size) (hm : xs.length ≤ maxLen) :
    (w.alloc (.cells (bv xs).toArray 5)).ownsRow B 5 1 (.slice (some ⟨w.heap.size, 0, none⟩) xs.length xs.length) xs.length (bv xs) := by
  have := World.ownsRow_lit (base := B) (e := 5) (size := 1) w (bv xs).toArray xs.length hB hm (by simp [bv_length])
  simpa using this
theorem rd_lit (w : World) (vs : Array Value) (xs : List UInt8) (h : vs.toList = bv xs) (hm : xs.length ≤ maxLen) (b : Nat) (hb : w.heap.size = b) : Rd (w.alloc (.cells vs 5)) (some ⟨b, 0, none⟩) xs.length xs.length xs := by
  subst hb
  obtain ⟨vs⟩ := vs
  simp only at h
  subst h
  exact Rd.of_bk (Bk.newAt _ _ _ _ rfl) rfl (Nat.le_refl _) hm fun j hj => by rw [Nat.zero_add]; exact bv_getElem? _ _ hj
end Go.Proofs.YtkpfppiedadmbaaGreatDoor

/-
  append at a step of a region that draws its order. No statement is proved here.
-/
namespace Go.Proofs.YtkpfppiedadmbaaGreatDoor
set_option linter.unusedSimpArgs false
set_option linter.unusedVariables false
set_option maxRecDepth 1024
open Go.RowKit

theorem news_rd {w : World} {ad : Addr} {m c : Nat} {ys : List UInt8} (hr : Rd w (some ad) m c ys) : ∀ j u, (bv ys)[j]? = some u → w.cell? (ad.add j) = some u := by
  intro j u hj
  have hl := hr.len
  have hjl : j < ys.length := by
    rcases Nat.lt_or_ge j ys.length with h | h
    · exact h
    · rw [List.getElem?_eq_none (by simpa [bv_length] using h)] at hj; cases hj
  obtain ⟨b, off, e, _, hc⟩ := hr.at_ (by omega)
  injection e with e
  subst e
  have hp : (⟨b, off, none⟩ : Addr).add j = ⟨b, off + j, none⟩ := by unfold Addr.add; split <;> simp_all
  rw [bv_at ys j hjl] at hj
  rw [hp, hc j (by omega), ← hj]
  simp [List.getD, hjl]

/-- append at a step of a region that draws its order; where the new row lies. -/
theorem step_append_rd {w : World} {ops : Array Oper} {o : Oper} {a : Act} {K : Act → World → Prop} {Q : Exit → Act → World → Prop} {E : Prop} (hw : Region.wanted o (yielded ops a.tmps) = true) (s x : Operand)
    (ho : o.op = .call { callee := .builtin .append, args := #[s, x], argTypes := #[24, 24] })
    (base : Nat) (v : Value) (n : Nat) (xs : List UInt8) (hs : a.eval s = v) (hown : w.ownsRow base 5 1 v n (bv xs))
    (A : Option Addr) (m c : Nat) (ys : List UInt8) (hx : a.eval x = .slice A m c) (hr : Rd w A m c ys) (hb : n + m ≤ 140737488355328) (hbase : base ≤ w.heap.size)
    (h : ∀ v' w', w'.ownsRow base 5 1 v' (n + m) (bv (xs ++ ys)) → w.grownBy w' v.ownBlock → (v'.ownBlock = v.ownBlock ∨ v'.ownBlock = some w.heap.size) → K (a.put o.dst v') w') :
    if Region.wanted o (yielded ops a.tmps) = true then Oper.wp Tryz.prog o a w K Q else E := by
  obtain ⟨i0, hi, hz0, hz1, hz2⟩ := info_parts Tryz.infoU8
  rw [if_pos hw]
  rcases A with _ | ad
  · have hc := hr.nil rfl
    have hm : m = 0 := by have := hr.cap; omega
    subst hc hm
    obtain rfl : ys = [] := List.eq_nil_of_length_eq_zero hr.len
    have hrun := run_append_owned_none (P := Tryz.prog) (w := w) base 24 o.type 5 i0 1 Tryz.underlying24 hi v n (bv xs) hown
    unfold Oper.wp
    simp [execOp, ho, resolve, invoke, builtin, hs, hx, hrun, Result.andThen]
    exact h v w (by simpa using hown) (World.grownBy.refl _ _) (.inl rfl)
  · obtain ⟨v', w', hrun, h2, h3, _, h5⟩ := run_append_own_at (P := Tryz.prog) w base 24 o.type 5 i0 (.int .u8 0) 1 1 Tryz.underlying24 hi hz0 hz1 hz2 rfl (by omega) v n (bv xs) hown ad m c (bv ys)
      (by simp [bv_length, hr.len]) (news_rd hr) (bv_one _) (by simp only [maxLen]; omega) (by omega) hbase
    unfold Oper.wp
    simp [execOp, ho, resolve, invoke, builtin, hs, hx, hrun, Result.andThen]
    exact h v' w' (by rw [bv_append]; exact h2) h3 h5

end Go.Proofs.YtkpfppiedadmbaaGreatDoor
