/-
  Texts put together: Hash2, Hash3, Sl1, Sl2. No statement is proved here.
-/
import Derived.Test.YtdbamdbdogdpjaaGreatDoorWa04
import Derived.Test.YtdbamdbdogdpjaaGreatDoorWa01

/-
  A text that is summed: what New and end do.
-/
namespace Go.Proofs.YtdbamdbdogdpjaaGreatDoor.S2
set_option linter.unusedSimpArgs false
set_option linter.unusedVariables false
set_option maxRecDepth 1024
open Go.RowKit

/-- The constants lie in their variables. -/
structure GOk (w : World) : Prop where
  k : KOk w
  h : ∀ i, i < 8 → w.cell? ⟨0, i, none⟩ = (sL hH)[i]?
theorem GOk.below {w w' : World} {B : Nat} (h : GOk w) (hB : w.heap.size ≤ B) (hb : Below B w w') : GOk w' :=
  ⟨h.k.below hB hb, fun i hi => by
    have h0 := h.h i hi
    obtain ⟨v, hv⟩ : ∃ v, (sL hH)[i]? = some v := ⟨(sL hH)[i]'(by rw [sL_length]; exact hi), List.getElem?_eq_getElem _⟩
    rw [hv] at h0 ⊢
    rw [hb.cell (Nat.lt_of_lt_of_le (World.block_lt_of_cell? w _ h0) hB)]
    exact h0⟩
theorem GOk.only {w w' : World} {g : Nat} (h : GOk w) (ho : w.grownBy w' (some g)) (h0 : g ≠ 1) (h1 : g ≠ 0) : GOk w' :=
  ⟨kok_only h.k ho h0, fun i hi => by
    have h0 := h.h i hi
    obtain ⟨v, hv⟩ : ∃ v, (sL hH)[i]? = some v := ⟨(sL hH)[i]'(by rw [sL_length]; exact hi), List.getElem?_eq_getElem _⟩
    rw [hv] at h0 ⊢
    exact (World.cell?_of_block (ho.block _ (World.block_lt_of_cell? w _ h0) (fun e => h1 (by injection e with e; exact e.symm)))).trans h0⟩
theorem GOk.lt {w : World} (h : GOk w) : 1 < w.heap.size ∧ 0 < w.heap.size :=
  ⟨World.block_lt_of_cell? w _ (h.k 0 (by omega)), World.block_lt_of_cell? w _ ((h.h 0 (by omega)).trans rfl)⟩

theorem Tryz.builtHash : Tryz.prog.built 139 [(0, .agg (sA hH))] = some (hC hH (List.replicate 64 0) 0).toArray := by kernel_rfl
set_option maxHeartbeats 1000000 in
theorem new_any (w : World) (hg : GOk w) :
    Calls Tryz.prog 76 #[] w fun e w' => e = .returned (.pointer (some ⟨w.heap.size, 0, none⟩)) ∧ HashIs w' w.heap.size [] ∧ Below w.heap.size w w' := by
  have hr : w.rangeAt 0 0 (sL hH) := fun j v hv => by
    have hj : j < 8 := (List.getElem?_eq_some_iff.1 hv).1
    rw [Nat.zero_add, hg.h j hj, hv]
  have HR := Lib.hid hr
  obtain ⟨cs, hcs⟩ : ∃ cs, cs = (hC hH (List.replicate 64 0) 0).toArray := ⟨_, rfl⟩
  have HB := Lib.hid (show Tryz.prog.built 139 [(0, .agg (sA hH))] = some cs by rw [hcs]; exact Tryz.builtHash)
  have HCS := Lib.hid hcs
  clear hcs hr
  go_enter Tryz.func76, Tryz.ntmps76
  go_wp2_with (first
    | (refine wpList_load_mid rfl 125 _ rfl 0 0 rfl (sL hH) _ HR.out Tryz.underlying125 rfl Tryz.info8 ?_)
    | (refine wpList_build_to rfl 139 _ rfl cs ?_ ?_))
  · exact HB.out
  go_ret
  refine ⟨rfl, ⟨List.replicate 64 0, by simp, by simp, ?_⟩, (Below.refl _ _).alloc (Nat.le_refl _) _⟩
  have := HCS.out
  rw [this]
  exact Bk.newAt _ _ _ _ rfl

theorem Tryz.zero72 : (Tryz.prog.info? 152).map (fun i => (i.zero, i.size)) = some (some (.agg (bv (List.replicate 72 0)).toArray), 72) := by kernel_rfl
/-- 'a[:h]' of an array of bytes in memory. -/
theorem run_cutArrH (T : TypeId) (N b o : Nat) (h : Int) (h' : Nat) (hT : Tryz.prog.underlying T = some (.array N 5)) (hh : h = h') (h2 : h' ≤ N) (h0 : 0 < N) (W : World) :
    (Instr.sliceAt T (.pointer (some ⟨b, o, none⟩)) none (some (.int .i64 h)) none).run Tryz.prog W = .ok (.slice (some ⟨b, o, none⟩) h' N) W := by
  have ea : Tryz.prog.arrayLen T = N := by simp [Program.arrayLen, hT]
  have ee : Tryz.prog.elem T = 5 := by simp [Program.elem, hT]
  have hs : (sizeOf 5).run Tryz.prog W = .ok 1 W := by kernel_rfl
  subst hh
  rw [run_sliceAt_array_h W T _ (by rw [ea, ee]; exact hT) .i64 h' (by omega) (by rw [ea]; omega), ee, hs]
  simp only [Result.andThen, slicedAt, ea, Int.toNat_natCast, Nat.zero_mul, Nat.sub_zero]
  rw [if_neg (by omega)]
  simp [Addr.add]
/-- What ends a text. -/
def endL (n : Nat) : List UInt8 := (128 :: List.replicate (63 - (n + 8) % 64) 0) ++ putL (8 * n) 8
theorem endL_length (n : Nat) : (endL n).length = 72 - (n + 8) % 64 := by
  have : (n + 8) % 64 < 64 := Nat.mod_lt _ (by omega)
  simp [endL, putL_length]
  omega
theorem pad_end (xs : List UInt8) : pad xs = xs ++ endL xs.length := by simp [pad, endL]
theorem fill_parts (k : Nat) (h1 : 1 ≤ k) (h2 : k ≤ 64) : (bv (List.replicate 72 0)).set 0 (.int .u8 128) = bv (128 :: List.replicate (k - 1) 0) ++ bv (List.replicate 8 0) ++ bv (List.replicate (64 - k) 0) := by
  have e : List.replicate 72 (0 : UInt8) = 0 :: (List.replicate (k - 1) 0 ++ List.replicate 8 0 ++ List.replicate (64 - k) 0) := by
    rw [List.replicate_append_replicate, List.replicate_append_replicate, ← List.replicate_succ]
    congr 1
    omega
  rw [e]
  simp [bv]
theorem HashIs.only {w w' : World} {g b : Nat} {xs : List UInt8} (h : HashIs w g xs) (ho : w.grownBy w' (some b)) (hg : g ≠ b) : HashIs w' g xs := by
  obtain ⟨r, h1, h2, h3⟩ := h
  exact ⟨r, h1, h2, h3.only ho (fun e => hg (by injection e))⟩
theorem end_hash {w w' w'' : World} {g b : Nat} {xs : List UInt8} (h : HashIs w g xs) (hb : Below w.heap.size w w') (ho : w'.grownBy w'' (some b)) (hg : g ≠ b) (hlt : g < w.heap.size) : HashIs w'' g xs :=
  HashIs.only (h.below hb hlt) ho hg
theorem end_rd {w : World} {b k L : Nat} (h : Bk w b 152 (bv (128 :: List.replicate (k - 1) 0) ++ bv ((putL (8 * L) 8).take 8) ++ bv (List.replicate (64 - k) 0)).toArray) (hk : k = 64 - (L + 8) % 64) (k1 : 1 ≤ k) (k2 : k ≤ 64) :
    Rd w (some ⟨b, 0, none⟩) (k + 8) 72 (endL L) := by
  have e : endL L = (128 :: List.replicate (k - 1) 0) ++ (putL (8 * L) 8).take 8 := by
    rw [List.take_of_length_le (by rw [putL_length]; omega), endL, hk, show 64 - (L + 8) % 64 - 1 = 63 - (L + 8) % 64 by omega]
  have hl : (endL L).length = k + 8 := by rw [endL_length]; omega
  rw [← bv_append, ← e] at h
  refine Rd.of_bk h hl (by omega) (by simp [maxLen]) fun j hj => ?_
  rw [Nat.zero_add, List.getElem?_toArray, List.getElem?_append_left (by rw [bv_length]; omega), bv_at _ _ (by omega)]
  simp [List.getD, hl, hj]
theorem end_sep {b g : Nat} (h : b ≠ g) : Sep (some ⟨b, 0, none⟩) g := by
  intro ad e
  injection e with e
  subst e
  exact h
theorem end_len {L k : Nat} {xs : List UInt8} (h : L = xs.length) (hm : L ≤ 2147483648) (hk : k ≤ 64) : xs.length + (k + 8) ≤ 4294967296 := by omega
theorem GOk.only_k {w w' : World} {g : Nat} (h : GOk w) (ho : w.grownBy w' (some g)) (h0 : g ≠ 1) : KOk w' := kok_only h.k ho h0
theorem min8 {k : Nat} (h : k ≤ 64) : 8 = Nat.min 8 (72 - k) := (Nat.min_eq_left (by omega)).symm
set_option maxHeartbeats 1000000 in
theorem end_any (g : Nat) (xs : List UInt8) (w : World) (hh : HashIs w g xs) (hk : GOk w) (hg : g ≠ 1) (hm : xs.length ≤ 2147483648) :
    Calls Tryz.prog 96 #[.pointer (some ⟨g, 0, none⟩)] w fun e w' => e = .returned (.tuple #[]) ∧ HashIs w' g (pad xs) ∧ w.grownBy w' (some g) := by
  obtain ⟨r, hr1, hr2, hb⟩ := hh
  have hlt := hb.lt
  obtain ⟨L, hL⟩ : ∃ L, L = xs.length := ⟨_, rfl⟩
  have cL := hC_72 hb hr1
  rw [← hL] at cL hm
  obtain ⟨k, hkk⟩ : ∃ k, k = 64 - (L + 8) % 64 := ⟨_, rfl⟩
  have k1 : 1 ≤ k := by omega
  have k2 : k ≤ 64 := by omega
  have HH := Lib.hid (show HashIs w g xs from ⟨r, hr1, hr2, hb⟩)
  have ek : 64 - ((L : Int) + 8) % 64 = (k : Int) := by omega
  have hz := (zero_of_info (P := Tryz.prog) Tryz.zero72).1
  obtain ⟨cs, hcs⟩ : ∃ cs, cs = (bv (List.replicate 72 0)).toArray := ⟨_, rfl⟩
  rw [← hcs] at hz
  have hb1 : Bk (w.alloc (.cells cs 152)) w.heap.size 152 cs := Bk.newAt _ _ _ _ rfl
  have c0 : (w.alloc (.cells cs 152)).cell? ⟨w.heap.size, 0, none⟩ = some (.int .u8 0) := by rw [hb1.cell, hcs]; rfl
  have f0 := hb1.frozen 0
  have HB1 := Lib.hid hb1
  have HCS := Lib.hid hcs
  have HL := Lib.hid hL
  have HKK := Lib.hid hkk
  clear hb1 hcs hL hkk hr1 hr2 hb
  go_enter Tryz.func96, Tryz.ntmps96
  go_wp2
  obtain ⟨w1, hw1⟩ : ∃ w1, w1 = (w.alloc (.cells (cs.setIfInBounds 0 (.int .u8 128)) 152)).drew := ⟨_, rfl⟩
  have hB : Below w.heap.size w w1 := by rw [hw1]; exact ((Below.refl _ _).alloc (Nat.le_refl _) _).drew
  have hF : Bk w1 w.heap.size 152 (bv (128 :: List.replicate (k - 1) 0) ++ bv (List.replicate 8 0) ++ bv (List.replicate (64 - k) 0)).toArray := by
    have e : cs.setIfInBounds 0 (.int .u8 128) = (bv (128 :: List.replicate (k - 1) 0) ++ bv (List.replicate 8 0) ++ bv (List.replicate (64 - k) 0)).toArray := by rw [HCS.out, List.setIfInBounds_toArray, fill_parts k k1 k2]
    rw [hw1, ← e]
    exact (Bk.newAt w 152 (cs.setIfInBounds 0 (.int .u8 128)) _ rfl).drew
  have cL1 : w1.cell? ⟨g, 72, none⟩ = some (.int .u64 (L : Int)) := (hB.cell hlt).trans cL
  have hsl := run_cutArrL 152 72 w.heap.size 0 (k : Int) k Tryz.underlying152 rfl (by omega)
  have hsl2 := run_cutArrH 152 72 w.heap.size 0 ((k : Int) + 8) (k + 8) Tryz.underlying152 (by omega) (by omega) (by omega)
  have hw8 : IntKind.u64.wrap (8 * (L : Int)) = 8 * (L : Int) := by rw [IntKind.wrap_u64]; omega
  have HP := Lib.hid (show ∀ W, Calls Tryz.prog 59 #[.int .u64 (8 * (L : Int)), .int .i64 8] W (New W.heap.size W (putL (8 * L) 8)) from fun W => by
    have := put_any (8 * L) 8 W (by omega) (by omega)
    rw [Int.natCast_mul] at this
    exact this)
  have HK1 := Lib.hid (hk.below (Nat.le_refl _) hB)
  have HF := Lib.hid hF
  have HBB := Lib.hid hB
  have HHW := Lib.hid (HH.out.below hB hlt)
  have kI : (k : Int) ≤ 64 := by omega
  clear hF hB
  refine wp_region_any (by kernel_rfl) ?_
  change wpAny _ _ _ _ _ _ _ (World.drew _)
  rw [← hw1]
  clear hw1 c0 f0 ek
  refine wpAny_take (i := 0) (v := ?va0) rfl (by kernel_rfl) (by kernel_rfl) (by kernel_rfl) (fun _ _ _ h => h) (Or.inl ⟨by rfl, ?hy0⟩) ?re0
  case hy0 => (intro w'; go_simp; try with_reducible rfl)
  simp only [Act.put, List.setIfInBounds_toArray, List.set_cons_zero, List.set_cons_succ]
  refine wpAny_take (i := 1) (v := ?va1) rfl (by kernel_rfl) (by kernel_rfl) (by kernel_rfl) (fun _ _ _ h => h) (Or.inl ⟨by rfl, ?hy1⟩) ?re1
  case hy1 => (intro w'; go_simp; try with_reducible rfl)
  simp only [Act.put, List.setIfInBounds_toArray, List.set_cons_zero, List.set_cons_succ]
  refine wpAny_take (i := 2) (v := ?va2) rfl (by kernel_rfl) (by kernel_rfl) (by kernel_rfl) (fun _ _ _ h => h) (Or.inl ⟨by rfl, ?hy2⟩) ?re2
  case hy2 => (intro w'; go_simp; try with_reducible rfl)
  simp only [Act.put, List.setIfInBounds_toArray, List.set_cons_zero, List.set_cons_succ]
  refine wpAny_take (i := 3) (v := ?va3) rfl (by kernel_rfl) (by kernel_rfl) (by kernel_rfl) (fun _ _ _ h => h) (Or.inl ⟨by rfl, ?hy3⟩) ?re3
  case hy3 => (intro w'; go_simp; try with_reducible rfl)
  simp only [Act.put, List.setIfInBounds_toArray, List.set_cons_zero, List.set_cons_succ]
  refine wpAny_take (i := 4) (v := ?va4) rfl (by kernel_rfl) (by kernel_rfl) (by kernel_rfl) (fun _ _ _ h => h) (Or.inl ⟨by rfl, ?hy4⟩) ?re4
  case hy4 => (intro w'; go_simp; try with_reducible rfl)
  simp only [Act.put, List.setIfInBounds_toArray, List.set_cons_zero, List.set_cons_succ]
  refine wpAny_seq 5 rfl (by kernel_rfl) ?_
  simp only [List.drop_succ_cons, List.drop_zero]
  go_wp2_with (first
    | (go_at_call 59; refine (HP.out _).mono ?_; rintro e w2 ⟨A2, n2, c2, rfl, ho2, hb2⟩; obtain rfl : 8 = n2 := (by have e1 := own_len ho2; rw [putL_length] at e1; exact e1); have hr2 := Rd.own ho2; have HR2 := Lib.hid hr2; have HB2 := Lib.hid hb2; clear hr2 hb2 ho2)
    | (refine wpList_copy_bk rfl (.tmp 14) (.tmp 20) 35 35 rfl 5 Tryz.underlying35 (by kernel_rfl) w.heap.size k (72 - k) (72 - k) A2 8 c2 (putL (8 * L) 8) rfl rfl HR2.out (by decide) _ _ _ 152 (HF.out.below HB2.out HF.out.lt) (by simp [bv_length]; omega) 8 (min8 k2) (by simp [bv_length]) ?_; intro w3 hb3 ho3; have HB3 := Lib.hid hb3; have HO3 := Lib.hid ho3; clear hb3 ho3)
    | (go_at_call 77; ((with_reducible refine (write_any g (some ⟨w.heap.size, 0, none⟩) (k + 8) 72 xs (endL L) w3 (end_hash HHW.out HB2.out HO3.out (Nat.ne_of_lt hlt) (Nat.lt_of_lt_of_le hlt HBB.out.size)) (end_rd HB3.out HKK.out k1 k2) (fun _ => end_sep (Nat.ne_of_gt hlt)) ((HK1.out.below (Nat.le_refl _) HB2.out).only_k HO3.out (Nat.ne_of_gt hk.lt.1)) hg (end_len HL.out hm k2)).mono ?_); rintro e w4 ⟨rfl, hh4, ho4⟩; have HH4 := Lib.hid hh4; have HO4 := Lib.hid ho4; clear hh4 ho4)))
  go_end0
  refine ⟨rfl, by rw [pad_end, ← HL.out]; exact HH4.out, ?_⟩
  have b1 := HBB.out.trans (HB2.out.mono HBB.out.size)
  have b3 := below_only b1 HO3.out (Nat.le_refl _) b1.size
  exact ⟨HO4.out.os.trans b3.os, HO4.out.tape.trans b3.tape, HO4.out.output.trans b3.output, Nat.le_trans b3.size HO4.out.size, fun i hi hne => (HO4.out.block i (Nat.lt_of_lt_of_le hi b3.size) hne).trans (b3.block i hi)⟩
end Go.Proofs.YtdbamdbdogdpjaaGreatDoor.S2

/-
  A text that is summed: what Sum and One do.
-/
namespace Go.Proofs.YtdbamdbdogdpjaaGreatDoor.S2
set_option linter.unusedSimpArgs false
set_option linter.unusedVariables false
set_option maxRecDepth 1024
open Go.RowKit

def outs (ws : List UInt32) (k : Nat) : List UInt8 := (ws.take k).flatMap fun x => putL x.toNat 4
theorem outs_succ (ws : List UInt32) (k : Nat) (h : k < ws.length) : outs ws (k + 1) = outs ws k ++ putL (ws.getD k 0).toNat 4 := by
  unfold outs
  rw [List.take_succ_eq_append_getElem h, List.flatMap_append]
  simp [List.getD, h]
theorem outs_length (ws : List UInt32) (k : Nat) (h : k ≤ ws.length) : (outs ws k).length = 4 * k := by
  induction k with
  | zero => rfl
  | succ k ih => rw [outs_succ _ _ (by omega), List.length_append, ih (by omega), putL_length]; omega
theorem outs_all (s : St) : outs s.list 8 = outL s := by
  unfold outs outL
  rw [List.take_of_length_le (by simp [St.list])]
theorem sum_length (xs : List UInt8) : (sum xs).length = 32 := by
  rw [sum, ← outs_all, outs_length _ _ (by simp [St.list])]
theorem sL_uv (s : St) : (sL s).toArray = uA s.list := rfl
theorem list_length (s : St) : s.list.length = 8 := rfl
theorem Tryz.zeroHash : (Tryz.prog.info? 139).map (fun i => (i.zero, i.size)) = some (some (.agg (hC ⟨0, 0, 0, 0, 0, 0, 0, 0⟩ (List.replicate 64 0) 0).toArray), 73) := by kernel_rfl
theorem hC_size (s : St) (r : List UInt8) (n : Nat) (h : r.length = 64) : (hC s r n).toArray.size = 73 := by simp [hC, sL_length, bv_length, h]
theorem hC_one (s : St) (r : List UInt8) (n : Nat) : (hC s r n).toArray.all (·.oneCell') = true := by
  refine all_oneCell_toArray fun v hv => ?_
  simp only [hC, List.mem_append, List.mem_singleton] at hv
  rcases hv with (hv | hv) | hv
  · simp only [sL, List.mem_cons, List.not_mem_nil, or_false] at hv
    rcases hv with rfl | rfl | rfl | rfl | rfl | rfl | rfl | rfl <;> rfl
  · exact bv_one _ v hv
  · subst hv; rfl
theorem put_4 (x : UInt32) (w : World) :
    Calls Tryz.prog 59 #[.int .u64 (x.toNat : Int), .int .i64 4] w fun e w' => ∃ (A : Option Addr) (c : Nat), e = .returned (.slice A 4 c) ∧ Rd w' A 4 c (putL x.toNat 4) ∧ Below w.heap.size w w' := by
  refine (put_any x.toNat 4 w (by omega) (by have := u32_lt x; omega)).mono ?_
  rintro e w' ⟨A, n, c, rfl, ho, hb⟩
  obtain rfl : 4 = n := by have e1 := own_len ho; rw [putL_length] at e1; exact e1
  exact ⟨A, c, rfl, Rd.own ho, hb⟩
theorem pad_length (xs : List UInt8) : 64 ≤ (pad xs).length := by
  rw [pad_end, List.length_append, endL_length]
  have : (xs.length + 8) % 64 < 64 := Nat.mod_lt _ (by omega)
  omega

theorem own_below {w w' : World} {B e size n : Nat} {v : Value} {xs : List Value} (h : w.ownsRow B e size v n xs) (hb : Below w.heap.size w w') : w'.ownsRow B e size v n xs := by
  refine ⟨h.1, ?_⟩
  rcases h.2 with h | ⟨g, cap, cur, h1, h2, h3, h4⟩
  · exact .inl h
  · exact .inr ⟨g, cap, cur, h1, h2, (hb.block g (Array.getElem?_eq_some_iff.1 h3).1).trans h3, h4⟩
set_option maxHeartbeats 1000000 in
theorem sum_any (g : Nat) (xs : List UInt8) (w : World) (hh : HashIs w g xs) (hk : GOk w) (hm : xs.length ≤ 2147483648) :
    Calls Tryz.prog 78 #[.pointer (some ⟨g, 0, none⟩)] w (New w.heap.size w (sum xs)) := by
  obtain ⟨i0, hi, hz0, hz1, hz2⟩ := info_parts Tryz.infoU8
  obtain ⟨r, hr1, hr2, hb⟩ := hh
  have hlt := hb.lt
  obtain ⟨cs, hcs⟩ : ∃ cs, cs = (hC (turns hH xs (xs.length / 64)) r xs.length).toArray := ⟨_, rfl⟩
  have hsz : cs.size = 73 := by rw [hcs]; exact hC_size _ _ _ hr1
  have h1c : cs.all (·.oneCell') = true := by rw [hcs]; exact hC_one _ _ _
  obtain ⟨zs, hzs⟩ : ∃ zs, zs = (hC ⟨0, 0, 0, 0, 0, 0, 0, 0⟩ (List.replicate 64 0) 0).toArray := ⟨_, rfl⟩
  have hzz : zs.size = 73 := by rw [hzs]; exact hC_size _ _ _ (by simp)
  have hz := (zero_of_info (P := Tryz.prog) Tryz.zeroHash).1
  have hi73 := (zero_of_info (P := Tryz.prog) Tryz.zeroHash).2
  rw [← hzs] at hz
  rw [← hcs] at hb
  have HCS := Lib.hid hcs
  have HSZ := Lib.hid hsz
  have HZZ := Lib.hid hzz
  have H1 := Lib.hid h1c
  have HI := Lib.hid hi73
  have HB := Lib.hid hb
  have HR1 := Lib.hid hr1
  have HR2 := Lib.hid hr2
  clear hcs hsz hzz h1c hi73 hzs hb hr1 hr2
  have HE := Lib.hid (show HashIs (w.alloc (.cells cs 139)) w.heap.size xs from ⟨r, HR1.out, HR2.out, by have := HCS.out; rw [← this]; exact Bk.newAt _ _ _ _ rfl⟩)
  have hb1 : Below w.heap.size w (w.alloc (.cells cs 139)) := (Below.refl _ _).alloc (Nat.le_refl _) _
  have HK1 := Lib.hid (hk.below (Nat.le_refl _) hb1)
  have HNE := Lib.hid (Nat.ne_of_gt hk.lt.1)
  have HB1 := Lib.hid hb1
  clear hb1
  go_enter Tryz.func78, Tryz.ntmps78
  go_wp2_with (first
    | (refine wpList_load_row rfl 139 _ rfl g rfl 139 cs (0, 0) _ HB.out Tryz.underlying139 rfl (by rw [HSZ.out]; exact HI.out) ?_)
    | (refine wpList_store_row rfl 139 _ _ rfl w.heap.size cs rfl rfl 139 zs (Bk.newAt _ _ _ _ rfl) (by rw [HSZ.out]; exact HI.out) (by rw [HZZ.out, HSZ.out]) H1.out ?_; rw [World.setRow_alloc_new])
    | (go_at_call 96; ((with_reducible refine (end_any w.heap.size xs _ HE.out HK1.out HNE.out hm).mono ?_); rintro e w1 ⟨rfl, hh1, ho1⟩; have HH1 := Lib.hid hh1; have HO1 := Lib.hid ho1; clear hh1 ho1; have hB1 : Below w.heap.size w w1 := below_only HB1.out HO1.out (Nat.le_refl _) HB1.out.size))
    | (at_make; refine wpList_make_own _ rfl _ _ 35 rfl w.heap.size 5 i0 (.int .u8 0) 1 Tryz.underlying35 hi hz0 hz1 _ _ _ 32 rfl rfl (by decide) (by rw [hz2]; decide) (by unfold maxLen; decide) hB1.size ?_))
  intro w2 hown0 hgrow0
  obtain ⟨st, r', n', hst, hr', hb1⟩ : ∃ (st : St) (r' : List UInt8) (n' : Nat), Hid (sum xs = outL st) ∧ r'.length = 64 ∧ Bk w1 w.heap.size 139 (hC st r' n').toArray := by
    obtain ⟨r', h1, h2, h3⟩ := HH1.out
    exact ⟨_, r', _, rfl, h1, h3⟩
  clear hr'
  clear hz
  have hB2 : Below w.heap.size w w2 := hB1.grown hgrow0 hB1.size (fun k h => by cases h)
  have hb2 := hb1.only hgrow0 (by simp)
  have HR := Lib.hid (show w2.rangeAt w.heap.size 0 (sL st) from by
    have h1 : Bk w2 w.heap.size 139 ([] ++ sL st ++ (bv r' ++ [Value.int .u64 (n' : Int)])).toArray := by simpa [hC] using hb2
    exact h1.range)
  clear hgrow0 hb2 hb1
  go_wp2_with (refine wpList_load_mid rfl 125 _ rfl w.heap.size 0 rfl (sL st) _ HR.out Tryz.underlying125 rfl Tryz.info8 ?_)
  go_loopw [4, 6, 14] (fun out _ i wr => ∃ k m : Nat, k ≤ 8 ∧ i = .int .i64 (k : Int) ∧ wr.ownsRow w.heap.size 5 1 out m (bv (outs st.list k)) ∧ Below w.heap.size w wr) (fun _ _ i _ => 8 - (intOf i).toNat)
  case atStart => exact ⟨0, 0, by omega, rfl, by simpa [bv, outs] using hown0, hB2⟩
  case round =>
    obtain ⟨k, m, hk8, rfl, hown, hbel⟩ := hrel
    clear hown0 hB2
    by_cases hlt8 : k < 8
    · obtain ⟨x, hx⟩ : ∃ x, x = st.list.getD k 0 := ⟨_, rfl⟩
      have E := Lib.hid (outs_succ st.list k (by rw [list_length]; exact hlt8))
      have hml : m ≤ 32 := by have := own_len hown; rw [outs_length _ _ (by rw [list_length]; omega)] at this; omega
      have hrun := fun W => run_index_agg (P := Tryz.prog) (T := 125) Tryz.underlying125 Tryz.infoU32 Tryz.underlying124 (sL st).toArray .i64 (k : Int) (by omega) (by omega) (.int .u32 (x.toNat : Int)) (by rw [sL_uv, Int.toNat_natCast, hx]; exact uA_get _ _ (by rw [list_length]; exact hlt8)) rfl W
      rw [← hx] at E
      have hwx : IntKind.u64.wrap (x.toNat : Int) = (x.toNat : Int) := by have := u32_lt x; rw [IntKind.wrap_u64]; omega
      have hbs := hbel.size
      clear hx
      go_wp2_with (first
        | (go_at_call 59; ((with_reducible refine (put_4 x _).mono ?_); rintro e w3 ⟨A3, c3, rfl, hr3, hb3⟩; have hown3 := own_below hown hb3; have hbel3 := hbel.trans (hb3.mono hbs)))
        | (at_builtin; refine append_rd rfl _ _ rfl w.heap.size _ m _ rfl hown3 A3 4 c3 _ rfl hr3 (by omega) hbel3.size ?_; intro v' w4 hown4 hg4))
      go_roundw
      case rel => exact ⟨k + 1, m + 4, by omega, by go_num, by rw [E.out]; exact hown4, hbel3.grown hg4 hbel3.size (fun g hg => (hown3.lt g hg).1)⟩
      case measure => simp [intOf]; omega
    · have e := outs_all st
      obtain rfl : k = 8 := by omega
      rw [e, ← hst.out] at hown
      clear e
      go_wp2
      go_ret
      exact New.mk hown hbel

set_option maxHeartbeats 1000000 in
theorem one_any (A : Option Addr) (n c : Nat) (xs : List UInt8) (w : World) (hr : Rd w A n c xs) (hk : GOk w) (hm : n ≤ 2147483648) :
    Calls Tryz.prog 60 #[.slice A n c] w (New w.heap.size w (sum xs)) := by
  have hl := hr.len
  have HM := Lib.hid (show xs.length ≤ 2147483648 by omega)
  have HM2 := Lib.hid (show ([] : List UInt8).length + n ≤ 4294967296 by simp; omega)
  have HNE := Lib.hid (Nat.ne_of_gt hk.lt.1)
  have HNE1 := Lib.hid (Nat.ne_of_gt hk.lt.2)
  clear hl
  go_enter Tryz.func60, Tryz.ntmps60
  go_wp2_with (first
    | (go_at_call 76; ((with_reducible refine (new_any _ hk).mono ?_); rintro e w1 ⟨rfl, hh1, hb1⟩; have HH1 := Lib.hid hh1; have HB1 := Lib.hid hb1; have hr1 := hr.below hb1; clear hh1 hb1))
    | (go_at_call 77; ((with_reducible refine (write_any w.heap.size A n c [] xs w1 HH1.out hr1 (sep_new hr (Nat.le_refl _)) (hk.below (Nat.le_refl _) HB1.out).k HNE.out HM2.out).mono ?_); rintro e w2 ⟨rfl, hh2, ho2⟩; have HH2 := Lib.hid (show HashIs w2 w.heap.size xs from hh2); have HO2 := Lib.hid ho2; clear hh2 ho2))
    | (go_at_call 78; ((with_reducible refine (sum_any w.heap.size xs w2 HH2.out ((hk.below (Nat.le_refl _) HB1.out).only HO2.out HNE.out HNE1.out) HM.out).mono ?_); rintro e w3 ⟨A3, n3, c3, rfl, ho3, hb3⟩)))
  go_ret
  exact New.from (below_only HB1.out HO2.out (Nat.le_refl _) HB1.out.size) ⟨A3, n3, c3, rfl, ho3, hb3⟩
end Go.Proofs.YtdbamdbdogdpjaaGreatDoor.S2

/-
  A record in two places, in plain words. No statement is proved here.
-/
namespace Go.Proofs.YtdbamdbdogdpjaaGreatDoor.S20
set_option linter.unusedSimpArgs false
set_option linter.unusedVariables false
open S19 (Dk)

/-- How many bytes a record may have. -/
def room (n : Int) : Nat := if 1 ≤ n ∧ n ≤ 8 then 64 * n.toNat - 28 else 0
def headB (num : Nat) (b : List UInt8) : List UInt8 := putL num 8 ++ putL b.length 4 ++ b
theorem headB_len (num : Nat) (b : List UInt8) : (headB num b).length = 12 + b.length := by simp [headB, putL_length]; omega
def fullB (num : Nat) (b : List UInt8) : List UInt8 := headB num b ++ (S2.sum (headB num b)).take 16
theorem fullB_len (num : Nat) (b : List UInt8) : (fullB num b).length = 28 + b.length := by simp [fullB, headB_len, S2.sum_length]; omega
/-- A record, filled up to so many sectors. -/
def recB (num : Nat) (b : List UInt8) (n : Nat) : List UInt8 := fullB num b ++ List.replicate (64 * n - (28 + b.length)) 0
theorem recB_len (num : Nat) (b : List UInt8) (n : Nat) (h : 28 + b.length ≤ 64 * n) : (recB num b n).length = 64 * n := by simp [recB, fullB_len]; omega
def numOf (xs : List UInt8) : Nat := getL (xs.take 8)
def cntOf (xs : List UInt8) : Nat := getL ((xs.drop 8).take 4)
def dataOf (xs : List UInt8) : List UInt8 := (xs.drop 12).take (cntOf xs)
/-- The record that bytes are; number 0: none. -/
def wholeP (xs : List UInt8) (n : Nat) : Prop := numOf xs ≠ 0 ∧ cntOf xs ≤ room n ∧ recB (numOf xs) (dataOf xs) n = xs
instance (xs : List UInt8) (n : Nat) : Decidable (wholeP xs n) := by unfold wholeP; exact inferInstance
def whole (xs : List UInt8) (n : Nat) : Nat × List UInt8 := if wholeP xs n then (numOf xs, dataOf xs) else (0, [])
def blank (xs : List UInt8) (n : Nat) : Bool := decide (xs = List.replicate (64 * n) 0)
/-- Two areas, and what counts: which (-1: none), its number, and its bytes. -/
structure Sl where
  first : Nat
  n : Nat
  at_ : Int
  num : Nat
  b : List UInt8
namespace Sl
def new (first n : Nat) : Sl := ⟨first, n, -1, 0, []⟩
/-- So many sectors, one behind the other, as they read. -/
def areaK (D : Dk) (at_ : Nat) : Nat → List UInt8
  | 0 => []
  | k + 1 => areaK D at_ k ++ D.atS (at_ + k)
def area (Z : Sl) (D : Dk) (i : Nat) : List UInt8 := areaK D (Z.first + i * Z.n) Z.n
/-- One area more has been looked at. -/
def look (Z : Sl) (D : Dk) (i : Nat) (z : Int × Nat × List UInt8) : Int × Nat × List UInt8 := if z.2.1 < (whole (Z.area D i) Z.n).1 then ((i : Int), whole (Z.area D i) Z.n) else z
def seen (Z : Sl) (D : Dk) : Int × Nat × List UInt8 := Z.look D 1 (Z.look D 0 (-1, 0, []))
def load (Z : Sl) (D : Dk) : Sl := if D.off = true then Z else { Z with at_ := (Z.seen D).1, num := (Z.seen D).2.1, b := (Z.seen D).2.2 }
def loadC (Z : Sl) (D : Dk) : Nat := if D.off = true then 6 else if (Z.seen D).1 < 0 then (if blank (Z.area D 0) Z.n || blank (Z.area D 1) Z.n then 11 else 8) else 0
def loadB (Z : Sl) (D : Dk) : List UInt8 := if Z.loadC D = 0 then (Z.load D).b else []
def loadN (Z : Sl) (D : Dk) : Nat := if Z.loadC D = 0 then (Z.load D).num else 0
/-- Where the next record goes. -/
def goes (Z : Sl) : Nat := if Z.at_ = 0 then 1 else 0
def next (Z : Sl) : Nat := (Z.num + 1) % 18446744073709551616
def row (xs : List UInt8) (k : Nat) : List UInt8 := (xs.drop (64 * k)).take 64
/-- k sectors are to be written, from the j-th one on: what is told, and the disk. -/
def writes (at_ : Nat) (xs : List UInt8) : Nat → Nat → Dk → Nat × Dk
  | 0, _, D => (0, D)
  | k + 1, j, D => if D.writeC ((at_ + j : Nat) : Int) (row xs j) = 0 then writes at_ xs k (j + 1) (D.write ((at_ + j : Nat) : Int) (row xs j)) else (D.writeC ((at_ + j : Nat) : Int) (row xs j), D.write ((at_ + j : Nat) : Int) (row xs j))
def written (Z : Sl) (D : Dk) (b : List UInt8) : Nat × Dk := writes (Z.first + Z.goes * Z.n) (recB Z.next b Z.n) Z.n 0 D
def saveC (Z : Sl) (D : Dk) (b : List UInt8) : Nat := if room Z.n < b.length then 1 else if (Z.written D b).1 = 0 then (Z.written D b).2.stepC else (Z.written D b).1
def saveD (Z : Sl) (D : Dk) (b : List UInt8) : Dk := if room Z.n < b.length then D else if (Z.written D b).1 = 0 then (Z.written D b).2.flush else (Z.written D b).2
def save (Z : Sl) (D : Dk) (b : List UInt8) : Sl := if Z.saveC D b = 0 then { Z with at_ := (Z.goes : Int), num := Z.next, b := b } else Z
/-- What holds of every one. -/
structure Ok (Z : Sl) (D : Dk) : Prop where
  one : 1 ≤ Z.n
  most : Z.n ≤ 8
  fits : Z.first + 2 * Z.n ≤ D.sure.length
  at_ : Z.at_ = -1 ∨ Z.at_ = 0 ∨ Z.at_ = 1
  num : Z.num < 18446744073709551616
end Sl
theorem room_nat {n : Nat} (h1 : 1 ≤ n) (h2 : n ≤ 8) : room n = 64 * n - 28 := by
  unfold room
  rw [if_pos (by omega), Int.toNat_natCast]
theorem numOf_lt (xs : List UInt8) : numOf xs < 18446744073709551616 := by
  have h := getL_lt (xs.take 8)
  have : 256 ^ (xs.take 8).length ≤ 256 ^ 8 := Nat.pow_le_pow_right (by omega) (by simp; omega)
  unfold numOf
  have e : (256 : Nat) ^ 8 = 18446744073709551616 := by decide
  omega
theorem cntOf_lt (xs : List UInt8) : cntOf xs < 4294967296 := by
  have h := getL_lt ((xs.drop 8).take 4)
  have : 256 ^ ((xs.drop 8).take 4).length ≤ 256 ^ 4 := Nat.pow_le_pow_right (by omega) (by simp; omega)
  unfold cntOf
  have e : (256 : Nat) ^ 4 = 4294967296 := by decide
  omega
end Go.Proofs.YtdbamdbdogdpjaaGreatDoor.S20

/-
  Numbers as bytes, and what a record's bytes say. No statement is proved here.
-/
namespace Go.Proofs.YtdbamdbdogdpjaaGreatDoor.S20
set_option linter.unusedSimpArgs false
set_option linter.unusedVariables false
open S19 (Dk)

theorem getL_at (xs : List UInt8) : ∀ a : Nat, xs.foldl (fun v c => v * 256 + c.toNat) a = a * 256 ^ xs.length + getL xs := by
  induction xs with
  | nil => intro a; simp [getL]
  | cons c xs ih =>
    intro a
    have e : getL (c :: xs) = xs.foldl (fun v c => v * 256 + c.toNat) (0 * 256 + c.toNat) := rfl
    rw [List.foldl_cons, ih, e, ih, List.length_cons, Nat.pow_succ]
    have h1 : (a * 256 + c.toNat) * 256 ^ xs.length = a * (256 ^ xs.length * 256) + c.toNat * 256 ^ xs.length := by
      rw [Nat.add_mul, Nat.mul_assoc, Nat.mul_comm 256]
    have h2 : (0 * 256 + c.toNat) * 256 ^ xs.length = c.toNat * 256 ^ xs.length := by rw [Nat.zero_mul, Nat.zero_add]
    omega
theorem getL_cons (c : UInt8) (xs : List UInt8) : getL (c :: xs) = c.toNat * 256 ^ xs.length + getL xs := by
  have e : getL (c :: xs) = xs.foldl (fun v c => v * 256 + c.toNat) (0 * 256 + c.toNat) := rfl
  rw [e, getL_at, Nat.zero_mul, Nat.zero_add]
theorem getL_putL (V : Nat) : ∀ n, getL (putL V n) = V % 256 ^ n
  | 0 => by simp [putL, getL, Nat.mod_one]
  | n + 1 => by
    rw [putL, getL_cons, getL_putL V n, putL_length]
    have h1 : (UInt8.ofNat (V / 256 ^ n)).toNat = V / 256 ^ n % 256 := by simp
    rw [h1, Nat.pow_succ, Nat.mod_mul, Nat.mul_comm (256 ^ n)]
    omega
theorem numOf_rec {num : Nat} (h : num < 18446744073709551616) (b : List UInt8) (n : Nat) : numOf (recB num b n) = num := by
  unfold numOf
  have e : (recB num b n).take 8 = putL num 8 := by
    unfold recB fullB headB
    rw [List.append_assoc, List.append_assoc, List.append_assoc, List.append_assoc, List.take_append_of_le_length (by simp [putL_length]), List.take_of_length_le (by simp [putL_length])]
  rw [e, getL_putL]
  exact Nat.mod_eq_of_lt (by have e : (256 : Nat) ^ 8 = 18446744073709551616 := by decide
                             omega)
theorem drop12 (num : Nat) (b : List UInt8) (n : Nat) : (recB num b n).drop 12 = b ++ ((S2.sum (headB num b)).take 16 ++ List.replicate (64 * n - (28 + b.length)) 0) := by
  unfold recB fullB
  generalize (S2.sum (headB num b)).take 16 = s
  generalize List.replicate (64 * n - (28 + b.length)) (0 : UInt8) = r
  show ((putL num 8 ++ putL b.length 4 ++ b) ++ s ++ r).drop 12 = b ++ (s ++ r)
  rw [List.append_assoc, List.append_assoc, List.drop_append_of_le_length (by simp [putL_length]), List.drop_of_length_le (by simp [putL_length]), List.nil_append]
theorem cntOf_rec (num : Nat) {b : List UInt8} (hb : b.length < 4294967296) (n : Nat) : cntOf (recB num b n) = b.length := by
  unfold cntOf
  have e : ((recB num b n).drop 8).take 4 = putL b.length 4 := by
    unfold recB fullB headB
    rw [List.append_assoc, List.append_assoc, List.append_assoc, List.append_assoc, List.drop_append_of_le_length (by simp [putL_length]), List.drop_of_length_le (by simp [putL_length]), List.nil_append, List.take_append_of_le_length (by simp [putL_length]), List.take_of_length_le (by simp [putL_length])]
  rw [e, getL_putL]
  exact Nat.mod_eq_of_lt (by have e : (256 : Nat) ^ 4 = 4294967296 := by decide
                             omega)
theorem dataOf_rec (num : Nat) {b : List UInt8} (hb : b.length < 4294967296) (n : Nat) : dataOf (recB num b n) = b := by
  unfold dataOf
  rw [cntOf_rec num hb, drop12, List.take_append_of_le_length (Nat.le_refl _), List.take_of_length_le (Nat.le_refl _)]
/-- A record is whole. -/
theorem whole_rec {num n : Nat} (h0 : num ≠ 0) (h : num < 18446744073709551616) (h1 : 1 ≤ n) (h8 : n ≤ 8) {b : List UInt8} (hb : b.length ≤ room n) : whole (recB num b n) n = (num, b) := by
  have hr := room_nat h1 h8
  have hb' : b.length < 4294967296 := by omega
  have e1 := numOf_rec h b n
  have e2 := cntOf_rec num hb' n
  have e3 := dataOf_rec num hb' n
  unfold whole
  rw [if_pos (show wholeP _ _ from ⟨by rw [e1]; exact h0, by rw [e2]; exact hb, by rw [e1, e3]⟩), e1, e3]
theorem whole_lt (xs : List UInt8) (n : Nat) : (whole xs n).1 < 18446744073709551616 := by
  unfold whole
  split
  · exact numOf_lt xs
  · show 0 < 18446744073709551616
    omega
end Go.Proofs.YtdbamdbdogdpjaaGreatDoor.S20
