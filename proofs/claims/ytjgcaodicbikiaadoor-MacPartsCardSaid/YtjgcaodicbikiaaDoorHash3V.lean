/-
  A text that is summed: what Parts and One do.
-/
import Derived.Test.YtjgcaodicbikiaaDoorHash2V
namespace Go.Proofs.YtjgcaodicbikiaaDoor.S5
set_option linter.unusedSimpArgs false
set_option linter.unusedVariables false
open Go.RowKit

def outs (ws : List UInt64) (k : Nat) : List UInt8 := (ws.take k).flatMap fun x => putL x.toNat 8
theorem outs_succ (ws : List UInt64) (k : Nat) (h : k < ws.length) : outs ws (k + 1) = outs ws k ++ putL (ws.getD k 0).toNat 8 := by
  unfold outs
  rw [List.take_succ_eq_append_getElem h, List.flatMap_append]
  simp [List.getD, h]
theorem outs_length (ws : List UInt64) (k : Nat) (h : k ≤ ws.length) : (outs ws k).length = 8 * k := by
  induction k with
  | zero => rfl
  | succ k ih => rw [outs_succ _ _ (by omega), List.length_append, ih (by omega), putL_length]; omega
theorem outs_all (s : St) : outs s.list 8 = outL s := by
  unfold outs outL
  rw [List.take_of_length_le (by simp [St.list])]
theorem sum_length (xs : List UInt8) : (sum xs).length = 64 := by
  rw [sum, ← outs_all, outs_length _ _ (by simp [St.list])]
theorem sL_uv (s : St) : (sL s).toArray = uA s.list := rfl
theorem list_length (s : St) : s.list.length = 8 := rfl
theorem Tryd.zeroHash : (Tryd.prog.info? 66).map (fun i => (i.zero, i.size)) = some (some (.agg (hC ⟨0, 0, 0, 0, 0, 0, 0, 0⟩ (List.replicate 128 0) 0).toArray), 137) := by kernel_rfl
theorem hC_size (s : St) (r : List UInt8) (n : Nat) (h : r.length = 128) : (hC s r n).toArray.size = 137 := by simp [hC, sL_length, bv_length, h]
theorem hC_one (s : St) (r : List UInt8) (n : Nat) : (hC s r n).toArray.all (·.oneCell') = true := by
  refine all_oneCell_toArray fun v hv => ?_
  simp only [hC, List.mem_append, List.mem_singleton] at hv
  rcases hv with (hv | hv) | hv
  · simp only [sL, List.mem_cons, List.not_mem_nil, or_false] at hv
    rcases hv with rfl | rfl | rfl | rfl | rfl | rfl | rfl | rfl <;> rfl
  · exact bv_one _ v hv
  · subst hv; rfl
theorem pad_length (xs : List UInt8) : 128 ≤ (pad xs).length := by
  rw [pad_end, List.length_append, endL_length]
  have : (xs.length + 16) % 128 < 128 := Nat.mod_lt _ (by omega)
  omega

theorem own_below {w w' : World} {B e size n : Nat} {v : Value} {xs : List Value} (h : w.ownsRow B e size v n xs) (hb : Below w.heap.size w w') : w'.ownsRow B e size v n xs := by
  refine ⟨h.1, ?_⟩
  rcases h.2 with h | ⟨g, cap, cur, h1, h2, h3, h4⟩
  · exact .inl h
  · exact .inr ⟨g, cap, cur, h1, h2, (hb.block g (Array.getElem?_eq_some_iff.1 h3).1).trans h3, h4⟩
theorem own_base {w : World} {B B' e size n : Nat} {v : Value} {xs : List Value} (h : w.ownsRow B e size v n xs) (hB : B' ≤ B) : w.ownsRow B' e size v n xs := by
  refine ⟨h.1, ?_⟩
  rcases h.2 with h | ⟨g, cap, cur, h1, h2, h3⟩
  · exact .inl h
  · exact .inr ⟨g, cap, cur, h1, Nat.le_trans hB h2, h3⟩
theorem Tryd.builtText : Tryd.prog.built 66 [(0, .agg (sL hH).toArray)] = some (hC hH (List.replicate 128 0) 0).toArray := by kernel_rfl
set_option maxRecDepth 100000 in
set_option maxHeartbeats 1000000 in
theorem parts_any (A : Option Addr) (n c : Nat) (xss : List (List UInt8)) (w : World) (h : RdBs w A n c xss) (hg : GOk w) (ht : xss.flatten.length ≤ 268435456) :
    Calls Tryd.prog 31 #[.slice A n c] w (New w.heap.size w (sum xss.flatten)) := by
  obtain ⟨i0, hi, hz0, hz1, hz2⟩ := info_parts Tryd.infoU8
  have l1 : n ≤ maxLen := Nat.le_trans h.cap h.max
  unfold maxLen at l1
  have hr : w.rangeAt 1 0 (sL hH) := fun j v hv => by
    have hj : j < 8 := (List.getElem?_eq_some_iff.1 hv).1
    rw [Nat.zero_add, hg.h j hj, hv]
  obtain ⟨s0, hs0⟩ : ∃ s0, s0 = hH := ⟨_, rfl⟩
  have HR := Lib.hid (show w.rangeAt 1 0 (sL s0) by rw [hs0]; exact hr)
  obtain ⟨cs, hcs⟩ : ∃ cs, cs = (hC hH (List.replicate 128 0) 0).toArray := ⟨_, rfl⟩
  have HB := Lib.hid (show Tryd.prog.built 66 [(0, .agg (sL s0).toArray)] = some cs by rw [hcs, hs0]; exact Tryd.builtText)
  have HCS := Lib.hid hcs
  have HSZ := Lib.hid (show cs.size = 137 by rw [hcs]; exact hC_size _ _ _ (by simp))
  have H1 := Lib.hid (show cs.all (·.oneCell') = true by rw [hcs]; exact hC_one _ _ _)
  obtain ⟨zs, hzs⟩ : ∃ zs, zs = (hC ⟨0, 0, 0, 0, 0, 0, 0, 0⟩ (List.replicate 128 0) 0).toArray := ⟨_, rfl⟩
  have HZZ := Lib.hid (show zs.size = 137 by rw [hzs]; exact hC_size _ _ _ (by simp))
  have hz := (zero_of_info (P := Tryd.prog) Tryd.zeroHash).1
  have HI := Lib.hid (zero_of_info (P := Tryd.prog) Tryd.zeroHash).2
  rw [← hzs] at hz
  have HG := Lib.hid hg
  have HNE := Lib.hid (Nat.ne_of_gt hg.lt.1)
  have HT := Lib.hid ht
  clear hcs hr hzs ht hs0
  have HE := Lib.hid (show HashIs (w.alloc (.cells cs 66)) w.heap.size (cats xss 0) from by rw [show cats xss 0 = [] by simp [cats]]; exact ⟨List.replicate 128 0, by simp, by simp, by have e := HCS.out; rw [e]; exact Bk.newAt _ _ _ _ rfl⟩)
  have HB1 := Lib.hid ((Below.refl w.heap.size w).alloc (Nat.le_refl _) (.cells cs 66))
  go_enter Tryd.func31, Tryd.ntmps31
  go_wp2_with (first
    | (refine wpList_load_mid rfl 55 _ rfl 1 0 rfl (sL s0) _ HR.out Tryd.underlying55 rfl Tryd.info8 ?_)
    | (refine wpList_build_to rfl 66 _ rfl cs ?_ ?_)
    | (refine wpList_store_row rfl 66 _ _ rfl w.heap.size cs rfl rfl 66 zs (Bk.newAt _ _ _ _ rfl) (by rw [HSZ.out]; exact HI.out) (by rw [HZZ.out, HSZ.out]) H1.out ?_; rw [World.setRow_alloc_new]))
  · exact HB.out
  go_loopw [5, 13] (fun _ i wr => ∃ k : Nat, k ≤ n ∧ i = .int .i64 (k : Int) ∧ Hid (HashIs wr w.heap.size (cats xss k)) ∧ Below w.heap.size w wr) (fun _ i _ => n - (intOf i).toNat)
  case atStart => exact ⟨0, Nat.zero_le _, rfl, HE, HB1.out⟩
  case round =>
    obtain ⟨k, hk, rfl, HH, hbel⟩ := hrel
    by_cases hlt : k < n
    · obtain ⟨b, off, rfl, hb, hcell⟩ := (h.below hbel).at_ (by omega)
      obtain ⟨A', n', c', hc, hr⟩ := hcell k hlt
      have e1 := cats_succ xss k (by have := h.len; omega)
      have e2 := tot_le xss (k + 1)
      have E := Lib.hid e1
      have HR1 := Lib.hid hr
      have HM := Lib.hid (show (cats xss k).length + n' ≤ 4294967296 by
        have e3 := HT.out
        unfold tot at e2
        rw [e1, List.length_append, hr.len] at e2
        omega)
      have HS := Lib.hid (show 0 < n' → Sep A' w.heap.size from by
        have h0 := (h.at_ (by omega))
        obtain ⟨b0, off0, e0, hb0, hc0⟩ := h0
        obtain ⟨A0, n0, c0, hc0, hr0⟩ := hc0 k hlt
        injection e0 with e0
        injection e0 with e0 e00
        subst e0 e00
        have := (hbel.cell (p := ⟨b, off + k, none⟩) hb0).symm.trans hc
        rw [hc0] at this
        injection this with this
        injection this with t1 t2 t3
        subst t1 t2 t3
        exact sep_new hr0 (Nat.le_refl _))
      have HBL := Lib.hid hbel
      clear hcell e1 e2 hr
      go_wp2_with (first
        | (go_at_call 39; ((with_reducible refine (write_any w.heap.size A' n' c' (cats xss k) (xss[k]?.getD []) wr HH.out HR1.out HS.out (HG.out.below (Nat.le_refl _) HBL.out).k HNE.out HM.out).mono ?_); rintro e w5 ⟨rfl, h5, o5⟩; rw [← E.out] at h5; have H5 := Lib.hid h5; have O5 := Lib.hid o5; clear h5 o5)))
      go_roundw
      case rel => exact ⟨k + 1, by omega, by go_num, H5, below_only HBL.out O5.out (Nat.le_refl _) HBL.out.size⟩
      case measure => simp [intOf]; omega
    · obtain rfl : k = n := by omega
      have e := cats_all xss k h.len
      rw [e] at HH
      clear e
      have HBL := Lib.hid hbel
      have hbs := hbel.size
      go_wp2_with (first
        | (go_at_call 40; ((with_reducible refine (end_any w.heap.size xss.flatten _ HH.out (HG.out.below (Nat.le_refl _) HBL.out) HNE.out HT.out).mono ?_); rintro e w1 ⟨rfl, hh1, ho1⟩; have HH1 := Lib.hid hh1; have hB1 : Below w.heap.size w w1 := below_only HBL.out ho1 (Nat.le_refl _) HBL.out.size; clear hh1 ho1))
        | (at_make; refine wpList_make_own _ rfl _ _ 22 rfl w1.heap.size 5 i0 (.int .u8 0) 1 Tryd.underlying22 hi hz0 hz1 _ _ _ 64 rfl rfl (by decide) (by rw [hz2]; decide) (by unfold maxLen; decide) (Nat.le_refl _) ?_))
      intro w2 hown0 hgrow0
      obtain ⟨st, r', n', hst, hb1⟩ : ∃ (st : St) (r' : List UInt8) (n' : Nat), Hid (sum xss.flatten = outL st) ∧ Bk w1 w.heap.size 66 (hC st r' n').toArray := by
        obtain ⟨r', h1, h2, h3⟩ := HH1.out
        exact ⟨_, r', _, rfl, h3⟩
      have hB2 : Below w.heap.size w w2 := hB1.grown hgrow0 hB1.size (fun k h => by cases h)
      have hown0 := own_base hown0 hB1.size
      have hb2 := hb1.only hgrow0 (by simp)
      have HR2 := Lib.hid (show w2.rangeAt w.heap.size 0 (sL st) from by
        have h1 : Bk w2 w.heap.size 66 ([] ++ sL st ++ (bv r' ++ [Value.int .u64 (n' : Int)])).toArray := by simpa [hC] using hb2
        exact h1.range)
      clear hgrow0 hb2 hb1 hz
      go_wp2_with (refine wpList_load_mid rfl 55 _ rfl w.heap.size 0 rfl (sL st) _ HR2.out Tryd.underlying55 rfl Tryd.info8 ?_)
      go_loopw [6, 8, 24] (fun out _ i wr => ∃ k m : Nat, k ≤ 8 ∧ i = .int .i64 (k : Int) ∧ wr.ownsRow w.heap.size 5 1 out m (bv (outs st.list k)) ∧ Below w.heap.size w wr) (fun _ _ i _ => 8 - (intOf i).toNat)
      case atStart => exact ⟨0, 0, by omega, rfl, by simpa [bv, outs] using hown0, hB2⟩
      case round =>
        obtain ⟨k, m, hk8, rfl, hown, hbel⟩ := hrel
        clear hown0 hB2
        by_cases hlt8 : k < 8
        · obtain ⟨x, hx⟩ : ∃ x, x = st.list.getD k 0 := ⟨_, rfl⟩
          have E := Lib.hid (outs_succ st.list k (by rw [list_length]; exact hlt8))
          have hml : m ≤ 64 := by have := own_len hown; rw [outs_length _ _ (by rw [list_length]; omega)] at this; omega
          have hrun := fun W => run_index_agg (P := Tryd.prog) (T := 55) Tryd.underlying55 Tryd.infoU64 Tryd.underlying44 (sL st).toArray .i64 (k : Int) (by omega) (by omega) (.int .u64 (x.toNat : Int)) (by rw [sL_uv, Int.toNat_natCast, hx]; exact uA_get _ _ (by rw [list_length]; exact hlt8)) rfl W
          rw [← hx] at E
          have hbs := hbel.size
          clear hx
          go_wp2_with (first
            | (go_at_call 25; ((with_reducible refine (put8_any x.toNat _ rfl _ (u64_lt x)).mono ?_); rintro e w3 ⟨A3, c3, rfl, hr3, hb3⟩; have hown3 := own_below hown hb3; have hbel3 := hbel.trans (hb3.mono hbs)))
            | (at_builtin; refine append_rd rfl _ _ rfl w.heap.size _ m _ rfl hown3 A3 8 c3 _ rfl hr3 (by omega) hbel3.size ?_; intro v' w4 hown4 hg4))
          go_roundw
          case rel => exact ⟨k + 1, m + 8, by omega, by go_num, by rw [E.out]; exact hown4, hbel3.grown hg4 hbel3.size (fun g hg => (hown3.lt g hg).1)⟩
          case measure => simp [intOf]; omega
        · have e := outs_all st
          obtain rfl : k = 8 := by omega
          rw [e, ← hst.out] at hown
          clear e
          go_wp2
          go_ret
          exact New.mk hown hbel

theorem one_any (A : Option Addr) (n c : Nat) (xs : List UInt8) (w : World) (hr : Rd w A n c xs) (hk : GOk w) (hm : n ≤ 268435456) :
    Calls Tryd.prog 19 #[.slice A n c] w (New w.heap.size w (sum xs)) := by
  have hl := hr.len
  have HR := Lib.hid hr
  go_enter Tryd.func19, Tryd.ntmps19
  go_wp2_with (go_at_call 31; ((with_reducible refine (parts_any _ 1 1 [xs] _ (RdBs.built1 w 22 HR.out) (hk.below (Nat.le_refl _) ((Below.refl _ _).alloc (Nat.le_refl _) _)) ?_).mono ?_); (simp; omega); intro e w3 h3; rw [show [xs].flatten = xs by simp] at h3; obtain ⟨A3, n3, c3, rfl, ho3, hb3⟩ := h3))
  go_ret
  exact New.from ((Below.refl _ _).alloc (Nat.le_refl _) _) ⟨A3, n3, c3, rfl, ho3, hb3⟩
end Go.Proofs.YtjgcaodicbikiaaDoor.S5
