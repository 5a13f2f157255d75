/-
  A text that is summed: what Sum and One do.
-/
import Derived.Test.YtjgcaodicbikiaaDoorHash2
namespace Go.Proofs.YtjgcaodicbikiaaDoor.S2
set_option linter.unusedSimpArgs false
set_option linter.unusedVariables false
open Go.RowKit

def outs (ws : List UInt32) (k : Nat) : List UInt8 := (ws.take k).flatMap fun x => putL x.toNat 4
theorem outs_succ (ws : List UInt32) (k : Nat) (h : k < ws.length) : outs ws (k + 1) = outs ws k ++ putL (ws.getD k 0).toNat 4 := by
  unfold outs
  rw [List.take_succ_eq_append_getElem h, List.flatMap_append]
  simp [List.getD, h]
theorem outs_length (ws : List UInt32) (k : Nat) (h : k ≤ ws.length) : (outs ws k).length = 4 * k := by
  induction k with
  | zero => rfl
  | succ k ih => rw [outs_succ _ _ (by omega), List.length_append, ih (by omega), putL_length]; omega
theorem outs_all (s : St) : outs s.list 8 = outL s := by
  unfold outs outL
  rw [List.take_of_length_le (by simp [St.list])]
theorem sum_length (xs : List UInt8) : (sum xs).length = 32 := by
  rw [sum, ← outs_all, outs_length _ _ (by simp [St.list])]
theorem sL_uv (s : St) : (sL s).toArray = uA s.list := rfl
theorem list_length (s : St) : s.list.length = 8 := rfl
theorem Tryd.zeroHash : (Tryd.prog.info? 62).map (fun i => (i.zero, i.size)) = some (some (.agg (hC ⟨0, 0, 0, 0, 0, 0, 0, 0⟩ (List.replicate 64 0) 0).toArray), 73) := by kernel_rfl
theorem hC_size (s : St) (r : List UInt8) (n : Nat) (h : r.length = 64) : (hC s r n).toArray.size = 73 := by simp [hC, sL_length, bv_length, h]
theorem hC_one (s : St) (r : List UInt8) (n : Nat) : (hC s r n).toArray.all (·.oneCell') = true := by
  refine all_oneCell_toArray fun v hv => ?_
  simp only [hC, List.mem_append, List.mem_singleton] at hv
  rcases hv with (hv | hv) | hv
  · simp only [sL, List.mem_cons, List.not_mem_nil, or_false] at hv
    rcases hv with rfl | rfl | rfl | rfl | rfl | rfl | rfl | rfl <;> rfl
  · exact bv_one _ v hv
  · subst hv; rfl
theorem put_4 (x : UInt32) (w : World) :
    Calls Tryd.prog 25 #[.int .u64 (x.toNat : Int), .int .i64 4] w fun e w' => ∃ (A : Option Addr) (c : Nat), e = .returned (.slice A 4 c) ∧ Rd w' A 4 c (putL x.toNat 4) ∧ Below w.heap.size w w' := by
  refine (put_any x.toNat 4 w (by omega) (by have := u32_lt x; omega)).mono ?_
  rintro e w' ⟨A, n, c, rfl, ho, hb⟩
  obtain rfl : 4 = n := by have e1 := own_len ho; rw [putL_length] at e1; exact e1
  exact ⟨A, c, rfl, Rd.own ho, hb⟩
theorem pad_length (xs : List UInt8) : 64 ≤ (pad xs).length := by
  rw [pad_end, List.length_append, endL_length]
  have : (xs.length + 8) % 64 < 64 := Nat.mod_lt _ (by omega)
  omega

theorem own_below {w w' : World} {B e size n : Nat} {v : Value} {xs : List Value} (h : w.ownsRow B e size v n xs) (hb : Below w.heap.size w w') : w'.ownsRow B e size v n xs := by
  refine ⟨h.1, ?_⟩
  rcases h.2 with h | ⟨g, cap, cur, h1, h2, h3, h4⟩
  · exact .inl h
  · exact .inr ⟨g, cap, cur, h1, h2, (hb.block g (Array.getElem?_eq_some_iff.1 h3).1).trans h3, h4⟩
set_option maxHeartbeats 1000000 in
theorem sum_any (g : Nat) (xs : List UInt8) (w : World) (hh : HashIs w g xs) (hk : GOk w) (hm : xs.length ≤ 2147483648) :
    Calls Tryd.prog 30 #[.pointer (some ⟨g, 0, none⟩)] w (New w.heap.size w (sum xs)) := by
  obtain ⟨i0, hi, hz0, hz1, hz2⟩ := info_parts Tryd.infoU8
  obtain ⟨r, hr1, hr2, hb⟩ := hh
  have hlt := hb.lt
  obtain ⟨cs, hcs⟩ : ∃ cs, cs = (hC (turns hH xs (xs.length / 64)) r xs.length).toArray := ⟨_, rfl⟩
  have hsz : cs.size = 73 := by rw [hcs]; exact hC_size _ _ _ hr1
  have h1c : cs.all (·.oneCell') = true := by rw [hcs]; exact hC_one _ _ _
  obtain ⟨zs, hzs⟩ : ∃ zs, zs = (hC ⟨0, 0, 0, 0, 0, 0, 0, 0⟩ (List.replicate 64 0) 0).toArray := ⟨_, rfl⟩
  have hzz : zs.size = 73 := by rw [hzs]; exact hC_size _ _ _ (by simp)
  have hz := (zero_of_info (P := Tryd.prog) Tryd.zeroHash).1
  have hi73 := (zero_of_info (P := Tryd.prog) Tryd.zeroHash).2
  rw [← hzs] at hz
  rw [← hcs] at hb
  have HCS := Lib.hid hcs
  have HSZ := Lib.hid hsz
  have HZZ := Lib.hid hzz
  have H1 := Lib.hid h1c
  have HI := Lib.hid hi73
  have HB := Lib.hid hb
  have HR1 := Lib.hid hr1
  have HR2 := Lib.hid hr2
  clear hcs hsz hzz h1c hi73 hzs hb hr1 hr2
  have HE := Lib.hid (show HashIs (w.alloc (.cells cs 62)) w.heap.size xs from ⟨r, HR1.out, HR2.out, by have := HCS.out; rw [← this]; exact Bk.newAt _ _ _ _ rfl⟩)
  have hb1 : Below w.heap.size w (w.alloc (.cells cs 62)) := (Below.refl _ _).alloc (Nat.le_refl _) _
  have HK1 := Lib.hid (hk.below (Nat.le_refl _) hb1)
  have HNE := Lib.hid (Nat.ne_of_gt hk.lt.1)
  have HB1 := Lib.hid hb1
  clear hb1
  go_enter Tryd.func30, Tryd.ntmps30
  go_wp2_with (first
    | (refine wpList_load_row rfl 62 _ rfl g rfl 62 cs (0, 0) _ HB.out Tryd.underlying62 rfl (by rw [HSZ.out]; exact HI.out) ?_)
    | (refine wpList_store_row rfl 62 _ _ rfl w.heap.size cs rfl rfl 62 zs (Bk.newAt _ _ _ _ rfl) (by rw [HSZ.out]; exact HI.out) (by rw [HZZ.out, HSZ.out]) H1.out ?_; rw [World.setRow_alloc_new])
    | (go_at_call 38; ((with_reducible refine (end_any w.heap.size xs _ HE.out HK1.out HNE.out hm).mono ?_); rintro e w1 ⟨rfl, hh1, ho1⟩; have HH1 := Lib.hid hh1; have HO1 := Lib.hid ho1; clear hh1 ho1; have hB1 : Below w.heap.size w w1 := below_only HB1.out HO1.out (Nat.le_refl _) HB1.out.size))
    | (at_make; refine wpList_make_own _ rfl _ _ 22 rfl w.heap.size 5 i0 (.int .u8 0) 1 Tryd.underlying22 hi hz0 hz1 _ _ _ 32 rfl rfl (by decide) (by rw [hz2]; decide) (by unfold maxLen; decide) hB1.size ?_))
  intro w2 hown0 hgrow0
  obtain ⟨st, r', n', hst, hr', hb1⟩ : ∃ (st : St) (r' : List UInt8) (n' : Nat), Hid (sum xs = outL st) ∧ r'.length = 64 ∧ Bk w1 w.heap.size 62 (hC st r' n').toArray := by
    obtain ⟨r', h1, h2, h3⟩ := HH1.out
    exact ⟨_, r', _, rfl, h1, h3⟩
  clear hr'
  clear hz
  have hB2 : Below w.heap.size w w2 := hB1.grown hgrow0 hB1.size (fun k h => by cases h)
  have hb2 := hb1.only hgrow0 (by simp)
  have HR := Lib.hid (show w2.rangeAt w.heap.size 0 (sL st) from by
    have h1 : Bk w2 w.heap.size 62 ([] ++ sL st ++ (bv r' ++ [Value.int .u64 (n' : Int)])).toArray := by simpa [hC] using hb2
    exact h1.range)
  clear hgrow0 hb2 hb1
  go_wp2_with (refine wpList_load_mid rfl 53 _ rfl w.heap.size 0 rfl (sL st) _ HR.out Tryd.underlying53 rfl Tryd.info8 ?_)
  go_loopw [4, 6, 14] (fun out _ i wr => ∃ k m : Nat, k ≤ 8 ∧ i = .int .i64 (k : Int) ∧ wr.ownsRow w.heap.size 5 1 out m (bv (outs st.list k)) ∧ Below w.heap.size w wr) (fun _ _ i _ => 8 - (intOf i).toNat)
  case atStart => exact ⟨0, 0, by omega, rfl, by simpa [bv, outs] using hown0, hB2⟩
  case round =>
    obtain ⟨k, m, hk8, rfl, hown, hbel⟩ := hrel
    clear hown0 hB2
    by_cases hlt8 : k < 8
    · obtain ⟨x, hx⟩ : ∃ x, x = st.list.getD k 0 := ⟨_, rfl⟩
      have E := Lib.hid (outs_succ st.list k (by rw [list_length]; exact hlt8))
      have hml : m ≤ 32 := by have := own_len hown; rw [outs_length _ _ (by rw [list_length]; omega)] at this; omega
      have hrun := fun W => run_index_agg (P := Tryd.prog) (T := 53) Tryd.underlying53 Tryd.infoU32 Tryd.underlying52 (sL st).toArray .i64 (k : Int) (by omega) (by omega) (.int .u32 (x.toNat : Int)) (by rw [sL_uv, Int.toNat_natCast, hx]; exact uA_get _ _ (by rw [list_length]; exact hlt8)) rfl W
      rw [← hx] at E
      have hwx : IntKind.u64.wrap (x.toNat : Int) = (x.toNat : Int) := by have := u32_lt x; rw [IntKind.wrap_u64]; omega
      have hbs := hbel.size
      clear hx
      go_wp2_with (first
        | (go_at_call 25; ((with_reducible refine (put_4 x _).mono ?_); rintro e w3 ⟨A3, c3, rfl, hr3, hb3⟩; have hown3 := own_below hown hb3; have hbel3 := hbel.trans (hb3.mono hbs)))
        | (at_builtin; refine append_rd rfl _ _ rfl w.heap.size _ m _ rfl hown3 A3 4 c3 _ rfl hr3 (by omega) hbel3.size ?_; intro v' w4 hown4 hg4))
      go_roundw
      case rel => exact ⟨k + 1, m + 4, by omega, by go_num, by rw [E.out]; exact hown4, hbel3.grown hg4 hbel3.size (fun g hg => (hown3.lt g hg).1)⟩
      case measure => simp [intOf]; omega
    · have e := outs_all st
      obtain rfl : k = 8 := by omega
      rw [e, ← hst.out] at hown
      clear e
      go_wp2
      go_ret
      exact New.mk hown hbel

set_option maxHeartbeats 1000000 in
theorem one_any (A : Option Addr) (n c : Nat) (xs : List UInt8) (w : World) (hr : Rd w A n c xs) (hk : GOk w) (hm : n ≤ 2147483648) :
    Calls Tryd.prog 18 #[.slice A n c] w (New w.heap.size w (sum xs)) := by
  have hl := hr.len
  have HM := Lib.hid (show xs.length ≤ 2147483648 by omega)
  have HM2 := Lib.hid (show ([] : List UInt8).length + n ≤ 4294967296 by simp; omega)
  have HNE := Lib.hid (Nat.ne_of_gt hk.lt.1)
  have HNE1 := Lib.hid (Nat.ne_of_gt hk.lt.2)
  clear hl
  go_enter Tryd.func18, Tryd.ntmps18
  go_wp2_with (first
    | (go_at_call 28; ((with_reducible refine (new_any _ hk).mono ?_); rintro e w1 ⟨rfl, hh1, hb1⟩; have HH1 := Lib.hid hh1; have HB1 := Lib.hid hb1; have hr1 := hr.below hb1; clear hh1 hb1))
    | (go_at_call 29; ((with_reducible refine (write_any w.heap.size A n c [] xs w1 HH1.out hr1 (sep_new hr (Nat.le_refl _)) (hk.below (Nat.le_refl _) HB1.out).k HNE.out HM2.out).mono ?_); rintro e w2 ⟨rfl, hh2, ho2⟩; have HH2 := Lib.hid (show HashIs w2 w.heap.size xs from hh2); have HO2 := Lib.hid ho2; clear hh2 ho2))
    | (go_at_call 30; ((with_reducible refine (sum_any w.heap.size xs w2 HH2.out ((hk.below (Nat.le_refl _) HB1.out).only HO2.out HNE.out HNE1.out) HM.out).mono ?_); rintro e w3 ⟨A3, n3, c3, rfl, ho3, hb3⟩)))
  go_ret
  exact New.from (below_only HB1.out HO2.out (Nat.le_refl _) HB1.out.size) ⟨A3, n3, c3, rfl, ho3, hb3⟩
end Go.Proofs.YtjgcaodicbikiaaDoor.S2
