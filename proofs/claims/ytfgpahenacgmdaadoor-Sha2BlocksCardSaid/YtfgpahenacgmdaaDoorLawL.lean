/-
  The call of the statement Sha2Blocks of layer 2.
-/
import Derived.Test.YtfgpahenacgmdaaDoorLawG
import Derived.Test.YtfgpahenacgmdaaDoorLawS
import Derived.Test.YtfgpahenacgmdaaDoorBlks
import Derived.Deep.RegionHeld3
namespace Go.Proofs.YtfgpahenacgmdaaDoor.S2
set_option linter.unusedSimpArgs false
set_option linter.unusedVariables false
open Go.RowKit

theorem flat_chunk : ∀ (xss : List (List UInt8)) (k : Nat), (∀ xs ∈ xss, xs.length = 64) → k < xss.length → (xss.flatten.drop (64 * k)).take 64 = xss.getD k []
  | [], k, _, h => absurd h (by simp)
  | xs :: xss, 0, h, _ => by
    have := h xs (by simp)
    simp [List.take_append, this]
  | xs :: xss, k + 1, h, hk => by
    have h64 := h xs (by simp)
    have ih := flat_chunk xss k (fun ys hy => h ys (by simp [hy])) (by simpa using hk)
    rw [List.flatten_cons, show 64 * (k + 1) = xs.length + 64 * k by omega, List.drop_length_add_append, ih]
    simp
theorem flat_length : ∀ (xss : List (List UInt8)), (∀ xs ∈ xss, xs.length = 64) → xss.flatten.length = 64 * xss.length
  | [], _ => rfl
  | xs :: xss, h => by
    have h64 := h xs (by simp)
    have ih := flat_length xss (fun ys hy => h ys (by simp [hy]))
    simp only [List.flatten_cons, List.length_append, List.length_cons, ih, h64]
    omega
theorem only_setRow (w : World) (g : Nat) (cs : Array Value) : w.grownBy (w.setRow g cs) (some g) :=
  ⟨rfl, rfl, rfl, by simp [World.setRow], fun i hi hne => setRow_other w g i cs (fun e => hne (by rw [e]))⟩
def lastL (V j : Nat) : List UInt8 := (128 :: List.replicate (63 - j) 0) ++ (putL V 8).drop (8 - j)
theorem lastL_set (V j : Nat) (h : j < 8) : (lastL V j).set (63 - j) (UInt8.ofNat (V / 256 ^ j)) = lastL V (j + 1) := by
  have hl := putL_length V 8
  apply List.ext_getElem?
  intro i
  unfold lastL
  have h7 := putL_get V 8 (7 - j) (by omega)
  rw [show 8 - 1 - (7 - j) = j by omega] at h7
  rw [List.getElem?_set]
  by_cases h1 : 63 - j = i
  · subst h1
    rw [if_pos rfl, if_pos (by simp; omega), List.getElem?_append_right (by simp; omega), List.getElem?_drop]
    rw [← h7]
    congr 1
    simp
    omega
  · rw [if_neg h1]
    by_cases h2 : i < 63 - j
    · rw [List.getElem?_append_left (by simp; omega), List.getElem?_append_left (by simp; omega)]
      cases i with
      | zero => rfl
      | succ i => rw [List.getElem?_cons_succ, List.getElem?_cons_succ, List.getElem?_replicate, List.getElem?_replicate, if_pos (by omega), if_pos (by omega)]
    · rw [List.getElem?_append_right (by simp; omega), List.getElem?_append_right (by simp; omega), List.getElem?_drop, List.getElem?_drop]
      congr 1
      simp
      omega
theorem lastL_length (V j : Nat) (h : j ≤ 8) : (lastL V j).length = 64 := by
  have hl := putL_length V 8
  simp [lastL, hl]; omega
theorem lastL_end (k : Nat) : lastL (8 * (64 * k)) 8 = endL (64 * k) := by
  unfold lastL endL
  rw [show (64 * k + 8) % 64 = 8 by omega]
  rfl
theorem byte_sh (k j : Nat) (h : j < 8) : 64 * (k : Int) * 8 / 2 ^ (8 * j) % 256 = ((UInt8.ofNat (8 * (64 * k) / 256 ^ j)).toNat : Int) := by
  have := byte_at (64 * k) (7 - j) (by omega)
  rw [show 7 - (7 - j) = j by omega] at this
  rw [← this]
  simp
theorem still_load_mid {P : Program} {ops : Array Oper} {w : World} {Q : Act → Prop} {a : Act} {op : Oper} {rest : List Oper} (hw : Region.wanted op (yielded ops a.tmps) = true) (ty : TypeId) (x : Operand) (ho : op.op = .load ty x)
    (b o : Nat) (hx : a.eval x = .pointer (some ⟨b, o, none⟩)) (cs : List Value) (d : TypeDesc) (hc : w.rangeAt b o cs)
    (hu : P.underlying ty = some d) (hd : d.isRow = true) (hi : (P.info? ty).map (·.size) = some cs.length)
    (h : wpStill P ops w Q rest (a.put op.dst (.agg cs.toArray))) : wpStill P ops w Q (op :: rest) a := by
  unfold wpStill
  rw [if_pos hw]
  unfold Oper.still execOp
  simp only [ho, hx, Instr.loadAt, Instr.sureAddr, Sem.run_bind, Sem.run_pure, Result.andThen_ok, run_loadVar_mid w b o ty cs d hc hu hd hi]
  exact ⟨rfl, h⟩
set_option maxRecDepth 100000 in
set_option maxHeartbeats 4000000 in
theorem sha2Blocks_walk (w : World) (hk : GOk w) (A : Option Addr) (n c : Nat) (xss : List (List UInt8)) (hr : RdA w A n c xss) (hn : n ≤ 10) :
    Calls Tryd.prog 6 #[.slice A n c] w fun e w' => e = .returned (.bool true) ∧ Below w.heap.size w w' := by
  have HK := Lib.hid hk
  have HR := Lib.hid hr
  have hni : ¬ 10 < (n : Int) := by omega
  clear hk hr
  go_enter Tryd.func6, Tryd.ntmps6
  go_wp2_with (first
    | (go_at_call 9; ((with_reducible refine (awake_true _ HK.out).mono ?_); rintro e w1 ⟨rfl, hb1⟩; have B1 := Lib.hid hb1; clear hb1)))
  obtain ⟨g, hg⟩ : ∃ g, g = w1.heap.size := ⟨_, rfl⟩
  have HG := Lib.hid (show w.heap.size ≤ g by rw [hg]; exact B1.out.size)
  have G0 := Lib.hid (show Bk (w1.alloc (.cells (sA hH) 28)) g 28 (sA hH) from Bk.newAt w1 28 (sA hH) g hg.symm)
  have BW0 := Lib.hid (show Below w.heap.size w (w1.alloc (.cells (sA hH) 28)) from B1.out.alloc B1.out.size _)
  rw [← hg]
  clear hg
  go_loopw [4, 5] (fun v i wr => ∃ (k : Nat) (T : List UInt8), k ≤ n ∧ i = .int .i64 (k : Int) ∧ Hid (T = xss.flatten.take (64 * k)) ∧ Hid (Bk wr g 28 (sA (turns hH xss.flatten k))) ∧ Hid (wr.ownsRow (g + 1) 5 1 v (64 * k) (bv T)) ∧ Hid (Below w.heap.size w wr))
    (fun _ i _ => n - (intOf i).toNat)
  case atStart => exact ⟨0, [], by omega, rfl, by show [] = _; simp, G0.out, ⟨by simp [bv], .inl ⟨rfl, rfl⟩⟩, BW0.out⟩
  case round =>
    obtain ⟨k, T, hkn, rfl, HT, HB, HO, BB⟩ := hrel
    obtain ⟨A4, c4, rfl⟩ := own_form HO.out
    by_cases hlt : k < n
    · obtain ⟨b, off, hDe, hb, hcell⟩ := (HR.out.below BB.out).at_ (by omega)
      subst hDe
      have hr := HR.out.below BB.out
      have hrange := hr.range hlt
      have hrd := hr.rd hlt
      obtain ⟨st, hst⟩ : ∃ st, st = turns hH xss.flatten k := ⟨_, rfl⟩
      rw [← hst] at HB
      obtain ⟨ck, hck⟩ : ∃ ck, ck = xss.getD k [] := ⟨_, rfl⟩
      rw [← hck] at hrange hrd
      have hki : (k : Int) < (n : Int) := by omega
      have h64 : ck.length = 64 := hrd.len
      have hfc : (xss.flatten.drop (64 * k)).take 64 = ck := by rw [hck]; exact flat_chunk xss k HR.out.each (by rw [HR.out.len]; exact hlt)
      have hnx : turns hH xss.flatten (k + 1) = turn st ck := by rw [turns, hfc, hst]
      obtain ⟨s2, hs2⟩ : ∃ s2, s2 = turn st ck := ⟨_, rfl⟩
      rw [← hs2] at hnx
      have HN2 := Lib.hid hnx
      have HT2 := Lib.hid (show T ++ ck = xss.flatten.take (64 * (k + 1)) by rw [show 64 * (k + 1) = 64 * k + 64 by omega, List.take_add, hfc]; rw [show T = _ from HT.out])
      have HTU := Lib.hid (show ∀ W, KOk W → Calls Tryd.prog 13 #[.agg (sA st), .agg (bv ck).toArray] W fun e w' => e = .returned (.agg (sA s2)) ∧ Below W.heap.size W w' from fun W h => by rw [hs2]; exact turn_any st ck W h64 h)
      have HBL := Lib.hid (show (bv ck).length = 64 by simp [bv, h64])
      have HRG := Lib.hid hrange
      have HRD := Lib.hid hrd
      have hk9 : k < 10 := by omega
      have HCK := Lib.hid hck
      clear hcell hr hs2 hnx hfc hck hst hrange hrd h64
      go_wp2
      refine still_tail 5 (by kernel_rfl) (by kernel_rfl) ?_
      intro wd hwd
      have hb : Bk wd g 28 (sA st) := by rw [hwd]; exact HB.out.drew
      have hB : Below w.heap.size w wd := by rw [hwd]; exact BB.out.drew
      have hS : Below wr.heap.size wr wd := by rw [hwd]; exact (Below.refl _ _).drew
      have hrg : wd.rangeAt b (off + k * 64) (bv ck) := by rw [hwd]; exact HRG.out
      have hrt : Rd wd (some ⟨b, off + k * 64, none⟩) 64 64 ck := by rw [hwd]; exact HRD.out.drew
      have hod := own_below HO.out hS
      have c0 : wd.cell? ⟨g, 0, none⟩ = some (.int .u32 (st.a.toNat : Int)) := hb.cell 0
      have c1 : wd.cell? ⟨g, 1, none⟩ = some (.int .u32 (st.b.toNat : Int)) := hb.cell 1
      have c2 : wd.cell? ⟨g, 2, none⟩ = some (.int .u32 (st.c.toNat : Int)) := hb.cell 2
      have c3 : wd.cell? ⟨g, 3, none⟩ = some (.int .u32 (st.d.toNat : Int)) := hb.cell 3
      have c4 : wd.cell? ⟨g, 4, none⟩ = some (.int .u32 (st.e.toNat : Int)) := hb.cell 4
      have c5 : wd.cell? ⟨g, 5, none⟩ = some (.int .u32 (st.f.toNat : Int)) := hb.cell 5
      have c6 : wd.cell? ⟨g, 6, none⟩ = some (.int .u32 (st.g.toNat : Int)) := hb.cell 6
      have c7 : wd.cell? ⟨g, 7, none⟩ = some (.int .u32 (st.h.toNat : Int)) := hb.cell 7
      have HBB := Lib.hid hb
      have HRT := Lib.hid hrt
      have HR3 := Lib.hid hrg
      have HB3 := Lib.hid hB
      have HO3 := Lib.hid hod
      clear hwd hb hrt hrg hB hod hS
      simp only [List.take_succ_cons, List.take_zero, List.drop_succ_cons, List.drop_zero]
      still_step
      still_step
      still_step
      still_step
      refine still_load_mid (by kernel_rfl) 29 _ rfl b (off + k * 64) rfl (bv ck) _ HR3.out Tryd.underlying29 rfl (by rw [HBL.out]; kernel_rfl) ?_
      refine wpStill_nil ?_
      clear c0 c1 c2 c3 c4 c5 c6 c7
      go_wp2_with (first
        | (go_at_call 13; ((with_reducible refine (HTU.out _ (HK.out.below (Nat.le_refl _) HB3.out).k).mono ?_); rintro e w7 ⟨rfl, hb7⟩; have HB7 := Lib.hid (HBB.out.below hb7 HBB.out.lt); have HL7 := Lib.hid (HB3.out.trans (hb7.mono HB3.out.size)); have RD7 := Lib.hid (HRT.out.below hb7); have HO7 := Lib.hid (own_below HO3.out hb7); clear hb7))
        | (refine wpList_store_row rfl 28 _ _ rfl g (sA s2) rfl rfl 28 (sA st) HB7.out Tryd.info8 rfl (sA_one _) ?_; obtain ⟨w8, hw8⟩ : ∃ w8, w8 = w7.setRow g (sA s2) := ⟨_, rfl⟩; have HB8 := Lib.hid (show Bk w8 g 28 (sA s2) by rw [hw8]; exact HB7.out.row _); have HL8 := Lib.hid (show Below w.heap.size w w8 by rw [hw8]; exact below_setRow HL7.out HG.out _); have HO8 := Lib.hid (show w8.ownsRow (g + 1) 5 1 (.slice A4 (64 * k) c4) (64 * k) (bv T) by rw [hw8]; exact own_only HO7.out (only_setRow w7 g _) (fun e => by have := (HO7.out.lt g e).1; omega)); have RD8 := Lib.hid ((HR.out.below HL8.out).rd hlt); rw [← hw8]; clear hw8)
        | (at_builtin; refine append_rd rfl (.tmp 29) (.tmp 33) rfl (g + 1) (.slice A4 (64 * k) c4) (64 * k) T rfl HO8.out (some ⟨b, off + k * 64, none⟩) 64 64 (xss.getD k []) rfl RD8.out (by omega) (HB8.out.lt) ?_; intro v9 w9 o9 g9; have O9 := Lib.hid o9; have HB9 := Lib.hid (HB8.out.only g9 (fun e => by have := (HO8.out.lt g e.symm).1; omega)); have HL9 := Lib.hid (HL8.out.grown g9 HL8.out.size (fun j hj => by have := (HO8.out.lt j hj).1; have := HG.out; omega)); clear o9 g9))
      go_roundw
      case rel => exact ⟨k + 1, T ++ ck, by omega, by go_num, HT2.out, by rw [HN2.out]; exact HB9, by rw [HCK.out]; exact O9.out, HL9⟩
      case measure => simp [intOf]; omega
    · obtain rfl : k = n := by omega
      have hki : ¬ (k : Int) < (k : Int) := by omega
      go_wp2
      obtain ⟨wo, rfl⟩ : ∃ wo : World, wo = wr := ⟨_, rfl⟩
      have hk9 : k < 11 := by omega
      go_loopw [8] (fun i w6 => ∃ j : Nat, j ≤ 8 ∧ i = .int .i64 (j : Int) ∧ Bk w6 wo.heap.size 29 (bv (lastL (8 * (64 * k)) j)).toArray ∧ Below wo.heap.size wo w6) (fun i _ => 8 - (intOf i).toNat)
      case atStart =>
        refine ⟨0, by omega, rfl, ?_, ?_⟩
        · exact Bk.newAt wo 29 (bv (lastL (8 * (64 * k)) 0)).toArray _ rfl
        · exact (Below.refl _ _).alloc (Nat.le_refl _) _
      case round =>
        obtain ⟨j, hj, rfl, hb, hB⟩ := hrel
        by_cases hlt8 : j < 8
        · have hsh := byte_sh k j hlt8
          have hset := lastL_set (8 * (64 * k)) j hlt8
          obtain ⟨bt, hbt⟩ : ∃ bt, bt = UInt8.ofNat (8 * (64 * k) / 256 ^ j) := ⟨_, rfl⟩
          rw [← hbt] at hsh hset
          have HST := Lib.hid hset
          have HSH := Lib.hid hsh
          have hw1 : IntKind.i64.wrap (63 - (j : Int)) = 63 - (j : Int) := by rw [IntKind.wrap_i64]; omega
          have ht1 : (63 - (j : Int)).toNat = 63 - j := by omega
          have h01 : (0 : Int) ≤ 63 - (j : Int) := by omega
          have h02 : (63 : Int) - (j : Int) < 64 := by omega
          have hcx := (hb.cell (63 - j)).trans (bv_getElem? _ _ (by rw [lastL_length _ _ (by omega)]; omega))
          have hfx := hb.frozen (63 - j)
          have ji : (j : Int) < 8 := by omega
          clear hbt hset hsh
          go_wp2
          go_roundw
          case rel => exact ⟨j + 1, by omega, by go_num, by have hp := hb.put (63 - j) (.int .u8 (bt.toNat : Int)); rw [← HST.out]; simpa [bv, List.map_set, HSH.out] using hp, hB.setCell (by simp) _⟩
          case measure => simp [intOf]; omega
        · obtain rfl : j = 8 := by omega
          rw [lastL_end] at hb
          have hl64 : (endL (64 * k)).length = 64 := by rw [endL_length]; omega
          have HFL := Lib.hid (show xss.flatten.length = 64 * k by rw [flat_length _ HR.out.each, HR.out.len])
          have HTT := Lib.hid (show T = xss.flatten by rw [show T = _ from HT.out, List.take_of_length_le (by rw [HFL.out]; omega)])
          have ji : ¬ (8 : Int) < 8 := by omega
          obtain ⟨st, hst⟩ : ∃ st, st = turns hH xss.flatten k := ⟨_, rfl⟩
          obtain ⟨F, hF⟩ : ∃ F, F = turn st (endL (64 * k)) := ⟨_, rfl⟩
          have HBs := Lib.hid (show Bk wr g 28 (sA st) by rw [hst]; exact HB.out.below hB HB.out.lt)
          have HTU := Lib.hid (show ∀ W, KOk W → Calls Tryd.prog 13 #[.agg (sA st), .agg (bv (endL (64 * k))).toArray] W fun e w' => e = .returned (.agg (sA F)) ∧ Below W.heap.size W w' from fun W h => by rw [hF]; exact turn_any st _ W hl64 h)
          have HSUM := Lib.hid (show outL F = sum xss.flatten by
            rw [hF, sum, pad_end, List.length_append, HFL.out, hl64, show (64 * k + 64) / 64 = k + 1 by omega, turns, turns_left _ _ _ _ (by rw [HFL.out]; omega), List.drop_left' HFL.out, List.take_of_length_le (by rw [hl64]; omega), hst])
          have HBB := Lib.hid (BB.out.trans (hB.mono BB.out.size))
          have HOs := Lib.hid (own_below HO.out hB)
          have HLS := Lib.hid hb
          have HLN := Lib.hid (show (bv (endL (64 * k))).toArray.size = 64 by simp [bv, hl64])
          clear hst hF hb hB hl64
          go_wp2_with (first
            | (refine wpList_load_row rfl 29 _ rfl wo.heap.size rfl 29 _ (0, 0) _ HLS.out Tryd.underlying29 rfl (by rw [HLN.out]; kernel_rfl) ?_)
            | (refine wpList_load_row rfl 28 _ rfl g rfl 28 (sA st) (0, 0) _ HBs.out Tryd.underlying28 rfl Tryd.info8 ?_)
            | (go_at_call 13; ((with_reducible refine (HTU.out _ (HK.out.below (Nat.le_refl _) HBB.out).k).mono ?_); rintro e w7 ⟨rfl, hb7⟩; have HB7 := Lib.hid (HBs.out.below hb7 HBs.out.lt); have HL7 := Lib.hid (HBB.out.trans (hb7.mono HBB.out.size)); have HO7 := Lib.hid (own_below HOs.out hb7); clear hb7))
            | (refine wpList_store_row rfl 28 _ _ rfl g (sA F) rfl rfl 28 (sA st) HB7.out Tryd.info8 rfl (sA_one _) ?_; obtain ⟨w8, hw8⟩ : ∃ w8, w8 = w7.setRow g (sA F) := ⟨_, rfl⟩; have HB8 := Lib.hid (show Bk w8 g 28 (sA F) by rw [hw8]; exact HB7.out.row _); have HL8 := Lib.hid (show Below w.heap.size w w8 by rw [hw8]; exact below_setRow HL7.out HG.out _); have HO8 := Lib.hid (show w8.ownsRow (g + 1) 5 1 (.slice A4 (64 * k) c4) (64 * k) (bv T) by rw [hw8]; exact own_only HO7.out (only_setRow w7 g _) (fun e => by have := (HO7.out.lt g e).1; omega)); rw [← hw8]; clear hw8))
          obtain ⟨wp, rfl⟩ : ∃ wp : World, wp = w8 := ⟨_, rfl⟩
          go_loopw [9, 10] (fun out i wr => ∃ j m : Nat, j ≤ 8 ∧ i = .int .i64 (j : Int) ∧ wr.ownsRow wp.heap.size 5 1 out m (bv (outs F.list j)) ∧ Below wp.heap.size wp wr) (fun _ i _ => 8 - (intOf i).toNat)
          case atStart => exact ⟨0, 0, by omega, rfl, ⟨by simp [outs, bv], .inl ⟨rfl, rfl⟩⟩, Below.refl _ _⟩
          case round =>
            obtain ⟨j, m, hj8, rfl, hown, hbel⟩ := hrel
            by_cases hlt8 : j < 8
            · obtain ⟨x, hx⟩ : ∃ x, x = F.list.getD j 0 := ⟨_, rfl⟩
              have hcx : wr.cell? ⟨g, j, none⟩ = some (.int .u32 (x.toNat : Int)) := by
                rw [(HB8.out.below hbel HB8.out.lt).cell, hx, ← sL_arr, sL_uv]; exact uA_get _ _ (by rw [list_length]; exact hlt8)
              have E := Lib.hid (outs_succ F.list j (by rw [list_length]; exact hlt8))
              rw [← hx] at E
              have hml : m ≤ 32 := by have := own_len hown; rw [outs_length _ _ (by rw [list_length]; omega)] at this; omega
              have hgl : g < wp.heap.size := HB8.out.lt
              have ji : (j : Int) < 8 := by omega
              have HO := Lib.hid hown
              have HL := Lib.hid hbel
              clear hx hown hbel
              go_wp2
              have HOd := fun o => own_below (HO.out.alloc o) ((Below.refl (wr.alloc o).heap.size (wr.alloc o)).drew)
              have HOD := Lib.hid HOd
              clear HOd
              have hcd : wr.drew.cell? ⟨g, j, none⟩ = some (.int .u32 (x.toNat : Int)) := hcx
              go_region_held3 (fun w' => w'.cell? ⟨g, j, none⟩ = some (.int .u32 (x.toNat : Int))) (first
                  | assumption
                  | (refine (World.cell?_alloc_lt _ _ _ (by have := HL.out.size; show g < _; simp; omega)).trans ?_; assumption)
                  | exact cell_ad hcx
                  | exact hcf
                  | fail) (first
                | (refine step_append_rd (by rfl) (.tmp 60) (.tmp 80) (by rfl) wp.heap.size _ m (outs F.list j) (by rfl) (HOD.out _) (some ⟨wr.heap.size, 0, none⟩) 4 4 (putL x.toNat 4) (by rfl) (rd4 _ x) (by omega) (by have := HL.out.size; simp; omega) ?_; intro v7 w7 o7 g7 at7; have O7 := Lib.hid o7; have GG := Lib.hid g7; have hcf : w7.cell? ⟨g, j, none⟩ = some (.int .u32 (x.toNat : Int)) := cell_far (HOD.out _) g7 hgl ((World.cell?_alloc_lt _ _ _ (by have := HL.out.size; show g < _; omega)).trans hcx); clear o7 g7 at7)
                | fail)
              go_wp2
              go_roundw
              case rel => exact ⟨j + 1, m + 4, by omega, by go_num, by rw [E.out]; exact O7.out, ((HL.out.alloc HL.out.size _).drew).grown GG.out (by have := HL.out.size; simp; omega) (fun k hk => ((HOD.out (.cells #[] 0)).lt k hk).1)⟩
              case measure => simp [intOf]; omega
            · obtain rfl : j = 8 := by omega
              rw [outs_all, HSUM.out] at hown
              obtain ⟨A9, c9, rfl⟩ := own_form hown
              have WR := Lib.hid (Rd.own hown)
              have TR := Lib.hid (show Rd wr A4 (64 * k) c4 xss.flatten by rw [← HTT.out]; exact (Rd.own HO8.out).below hbel)
              have BF := Lib.hid (HL8.out.trans (hbel.mono HL8.out.size))
              clear hown hbel
              have ji : ¬ (8 : Int) < 8 := by omega
              go_wp2_with (first
                | (go_at_call 11; ((with_reducible refine (one_any A4 (64 * k) c4 xss.flatten wr TR.out (HK.out.below (Nat.le_refl _) BF.out) (by omega)).mono ?_); intro e u1 h1; obtain ⟨A10, c10, rfl, r10, b10⟩ := new_len h1; have R10 := Lib.hid r10; have T10 := Lib.hid (TR.out.below b10); have W10 := Lib.hid (WR.out.below b10); have P10 := Lib.hid (BF.out.trans (b10.mono BF.out.size)); clear h1 r10 b10))
                | (go_at_call 10; ((with_reducible refine (rsame_true A10 A9 _ c10 _ c9 _ _ u1 R10.out W10.out rfl).mono ?_); rintro e u2 ⟨rfl, b2⟩; have T11 := Lib.hid (T10.out.below b2); have W11 := Lib.hid (W10.out.below b2); have P11 := Lib.hid (P10.out.trans (b2.mono P10.out.size)); clear b2))
                | (go_at_call 12; ((with_reducible refine (rone_any A4 (64 * k) c4 xss.flatten u2 T11.out (by omega)).mono ?_); intro e u3 h3; obtain ⟨A12, c12, rfl, r12, b12⟩ := new_len h3; have R12 := Lib.hid r12; have W12 := Lib.hid (W11.out.below b12); have P12 := Lib.hid (P11.out.trans (b12.mono P11.out.size)); clear h3 r12 b12))
                | (go_at_call 10; ((with_reducible refine (rsame_true A12 A9 _ c12 _ c9 _ _ u3 R12.out W12.out rfl).mono ?_); rintro e u4 ⟨rfl, b4⟩; have P13 := Lib.hid (P12.out.trans (b4.mono P12.out.size)); clear b4)))
              go_ret
              exact ⟨rfl, P13.out⟩
theorem sha2Blocks_frame (w : World) (hk : GOk w) (v : Value) (y : Option Addr × Nat × Nat × List (List UInt8)) (o : v = .slice y.1 y.2.1 y.2.2.1 ∧ RdA w y.1 y.2.1 y.2.2.1 y.2.2.2) :
    Calls Tryd.prog 6 #[v] w fun e w' => e = .returned (.bool true) ∧ Below w.heap.size w w' := by
  obtain ⟨A, n, c, xss⟩ := y
  obtain ⟨rfl, hr⟩ := o
  by_cases hn : n ≤ 10
  · exact sha2Blocks_walk w hk A n c xss hr hn
  · have HK := Lib.hid hk
    have hni : 10 < (n : Int) := by omega
    clear hk hr
    go_enter Tryd.func6, Tryd.ntmps6
    go_wp2_with (go_at_call 9; ((with_reducible refine (awake_true _ HK.out).mono ?_); rintro e w1 ⟨rfl, hb1⟩; have B1 := Lib.hid hb1; clear hb1))
    go_ret
    exact ⟨rfl, B1.out⟩
end Go.Proofs.YtfgpahenacgmdaaDoor.S2
