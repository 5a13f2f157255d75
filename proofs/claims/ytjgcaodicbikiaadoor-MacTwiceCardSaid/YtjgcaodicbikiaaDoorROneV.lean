/-
  What the document's own call of a whole text does.
-/
import Derived.Test.YtjgcaodicbikiaaDoorRTurnV
import Derived.Test.YtjgcaodicbikiaaDoorHash3V
import Derived.Test.YtjgcaodicbikiaaDoorStep
namespace Go.Proofs.YtjgcaodicbikiaaDoor.S5
set_option linter.unusedSimpArgs false
set_option linter.unusedVariables false
open Go.RowKit

/-- The text, the byte 128, and z bytes 0. -/
def txt (xs : List UInt8) (z : Nat) : List UInt8 := xs ++ 128 :: List.replicate z 0
theorem txt_next (xs : List UInt8) (z : Nat) : txt xs z ++ [0] = txt xs (z + 1) := by simp [txt, List.replicate_succ']
theorem txt_length (xs : List UInt8) (z : Nat) : (txt xs z).length = xs.length + 1 + z := by simp [txt]; omega
theorem own_empty (w : World) (B : Nat) (hB : B ≤ w.heap.size) : (w.alloc (.cells #[] 5)).ownsRow B 5 1 (.slice (some ⟨w.heap.size, 0, none⟩) 0 0) 0 (bv []) := own_lit_u8 w B [] hB (by simp [maxLen])
theorem run_cutSlLH {A : Option Addr} {n c l' m : Nat} {l h : Int} (hl : l = l') (hh : h = l' + m) (hk : l' + m ≤ c) (W : World) :
    (Instr.slice 22 (.slice A n c) (some (.int .i64 l)) (some (.int .i64 h)) none).run Tryd.prog W = .ok (.slice (if c = l' then A else A.map (·.add l')) m (c - l')) W := by
  have ee : Tryd.prog.elem 22 = 5 := by kernel_rfl
  have hs : (sizeOf 5).run Tryd.prog W = .ok 1 W := by kernel_rfl
  have e1 : h.toNat - l' = m := by omega
  have e2 : l.toNat = l' := by omega
  rw [run_slice_lh W 22 A n c (by rw [ee]; exact Tryd.underlying22) .i64 .i64 l h (by omega) (by omega) (by omega), ee, hs]
  simp only [Result.andThen, sliced, Nat.mul_one, e2, e1]
theorem run_cutSlLHAt {A : Option Addr} {n c l' m : Nat} {l h : Int} (hl : l = l') (hh : h = l' + m) (hk : l' + m ≤ c) (W : World) :
    (Instr.sliceAt 22 (.slice A n c) (some (.int .i64 l)) (some (.int .i64 h)) none).run Tryd.prog W = .ok (.slice (if c = l' then A else A.map (·.add l')) m (c - l')) W := by
  have ee : Tryd.prog.elem 22 = 5 := by kernel_rfl
  rw [run_sliceAt_slice W 22 _ _ _ _ (by rw [ee]; exact Tryd.underlying22)]
  exact run_cutSlLH hl hh hk W
theorem u8_wrap (v : Int) (n : Nat) (h : v = (n : Int)) : IntKind.u8.wrap v = ((UInt8.ofNat n).toNat : Int) := by
  rw [IntKind.wrap_u8', h]; simp
theorem cell_ad {w : World} {o : Obj} {p : Addr} {v : Value} (h : w.cell? p = some v) : (w.alloc o).drew.cell? p = some v := (World.cell?_alloc_lt w o p (World.block_lt_of_cell? w _ h)).trans h
theorem cell_far {w w' : World} {v : Value} {B e size n : Nat} {xs : List Value} {g j : Nat} {u : Value} (ho : w.ownsRow B e size v n xs) (hg : w.grownBy w' v.ownBlock) (hlt : g < B) (hc : w.cell? ⟨g, j, none⟩ = some u) : w'.cell? ⟨g, j, none⟩ = some u :=
  (World.cell?_of_block (hg.block g (World.block_lt_of_cell? w _ hc) (fun e => by have := (ho.lt g e.symm).1; omega))).trans hc
theorem putL_get (V : Nat) : ∀ (n j : Nat), j < n → (putL V n)[j]? = some (UInt8.ofNat (V / 256 ^ (n - 1 - j)))
  | 0, j, h => by omega
  | n + 1, 0, h => by simp [putL]
  | n + 1, j + 1, h => by
    rw [putL, List.getElem?_cons_succ, putL_get V n j (by omega)]
    congr 4
    omega
theorem putL_take (V j : Nat) (h : j < 8) : (putL V 8).take (j + 1) = (putL V 8).take j ++ [UInt8.ofNat (V / 256 ^ (7 - j))] := by
  have h1 : j < (putL V 8).length := by rw [putL_length]; exact h
  rw [List.take_succ_eq_append_getElem h1]
  have := putL_get V 8 j h
  rw [List.getElem?_eq_getElem h1] at this
  injection this with this
  rw [this]
theorem byte_at (n j : Nat) (h : j < 8) : (n : Int) * 8 / 2 ^ (8 * (7 - j)) % 256 = ((UInt8.ofNat (8 * n / 256 ^ (7 - j))).toNat : Int) := by
  have e : (2 : Int) ^ (8 * (7 - j)) = ((256 ^ (7 - j) : Nat) : Int) := by rw [Int.pow_mul]; simp
  rw [e]
  have : (n : Int) * 8 = ((8 * n : Nat) : Int) := by omega
  rw [this]
  simp
theorem byte_of (x j : Nat) (h : j < 8) : (x : Int) / 2 ^ (8 * (7 - j)) % 256 = ((UInt8.ofNat (x / 256 ^ (7 - j))).toNat : Int) := by
  have e : (2 : Int) ^ (8 * (7 - j)) = ((256 ^ (7 - j) : Nat) : Int) := by rw [Int.pow_mul]; simp
  rw [e]
  simp
theorem txt_pad (xs : List UInt8) : txt xs (127 - (xs.length + 16) % 128 + 8) ++ putL (8 * xs.length) 8 = pad xs := by
  rw [txt, pad, ← List.replicate_append_replicate]
  simp
set_option maxRecDepth 100000 in
set_option maxHeartbeats 1000000 in
theorem rone_any (A : Option Addr) (n c : Nat) (xs : List UInt8) (w : World) (hr : Rd w A n c xs) (hm : n ≤ 268435456) :
    Calls Tryd.prog 22 #[.slice A n c] w (New w.heap.size w (sum xs)) := by
  have HOE := Lib.hid (own_empty w w.heap.size (Nat.le_refl _))
  have HR := Lib.hid hr
  clear hr
  go_enter Tryd.func22, Tryd.ntmps22
  go_wp2_with (first
    | (at_builtin; refine append_rd rfl (.tmp 12) (.tmp 13) rfl w.heap.size _ 0 [] rfl HOE.out A n c xs rfl (HR.out.alloc _) (by omega) (by simp) ?_; intro v1 w1 hown1 hg1; have hw1 := hg1.size)
    | (at_builtin; refine append_rd rfl (.tmp 14) (.tmp 15) rfl w.heap.size v1 (0 + n) ([] ++ xs) rfl (hown1.alloc _) (some ⟨w1.heap.size, 0, none⟩) 1 1 [128] rfl (rd_lit w1 _ [128] rfl (by simp [maxLen]) _ rfl) (by omega) (by simp at hw1 ⊢; omega) ?_; intro v2 w2 hown2 hg2))
  have hB2 : Below w.heap.size w w2 := by
    have b1 := ((Below.refl w.heap.size w).alloc (Nat.le_refl _) (.cells #[] 5)).grown hg1 (by simp) (fun k hk => (HOE.out.lt k hk).1)
    exact (b1.alloc b1.size _).grown hg2 (by have := b1.size; simp; omega) (fun k hk => (hown1.lt k hk).1)
  have hown2 : w2.ownsRow w.heap.size 5 1 v2 (n + 1 + 0) (bv (txt xs 0)) := by simpa [txt] using hown2
  have hl := HR.out.len
  obtain ⟨zz, hzz⟩ : ∃ zz, zz = 127 - (n + 16) % 128 := ⟨_, rfl⟩
  have HZ := Lib.hid hzz
  have HN := Lib.hid hl
  have hz64 : zz < 128 := by omega
  clear hzz hl hg1 hg2 hown1 hw1
  go_loopw [3] (fun v wr => ∃ z : Nat, z ≤ zz ∧ wr.ownsRow w.heap.size 5 1 v (n + 1 + z) (bv (txt xs z)) ∧ Below w.heap.size w wr) (fun v _ => 2147483648 + 200 - lenOf v)
  case atStart => exact ⟨0, by omega, hown2, hB2⟩
  case round =>
    obtain ⟨z, hz, hown, hbel⟩ := hrel
    obtain ⟨A', c', rfl⟩ := own_form hown
    have hsz := hbel.size
    by_cases hlt : z < zz
    · have ht : (((n : Int) + 1 + (z : Int)) % 128 != 112) = true := by
        have := HZ.out
        simp only [bne_iff_ne, ne_eq]; omega
      have E := Lib.hid (txt_next xs z)
      go_wp2_with (at_builtin; go_loud (refine append_rd rfl (.tmp 21) (.tmp 22) rfl w.heap.size (.slice A' (n + 1 + z) c') (n + 1 + z) (txt xs z) rfl (hown.alloc _) (some ⟨wr.heap.size, 0, none⟩) 1 1 [0] rfl (rd_lit wr _ [0] rfl (by simp [maxLen]) _ rfl) (by omega) (by simp; omega) ?_); intro v3 w3 hown3 hg3)
      go_roundw
      case rel => exact ⟨z + 1, by omega, by rw [← E.out]; exact hown3, (hbel.alloc hsz _).grown hg3 (by simp; omega) (fun k hk => (hown.lt k hk).1)⟩
      case measure =>
        obtain ⟨A3, c3, rfl⟩ := own_form hown3
        simp [lenOf]; omega
    · have ht : (((n : Int) + 1 + (z : Int)) % 128 != 112) = false := by
        have := HZ.out
        simp only [bne_eq_false_iff_eq]; omega
      obtain rfl : z = zz := by omega
      go_wp2
      clear hlt ht hz
      go_loopw [3, 4] (fun v i wr => ∃ y : Nat, y ≤ 8 ∧ i = .int .i64 (y : Int) ∧ wr.ownsRow w.heap.size 5 1 v (n + 1 + (z + y)) (bv (txt xs (z + y))) ∧ Below w.heap.size w wr) (fun _ i _ => 8 - (intOf i).toNat)
      case atStart => exact ⟨0, by omega, rfl, hown, hbel⟩
      case round =>
       obtain ⟨y, hy, rfl, hown, hbel⟩ := hrel
       obtain ⟨A', c', rfl⟩ := own_form hown
       have hsz := hbel.size
       by_cases hlt : y < 8
       · have E := Lib.hid (txt_next xs (z + y))
         have yi : (y : Int) < 8 := by omega
         go_wp2_with (at_builtin; go_loud (refine append_rd rfl (.tmp 28) (.tmp 29) rfl w.heap.size (.slice A' (n + 1 + (z + y)) c') (n + 1 + (z + y)) (txt xs (z + y)) rfl (hown.alloc _) (some ⟨wr.heap.size, 0, none⟩) 1 1 [0] rfl (rd_lit wr _ [0] rfl (by simp [maxLen]) _ rfl) (by omega) (by simp; omega) ?_); intro v3 w3 hown3 hg3)
         go_roundw
         case rel => exact ⟨y + 1, by omega, by go_num, by rw [E.out] at hown3; exact hown3, (hbel.alloc hsz _).grown hg3 (by simp; omega) (fun k hk => (hown.lt k hk).1)⟩
         case measure => simp [intOf]; omega
       · obtain ⟨z8, hz8⟩ : ∃ z8, z8 = z + y := ⟨_, rfl⟩
         have hy8 : y = 8 := by omega
         rw [← hz8] at hown
         have HZ8 := Lib.hid (show z8 = z + 8 by omega)
         have yi : ¬ (y : Int) < 8 := by omega
         have z136 : z8 ≤ 136 := by omega
         rw [← hz8]
         clear hz8
         go_wp2
         clear hlt yi hy hy8
         go_loopw [3, 6] (fun v i wr => ∃ j : Nat, j ≤ 8 ∧ i = .int .i64 (7 - (j : Int)) ∧ wr.ownsRow w.heap.size 5 1 v (n + 1 + z8 + j) (bv (txt xs z8 ++ (putL (8 * n) 8).take j)) ∧ Below w.heap.size w wr) (fun _ i _ => (intOf i + 1).toNat)
         case atStart => exact ⟨0, by omega, rfl, by simpa using hown, hbel⟩
         case round =>
          obtain ⟨j, hj, rfl, hown, hbel⟩ := hrel
          obtain ⟨A', c', rfl⟩ := own_form hown
          have hsz := hbel.size
          by_cases hlt : j < 8
          · have j0 : (0 : Int) ≤ 7 - (j : Int) := by omega
            have j1 : (j : Int) ≤ 7 := by omega
            obtain ⟨bt, hbt⟩ : ∃ bt, bt = UInt8.ofNat (8 * n / 256 ^ (7 - j)) := ⟨_, rfl⟩
            have hbv := byte_at n j hlt
            have hnx := putL_take (8 * n) j hlt
            rw [← hbt] at hbv hnx
            have E := Lib.hid (show txt xs z8 ++ (putL (8 * n) 8).take (j + 1) = (txt xs z8 ++ (putL (8 * n) 8).take j) ++ [bt] by rw [hnx, List.append_assoc])
            have HBV := Lib.hid hbv
            have RL := Lib.hid (show ∀ W : World, Rd (W.alloc (.cells #[.int .u8 ((n : Int) * 8 / 2 ^ (8 * (7 - j)) % 256)] 5)) (some ⟨W.heap.size, 0, none⟩) 1 1 [bt] from fun W => rd_lit W _ [bt] (by rw [hbv]; rfl) (by simp [maxLen]) _ rfl)
            clear hbv hbt hnx
            go_wp2_with (at_builtin; refine append_rd rfl (.tmp 39) (.tmp 46) rfl w.heap.size (.slice A' (n + 1 + z8 + j) c') (n + 1 + z8 + j) (txt xs z8 ++ (putL (8 * n) 8).take j) rfl (hown.alloc _) (some ⟨wr.heap.size, 0, none⟩) 1 1 [bt] rfl (RL.out wr) (by omega) (by simp; omega) ?_; intro v3 w3 hown3 hg3)
            go_roundw
            case rel => exact ⟨j + 1, by omega, by show Value.int .i64 _ = Value.int .i64 _; congr 1; omega, by rw [E.out]; exact hown3, (hbel.alloc hsz _).grown hg3 (by simp; omega) (fun k hk => (hown.lt k hk).1)⟩
            case measure => simp [intOf]; omega
          · have J8 := Lib.hid (show j = 8 by omega)
            obtain ⟨P, hP⟩ : ∃ P, P = pad xs := ⟨_, rfl⟩
            have hown : wr.ownsRow w.heap.size 5 1 (.slice A' (n + 1 + z8 + j) c') (n + 1 + z8 + j) (bv P) := by
              have e : txt xs z8 ++ (putL (8 * n) 8).take j = P := by
                rw [hP, J8.out, List.take_of_length_le (by rw [putL_length]; omega), HZ8.out, HZ.out, ← HN.out, txt_pad]
              rw [← e]; exact hown
            obtain ⟨K, hK⟩ : ∃ K, n + 1 + z8 + j = 128 * K := ⟨(n + 1 + z8 + j) / 128, by have := HZ.out; have := J8.out; have := HZ8.out; omega⟩
            rw [hK] at hown
            have RT := Lib.hid (Rd.own hown)
            have KL := Lib.hid (show P.length = 128 * K from own_len hown)
            have BW := Lib.hid hbel
            have K1 : K ≤ 134217728 := by omega
            have K2 : 1 ≤ K := by omega
            have j0 : ¬ (0 : Int) ≤ 7 - (j : Int) := by have := J8.out; omega
            have j0' : ¬ (j : Int) ≤ 7 := by have := J8.out; omega
            rw [hK]
            have HPP := Lib.hid hP
            clear hK hP hown hbel hsz hlt
            go_wp2_with (fail)
            obtain ⟨wo, rfl⟩ : ∃ wo : World, wo = wr := ⟨_, rfl⟩
            go_loopw [8] (fun i w6 => ∃ k : Nat, k ≤ K ∧ i = .int .i64 (128 * (k : Int)) ∧ Bk w6 wo.heap.size 55 (sA (turns hH P k)) ∧ Below wo.heap.size wo w6) (fun i _ => (128 * (K : Int) - intOf i).toNat)
            case atStart => exact ⟨0, by omega, rfl, Bk.newAt wo 55 (sA hH) _ rfl, (Below.refl _ _).alloc (Nat.le_refl _) _⟩
            case round =>
              obtain ⟨k, hkK, rfl, hb, hB⟩ := hrel
              by_cases hlt : k < K
              · obtain ⟨st, hst⟩ : ∃ st, st = turns hH P k := ⟨_, rfl⟩
                rw [← hst] at hb
                obtain ⟨ck, hck⟩ : ∃ ck, ck = (P.drop (128 * k)).take 128 := ⟨_, rfl⟩
                have hnx : turns hH P (k + 1) = turn st ck := by rw [turns, hst, hck]
                obtain ⟨s2, hs2⟩ : ∃ s2, s2 = turn st ck := ⟨_, rfl⟩
                rw [← hs2] at hnx
                have HN2 := Lib.hid hnx
                have HTU := Lib.hid (show ∀ W A c, Rd W A 128 c ck → Calls Tryd.prog 34 #[.agg (sA st), .slice A 128 c] W fun e w' => e = .returned (.agg (sA s2)) ∧ Below W.heap.size W w' from fun W A c h => by rw [hs2]; exact rturn_any st A c ck W h)
                clear hs2
                have rt := (RT.out.below hB).cut (k := 128 * k) (by omega)
                have rt := rt.take (k := 128) (by omega)
                rw [← hck] at rt
                have hcs := fun W => run_cutSlLH (A := A') (n := 128 * K) (c := c') (l' := 128 * k) (m := 128) (l := 128 * (k : Int)) (h := 128 * (k : Int) + 128) (by omega) (by omega) (by have := (RT.out).cap; omega) W
                have hcs' := fun W => run_cutSlLHAt (A := A') (n := 128 * K) (c := c') (l' := 128 * k) (m := 128) (l := 128 * (k : Int)) (h := 128 * (k : Int) + 128) (by omega) (by omega) (by have := (RT.out).cap; omega) W
                obtain ⟨A2, hA2⟩ : ∃ A2, A2 = (if c' = 128 * k then A' else A'.map (·.add (128 * k))) := ⟨_, rfl⟩
                rw [← hA2] at rt hcs hcs'
                have hw1 : IntKind.i64.wrap (128 * (k : Int) + 128) = 128 * (k : Int) + 128 := by rw [IntKind.wrap_i64]; omega
                have RTK := Lib.hid rt
                have hlt' : (k : Int) < (K : Int) := by omega
                have hlt2 : 128 * (k : Int) < 128 * (K : Int) := by omega
                clear hA2 hck hst hnx rt
                go_wp2
                refine still_tail 6 (by kernel_rfl) (by kernel_rfl) ?_
                intro wd hwd
                have hb : Bk wd wo.heap.size 55 (sA st) := by rw [hwd]; exact hb.drew
                have hB : Below wo.heap.size wo wd := by rw [hwd]; exact hB.drew
                have hrt : Rd wd A2 128 (c' - 128 * k) ck := by rw [hwd]; exact RTK.out.drew
                have c0 : wd.cell? ⟨wo.heap.size, 0, none⟩ = some (.int .u64 (st.a.toNat : Int)) := hb.cell 0
                have c1 : wd.cell? ⟨wo.heap.size, 1, none⟩ = some (.int .u64 (st.b.toNat : Int)) := hb.cell 1
                have c2 : wd.cell? ⟨wo.heap.size, 2, none⟩ = some (.int .u64 (st.c.toNat : Int)) := hb.cell 2
                have c3 : wd.cell? ⟨wo.heap.size, 3, none⟩ = some (.int .u64 (st.d.toNat : Int)) := hb.cell 3
                have c4 : wd.cell? ⟨wo.heap.size, 4, none⟩ = some (.int .u64 (st.e.toNat : Int)) := hb.cell 4
                have c5 : wd.cell? ⟨wo.heap.size, 5, none⟩ = some (.int .u64 (st.f.toNat : Int)) := hb.cell 5
                have c6 : wd.cell? ⟨wo.heap.size, 6, none⟩ = some (.int .u64 (st.g.toNat : Int)) := hb.cell 6
                have c7 : wd.cell? ⟨wo.heap.size, 7, none⟩ = some (.int .u64 (st.h.toNat : Int)) := hb.cell 7
                have HBB := Lib.hid hb
                have HRT := Lib.hid hrt
                clear hwd hb hrt
                simp only [List.take_succ_cons, List.take_zero, List.drop_succ_cons, List.drop_zero]
                repeat still_step
                refine wpStill_nil ?_
                clear c0 c1 c2 c3 c4 c5 c6 c7
                go_wp2_with (first
                  | (go_at_call 34; ((with_reducible refine (HTU.out _ A2 (c' - 128 * k) HRT.out).mono ?_); rintro e w7 ⟨rfl, hb7⟩; have HB7 := Lib.hid (HBB.out.below hb7 HBB.out.lt); have HL7 := Lib.hid (hB.trans (hb7.mono hB.size)); clear hb7))
                  | (refine wpList_store_row rfl 55 _ _ rfl wo.heap.size (sA s2) rfl rfl 55 (sA st) HB7.out Tryd.info8 rfl (sA_one _) ?_))
                clear hw1 hcs hcs'
                go_roundw
                case rel => exact ⟨k + 1, by omega, by show Value.int .i64 _ = Value.int .i64 _; congr 1, by rw [HN2.out]; exact HB7.out.row _, below_setRow HL7.out (Nat.le_refl _) _⟩
                case measure => simp [intOf]; omega
              · obtain rfl : k = K := by omega
                obtain ⟨F, hF⟩ : ∃ F, F = turns hH P k := ⟨_, rfl⟩
                have HS := Lib.hid (show outL F = sum xs by rw [hF, sum, ← HPP.out, KL.out, Nat.mul_div_cancel_left k (show 0 < 128 from by decide)])
                rw [← hF] at hb
                clear hF
                have hlt2 : ¬ 128 * (k : Int) < 128 * (k : Int) := by omega
                go_wp2_with (fail)
                obtain ⟨wp, rfl⟩ : ∃ wp : World, wp = wr := ⟨_, rfl⟩
                have HBP := Lib.hid hb
                have HW := Lib.hid (BW.out.trans (hB.mono BW.out.size))
                clear hb hB hlt
                go_loopw [9, 10, 11] (fun out i _ wr => ∃ j : Nat, j ≤ 8 ∧ i = .int .i64 (j : Int) ∧ wr.ownsRow wp.heap.size 5 1 out (8 * j) (bv (outs F.list j)) ∧ Below wp.heap.size wp wr) (fun _ i _ _ => 8 - (intOf i).toNat)
                case atStart => exact ⟨0, by omega, rfl, ⟨by simp [outs, bv], .inl ⟨rfl, rfl⟩⟩, Below.refl _ _⟩
                case round =>
                  obtain ⟨j, hj8, rfl, hown, hbel⟩ := hrel
                  by_cases hlt8 : j < 8
                  · obtain ⟨x, hx⟩ : ∃ x, x = F.list.getD j 0 := ⟨_, rfl⟩
                    have E := Lib.hid (outs_succ F.list j (by rw [list_length]; exact hlt8))
                    rw [← hx] at E
                    have hgl : wo.heap.size < wp.heap.size := HBP.out.lt
                    have ji : (j : Int) < 8 := by omega
                    have hcs := fun (w' : World) (hb : Below wp.heap.size wp w') => (show w'.cell? ⟨wo.heap.size, j, none⟩ = some (.int .u64 (x.toNat : Int)) by
                      rw [(HBP.out.below hb HBP.out.lt).cell, hx, ← sL_arr, sL_uv]; exact uA_get _ _ (by rw [list_length]; exact hlt8))
                    have HCS := Lib.hid hcs
                    clear hx hcs
                    go_wp2
                    go_loopw [9, 11] (fun out i wr => ∃ q : Nat, q ≤ 8 ∧ i = .int .i64 (7 - (q : Int)) ∧ wr.ownsRow wp.heap.size 5 1 out (8 * j + q) (bv (outs F.list j ++ (putL x.toNat 8).take q)) ∧ Below wp.heap.size wp wr) (fun _ i _ => (intOf i + 1).toNat)
                    case atStart => exact ⟨0, by omega, rfl, by simpa using hown, hbel⟩
                    case round =>
                      obtain ⟨q, hq, rfl, hown, hbel⟩ := hrel
                      obtain ⟨A3, c3, rfl⟩ := own_form hown
                      have hsz := hbel.size
                      by_cases hlt : q < 8
                      · have j0 : (0 : Int) ≤ 7 - (q : Int) := by omega
                        have j1 : (q : Int) ≤ 7 := by omega
                        have hcx := HCS.out wr hbel
                        obtain ⟨bt, hbt⟩ : ∃ bt, bt = UInt8.ofNat (x.toNat / 256 ^ (7 - q)) := ⟨_, rfl⟩
                        have hbv := byte_of x.toNat q hlt
                        have hnx := putL_take x.toNat q hlt
                        rw [← hbt] at hbv hnx
                        have E := Lib.hid (show outs F.list j ++ (putL x.toNat 8).take (q + 1) = (outs F.list j ++ (putL x.toNat 8).take q) ++ [bt] by rw [hnx, List.append_assoc])
                        have RL := Lib.hid (show ∀ W : World, Rd (W.alloc (.cells #[.int .u8 ((x.toNat : Int) / 2 ^ (8 * (7 - q)) % 256)] 5)) (some ⟨W.heap.size, 0, none⟩) 1 1 [bt] from fun W => rd_lit W _ [bt] (by rw [hbv]; rfl) (by simp [maxLen]) _ rfl)
                        clear hbv hbt hnx
                        go_wp2_with (at_builtin; refine append_rd rfl (.tmp 70) (.tmp 79) rfl wp.heap.size (.slice A3 (8 * j + q) c3) (8 * j + q) (outs F.list j ++ (putL x.toNat 8).take q) rfl (hown.alloc _) (some ⟨wr.heap.size, 0, none⟩) 1 1 [bt] rfl (RL.out wr) (by omega) (by simp; omega) ?_; intro v3 w3 hown3 hg3)
                        go_roundw
                        case rel => exact ⟨q + 1, by omega, by show Value.int .i64 _ = Value.int .i64 _; congr 1; omega, by rw [E.out]; exact hown3, (hbel.alloc hsz _).grown hg3 (by simp; omega) (fun k hk => (hown.lt k hk).1)⟩
                        case measure => simp [intOf]; omega
                      · have q8 : q = 8 := by omega
                        have hown : wr.ownsRow wp.heap.size 5 1 (.slice A3 (8 * j + q) c3) (8 * (j + 1)) (bv (outs F.list (j + 1))) := by
                          have e : outs F.list j ++ (putL x.toNat 8).take q = outs F.list (j + 1) := by
                            rw [q8, List.take_of_length_le (by rw [putL_length]; omega), E.out]
                          rw [← e, show 8 * (j + 1) = 8 * j + q by omega]; exact hown
                        have j0 : ¬ (0 : Int) ≤ 7 - (q : Int) := by omega
                        have j0' : ¬ (q : Int) ≤ 7 := by omega
                        clear q8
                        go_wp2
                        go_roundw
                        case rel => exact ⟨j + 1, by omega, by go_num, hown, hbel⟩
                        case measure => simp [intOf]; omega
                  · obtain rfl : j = 8 := by omega
                    rw [outs_all, HS.out] at hown
                    obtain ⟨A3, c3, rfl⟩ := own_form hown
                    have ji : ¬ ((8 : Nat) : Int) < 8 := by omega
                    go_wp2
                    go_ret
                    exact New.mk (own_base hown HW.out.size) (HW.out.trans (hbel.mono HW.out.size))
end Go.Proofs.YtjgcaodicbikiaaDoor.S5
