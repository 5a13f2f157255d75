/-
  Texts put together: ROne, Tool, Cat. No statement is proved here.
-/
import Derived.Test.YtkpfppiedadmbaaGreatDoorWo06
import Derived.Test.YtkpfppiedadmbaaGreatDoorWo08
import Derived.Lib.SlBytesConst
import Derived.Test.YtkpfppiedadmbaaGreatDoorWo02

/-
  What the document's own call of a whole text does.
-/
namespace Go.Proofs.YtkpfppiedadmbaaGreatDoor.S2
set_option linter.unusedSimpArgs false
set_option linter.unusedVariables false
set_option maxRecDepth 1024
open Go.RowKit

/-- The text, the byte 128, and z bytes 0. -/
def txt (xs : List UInt8) (z : Nat) : List UInt8 := xs ++ 128 :: List.replicate z 0
theorem txt_next (xs : List UInt8) (z : Nat) : txt xs z ++ [0] = txt xs (z + 1) := by simp [txt, List.replicate_succ']
theorem txt_length (xs : List UInt8) (z : Nat) : (txt xs z).length = xs.length + 1 + z := by simp [txt]; omega
theorem own_empty (w : World) (B : Nat) (hB : B ≤ w.heap.size) : (w.alloc (.cells #[] 5)).ownsRow B 5 1 (.slice (some ⟨w.heap.size, 0, none⟩) 0 0) 0 (bv []) := own_lit_u8 w B [] hB (by simp [maxLen])
theorem run_cutSlLH {A : Option Addr} {n c l' m : Nat} {l h : Int} (hl : l = l') (hh : h = l' + m) (hk : l' + m ≤ c) (W : World) :
    (Instr.slice 24 (.slice A n c) (some (.int .i64 l)) (some (.int .i64 h)) none).run Tryz.prog W = .ok (.slice (if c = l' then A else A.map (·.add l')) m (c - l')) W := by
  have ee : Tryz.prog.elem 24 = 5 := by kernel_rfl
  have hs : (sizeOf 5).run Tryz.prog W = .ok 1 W := by kernel_rfl
  have e1 : h.toNat - l' = m := by omega
  have e2 : l.toNat = l' := by omega
  rw [run_slice_lh W 24 A n c (by rw [ee]; exact Tryz.underlying24) .i64 .i64 l h (by omega) (by omega) (by omega), ee, hs]
  simp only [Result.andThen, sliced, Nat.mul_one, e2, e1]
theorem run_cutSlLHAt {A : Option Addr} {n c l' m : Nat} {l h : Int} (hl : l = l') (hh : h = l' + m) (hk : l' + m ≤ c) (W : World) :
    (Instr.sliceAt 24 (.slice A n c) (some (.int .i64 l)) (some (.int .i64 h)) none).run Tryz.prog W = .ok (.slice (if c = l' then A else A.map (·.add l')) m (c - l')) W := by
  have ee : Tryz.prog.elem 24 = 5 := by kernel_rfl
  rw [run_sliceAt_slice W 24 _ _ _ _ (by rw [ee]; exact Tryz.underlying24)]
  exact run_cutSlLH hl hh hk W
theorem u8_wrap (v : Int) (n : Nat) (h : v = (n : Int)) : IntKind.u8.wrap v = ((UInt8.ofNat n).toNat : Int) := by
  rw [IntKind.wrap_u8', h]; simp
theorem rd4 (W : World) (x : UInt32) : Rd (W.alloc (.cells #[.int .u8 (IntKind.u8.wrap ((x.toNat : Int) / 16777216)), .int .u8 (IntKind.u8.wrap ((x.toNat : Int) / 65536)), .int .u8 (IntKind.u8.wrap ((x.toNat : Int) / 256)), .int .u8 (IntKind.u8.wrap (x.toNat : Int))] 5)).drew (some ⟨W.heap.size, 0, none⟩) 4 4 (putL x.toNat 4) :=
  (rd_lit W _ (putL x.toNat 4) (by
    simp only [putL, bv, List.map_cons, List.map_nil]
    rw [u8_wrap ((x.toNat : Int) / 16777216) (x.toNat / 256 ^ 3) (by simp), u8_wrap ((x.toNat : Int) / 65536) (x.toNat / 256 ^ 2) (by simp), u8_wrap ((x.toNat : Int) / 256) (x.toNat / 256 ^ 1) (by simp), u8_wrap (x.toNat : Int) (x.toNat / 256 ^ 0) (by simp)]) (by simp [maxLen, putL_length]) _ rfl).drew
theorem own_base {w : World} {B B' e size n : Nat} {v : Value} {xs : List Value} (h : w.ownsRow B e size v n xs) (hB : B' ≤ B) : w.ownsRow B' e size v n xs := by
  refine ⟨h.1, ?_⟩
  rcases h.2 with h | ⟨g, cap, cur, h1, h2, h3⟩
  · exact .inl h
  · exact .inr ⟨g, cap, cur, h1, Nat.le_trans hB h2, h3⟩
theorem cell_ad {w : World} {o : Obj} {p : Addr} {v : Value} (h : w.cell? p = some v) : (w.alloc o).drew.cell? p = some v := (World.cell?_alloc_lt w o p (World.block_lt_of_cell? w _ h)).trans h
theorem cell_far {w w' : World} {v : Value} {B e size n : Nat} {xs : List Value} {g j : Nat} {u : Value} (ho : w.ownsRow B e size v n xs) (hg : w.grownBy w' v.ownBlock) (hlt : g < B) (hc : w.cell? ⟨g, j, none⟩ = some u) : w'.cell? ⟨g, j, none⟩ = some u :=
  (World.cell?_of_block (hg.block g (World.block_lt_of_cell? w _ hc) (fun e => by have := (ho.lt g e.symm).1; omega))).trans hc
theorem putL_get (V : Nat) : ∀ (n j : Nat), j < n → (putL V n)[j]? = some (UInt8.ofNat (V / 256 ^ (n - 1 - j)))
  | 0, j, h => by omega
  | n + 1, 0, h => by simp [putL]
  | n + 1, j + 1, h => by
    rw [putL, List.getElem?_cons_succ, putL_get V n j (by omega)]
    congr 4
    omega
theorem putL_take (V j : Nat) (h : j < 8) : (putL V 8).take (j + 1) = (putL V 8).take j ++ [UInt8.ofNat (V / 256 ^ (7 - j))] := by
  have h1 : j < (putL V 8).length := by rw [putL_length]; exact h
  rw [List.take_succ_eq_append_getElem h1]
  have := putL_get V 8 j h
  rw [List.getElem?_eq_getElem h1] at this
  injection this with this
  rw [this]
theorem byte_at (n j : Nat) (h : j < 8) : (n : Int) * 8 / 2 ^ (8 * (7 - j)) % 256 = ((UInt8.ofNat (8 * n / 256 ^ (7 - j))).toNat : Int) := by
  have e : (2 : Int) ^ (8 * (7 - j)) = ((256 ^ (7 - j) : Nat) : Int) := by rw [Int.pow_mul]; simp
  rw [e]
  have : (n : Int) * 8 = ((8 * n : Nat) : Int) := by omega
  rw [this]
  simp
set_option maxRecDepth 100000 in
set_option maxHeartbeats 1000000 in
theorem rone_any (A : Option Addr) (n c : Nat) (xs : List UInt8) (w : World) (hr : Rd w A n c xs) (hm : n ≤ 2147483648) :
    Calls Tryz.prog 66 #[.slice A n c] w (New w.heap.size w (sum xs)) := by
  have HOE := Lib.hid (own_empty w w.heap.size (Nat.le_refl _))
  have HR := Lib.hid hr
  clear hr
  go_enter Tryz.func66, Tryz.ntmps66
  go_wp2_with (first
    | (at_builtin; refine append_rd rfl (.tmp 10) (.tmp 11) rfl w.heap.size _ 0 [] rfl HOE.out A n c xs rfl (HR.out.alloc _) (by omega) (by simp) ?_; intro v1 w1 hown1 hg1; have hw1 := hg1.size)
    | (at_builtin; refine append_rd rfl (.tmp 12) (.tmp 13) rfl w.heap.size v1 (0 + n) ([] ++ xs) rfl (hown1.alloc _) (some ⟨w1.heap.size, 0, none⟩) 1 1 [128] rfl (rd_lit w1 _ [128] rfl (by simp [maxLen]) _ rfl) (by omega) (by simp at hw1 ⊢; omega) ?_; intro v2 w2 hown2 hg2))
  have hB2 : Below w.heap.size w w2 := by
    have b1 := ((Below.refl w.heap.size w).alloc (Nat.le_refl _) (.cells #[] 5)).grown hg1 (by simp) (fun k hk => (HOE.out.lt k hk).1)
    exact (b1.alloc b1.size _).grown hg2 (by have := b1.size; simp; omega) (fun k hk => (hown1.lt k hk).1)
  have hown2 : w2.ownsRow w.heap.size 5 1 v2 (n + 1 + 0) (bv (txt xs 0)) := by simpa [txt] using hown2
  have hl := HR.out.len
  obtain ⟨zz, hzz⟩ : ∃ zz, zz = 63 - (n + 8) % 64 := ⟨_, rfl⟩
  have HZ := Lib.hid hzz
  have HN := Lib.hid hl
  have hz64 : zz < 64 := by omega
  clear hzz hl hg1 hg2 hown1 hw1
  go_loopw [3] (fun v wr => ∃ z : Nat, z ≤ zz ∧ wr.ownsRow w.heap.size 5 1 v (n + 1 + z) (bv (txt xs z)) ∧ Below w.heap.size w wr) (fun v _ => 2147483648 + 200 - lenOf v)
  case atStart => exact ⟨0, by omega, hown2, hB2⟩
  case round =>
    obtain ⟨z, hz, hown, hbel⟩ := hrel
    obtain ⟨A', c', rfl⟩ := own_form hown
    have hsz := hbel.size
    by_cases hlt : z < zz
    · have ht : (((n : Int) + 1 + (z : Int)) % 64 != 56) = true := by
        have := HZ.out
        simp only [bne_iff_ne, ne_eq]; omega
      have E := Lib.hid (txt_next xs z)
      go_wp2_with (at_builtin; go_loud (refine append_rd rfl (.tmp 19) (.tmp 20) rfl w.heap.size (.slice A' (n + 1 + z) c') (n + 1 + z) (txt xs z) rfl (hown.alloc _) (some ⟨wr.heap.size, 0, none⟩) 1 1 [0] rfl (rd_lit wr _ [0] rfl (by simp [maxLen]) _ rfl) (by omega) (by simp; omega) ?_); intro v3 w3 hown3 hg3)
      go_roundw
      case rel => exact ⟨z + 1, by omega, by rw [← E.out]; exact hown3, (hbel.alloc hsz _).grown hg3 (by simp; omega) (fun k hk => (hown.lt k hk).1)⟩
      case measure =>
        obtain ⟨A3, c3, rfl⟩ := own_form hown3
        simp [lenOf]; omega
    · have ht : (((n : Int) + 1 + (z : Int)) % 64 != 56) = false := by
        have := HZ.out
        simp only [bne_eq_false_iff_eq]; omega
      obtain rfl : z = zz := by omega
      go_wp2
      clear hlt ht hz
      go_loopw [3, 5] (fun v i wr => ∃ j : Nat, j ≤ 8 ∧ i = .int .i64 (7 - (j : Int)) ∧ wr.ownsRow w.heap.size 5 1 v (n + 1 + z + j) (bv (txt xs z ++ (putL (8 * n) 8).take j)) ∧ Below w.heap.size w wr) (fun _ i _ => (intOf i + 1).toNat)
      case atStart => exact ⟨0, by omega, rfl, by simpa using hown, hbel⟩
      case round =>
        obtain ⟨j, hj, rfl, hown, hbel⟩ := hrel
        obtain ⟨A', c', rfl⟩ := own_form hown
        have hsz := hbel.size
        by_cases hlt : j < 8
        · have j0 : (0 : Int) ≤ 7 - (j : Int) := by omega
          have j1 : (j : Int) ≤ 7 := by omega
          obtain ⟨bt, hbt⟩ : ∃ bt, bt = UInt8.ofNat (8 * n / 256 ^ (7 - j)) := ⟨_, rfl⟩
          have hbv := byte_at n j hlt
          have hnx := putL_take (8 * n) j hlt
          rw [← hbt] at hbv hnx
          have E := Lib.hid (show txt xs z ++ (putL (8 * n) 8).take (j + 1) = (txt xs z ++ (putL (8 * n) 8).take j) ++ [bt] by rw [hnx, List.append_assoc])
          have HBV := Lib.hid hbv
          have RL := Lib.hid (show ∀ W : World, Rd (W.alloc (.cells #[.int .u8 ((n : Int) * 8 / 2 ^ (8 * (7 - j)) % 256)] 5)) (some ⟨W.heap.size, 0, none⟩) 1 1 [bt] from fun W => rd_lit W _ [bt] (by rw [hbv]; rfl) (by simp [maxLen]) _ rfl)
          clear hbv hbt hnx
          go_wp2_with (at_builtin; refine append_rd rfl (.tmp 30) (.tmp 37) rfl w.heap.size (.slice A' (n + 1 + z + j) c') (n + 1 + z + j) (txt xs z ++ (putL (8 * n) 8).take j) rfl (hown.alloc _) (some ⟨wr.heap.size, 0, none⟩) 1 1 [bt] rfl (RL.out wr) (by omega) (by simp; omega) ?_; intro v3 w3 hown3 hg3)
          go_roundw
          case rel => exact ⟨j + 1, by omega, by show Value.int .i64 _ = Value.int .i64 _; congr 1; omega, by rw [E.out]; exact hown3, (hbel.alloc hsz _).grown hg3 (by simp; omega) (fun k hk => (hown.lt k hk).1)⟩
          case measure => simp [intOf]; omega
        · have J8 := Lib.hid (show j = 8 by omega)
          obtain ⟨P, hP⟩ : ∃ P, P = pad xs := ⟨_, rfl⟩
          have hown : wr.ownsRow w.heap.size 5 1 (.slice A' (n + 1 + z + j) c') (n + 1 + z + j) (bv P) := by
            have e : txt xs z ++ (putL (8 * n) 8).take j = P := by
              rw [hP, pad, J8.out, List.take_of_length_le (by rw [putL_length]; omega), HZ.out, HN.out]; rfl
            rw [← e]; exact hown
          obtain ⟨K, hK⟩ : ∃ K, n + 1 + z + j = 64 * K := ⟨(n + 1 + z + j) / 64, by have := HZ.out; have := J8.out; omega⟩
          rw [hK] at hown
          have RT := Lib.hid (Rd.own hown)
          have KL := Lib.hid (show P.length = 64 * K from own_len hown)
          have BW := Lib.hid hbel
          have K1 : K ≤ 134217728 := by omega
          have K2 : 1 ≤ K := by omega
          have j0 : ¬ (0 : Int) ≤ 7 - (j : Int) := by have := J8.out; omega
          have j0' : ¬ (j : Int) ≤ 7 := by have := J8.out; omega
          rw [hK]
          have HPP := Lib.hid hP
          clear hK hP hown hbel hsz hlt
          go_wp2_with (fail)
          obtain ⟨wo, rfl⟩ : ∃ wo : World, wo = wr := ⟨_, rfl⟩
          go_loopw [7] (fun i w6 => ∃ k : Nat, k ≤ K ∧ i = .int .i64 (64 * (k : Int)) ∧ Bk w6 wo.heap.size 114 (sA (turns hH P k)) ∧ Below wo.heap.size wo w6) (fun i _ => (64 * (K : Int) - intOf i).toNat)
          case atStart => exact ⟨0, by omega, rfl, Bk.newAt wo 114 (sA hH) _ rfl, (Below.refl _ _).alloc (Nat.le_refl _) _⟩
          case round =>
            obtain ⟨k, hkK, rfl, hb, hB⟩ := hrel
            by_cases hlt : k < K
            · obtain ⟨st, hst⟩ : ∃ st, st = turns hH P k := ⟨_, rfl⟩
              rw [← hst] at hb
              obtain ⟨ck, hck⟩ : ∃ ck, ck = (P.drop (64 * k)).take 64 := ⟨_, rfl⟩
              have hnx : turns hH P (k + 1) = turn st ck := by rw [turns, hst, hck]
              obtain ⟨s2, hs2⟩ : ∃ s2, s2 = turn st ck := ⟨_, rfl⟩
              rw [← hs2] at hnx
              have HN2 := Lib.hid hnx
              have HTU := Lib.hid (show ∀ W A c, Rd W A 64 c ck → Calls Tryz.prog 91 #[.agg (sA st), .slice A 64 c] W fun e w' => e = .returned (.agg (sA s2)) ∧ Below W.heap.size W w' from fun W A c h => by rw [hs2]; exact rturn_any st A c ck W h)
              clear hs2
              have rt := (RT.out.below hB).cut (k := 64 * k) (by omega)
              have rt := rt.take (k := 64) (by omega)
              rw [← hck] at rt
              have hcs := fun W => run_cutSlLH (A := A') (n := 64 * K) (c := c') (l' := 64 * k) (m := 64) (l := 64 * (k : Int)) (h := 64 * (k : Int) + 64) (by omega) (by omega) (by have := (RT.out).cap; omega) W
              have hcs' := fun W => run_cutSlLHAt (A := A') (n := 64 * K) (c := c') (l' := 64 * k) (m := 64) (l := 64 * (k : Int)) (h := 64 * (k : Int) + 64) (by omega) (by omega) (by have := (RT.out).cap; omega) W
              obtain ⟨A2, hA2⟩ : ∃ A2, A2 = (if c' = 64 * k then A' else A'.map (·.add (64 * k))) := ⟨_, rfl⟩
              rw [← hA2] at rt hcs hcs'
              have hw1 : IntKind.i64.wrap (64 * (k : Int) + 64) = 64 * (k : Int) + 64 := by rw [IntKind.wrap_i64]; omega
              have RTK := Lib.hid rt
              have hlt' : (k : Int) < (K : Int) := by omega
              have hlt2 : 64 * (k : Int) < 64 * (K : Int) := by omega
              clear hA2 hck hst hnx rt
              go_wp2
              refine still_tail 6 (by kernel_rfl) (by kernel_rfl) ?_
              intro wd hwd
              have hb : Bk wd wo.heap.size 114 (sA st) := by rw [hwd]; exact hb.drew
              have hB : Below wo.heap.size wo wd := by rw [hwd]; exact hB.drew
              have hrt : Rd wd A2 64 (c' - 64 * k) ck := by rw [hwd]; exact RTK.out.drew
              have c0 : wd.cell? ⟨wo.heap.size, 0, none⟩ = some (.int .u32 (st.a.toNat : Int)) := hb.cell 0
              have c1 : wd.cell? ⟨wo.heap.size, 1, none⟩ = some (.int .u32 (st.b.toNat : Int)) := hb.cell 1
              have c2 : wd.cell? ⟨wo.heap.size, 2, none⟩ = some (.int .u32 (st.c.toNat : Int)) := hb.cell 2
              have c3 : wd.cell? ⟨wo.heap.size, 3, none⟩ = some (.int .u32 (st.d.toNat : Int)) := hb.cell 3
              have c4 : wd.cell? ⟨wo.heap.size, 4, none⟩ = some (.int .u32 (st.e.toNat : Int)) := hb.cell 4
              have c5 : wd.cell? ⟨wo.heap.size, 5, none⟩ = some (.int .u32 (st.f.toNat : Int)) := hb.cell 5
              have c6 : wd.cell? ⟨wo.heap.size, 6, none⟩ = some (.int .u32 (st.g.toNat : Int)) := hb.cell 6
              have c7 : wd.cell? ⟨wo.heap.size, 7, none⟩ = some (.int .u32 (st.h.toNat : Int)) := hb.cell 7
              have HBB := Lib.hid hb
              have HRT := Lib.hid hrt
              clear hwd hb hrt
              simp only [List.take_succ_cons, List.take_zero, List.drop_succ_cons, List.drop_zero]
              repeat still_step
              refine wpStill_nil ?_
              clear c0 c1 c2 c3 c4 c5 c6 c7
              go_wp2_with (first
                | (go_at_call 91; ((with_reducible refine (HTU.out _ A2 (c' - 64 * k) HRT.out).mono ?_); rintro e w7 ⟨rfl, hb7⟩; have HB7 := Lib.hid (HBB.out.below hb7 HBB.out.lt); have HL7 := Lib.hid (hB.trans (hb7.mono hB.size)); clear hb7))
                | (refine wpList_store_row rfl 114 _ _ rfl wo.heap.size (sA s2) rfl rfl 114 (sA st) HB7.out Tryz.info8 rfl (sA_one _) ?_))
              clear hw1 hcs hcs'
              go_roundw
              case rel => exact ⟨k + 1, by omega, by show Value.int .i64 _ = Value.int .i64 _; congr 1, by rw [HN2.out]; exact HB7.out.row _, below_setRow HL7.out (Nat.le_refl _) _⟩
              case measure => simp [intOf]; omega
            · obtain rfl : k = K := by omega
              obtain ⟨F, hF⟩ : ∃ F, F = turns hH P k := ⟨_, rfl⟩
              have HS := Lib.hid (show outL F = sum xs by rw [hF, sum, ← HPP.out, KL.out, Nat.mul_div_cancel_left k (show 0 < 64 from by decide)])
              rw [← hF] at hb
              clear hF
              have hlt2 : ¬ 64 * (k : Int) < 64 * (k : Int) := by omega
              go_wp2_with (fail)
              obtain ⟨wp, rfl⟩ : ∃ wp : World, wp = wr := ⟨_, rfl⟩
              have HBP := Lib.hid hb
              have HW := Lib.hid (BW.out.trans (hB.mono BW.out.size))
              clear hb hB hlt
              go_loopw [8, 9] (fun out i wr => ∃ j m : Nat, j ≤ 8 ∧ i = .int .i64 (j : Int) ∧ wr.ownsRow wp.heap.size 5 1 out m (bv (outs F.list j)) ∧ Below wp.heap.size wp wr) (fun _ i _ => 8 - (intOf i).toNat)
              case atStart => exact ⟨0, 0, by omega, rfl, ⟨by simp [outs, bv], .inl ⟨rfl, rfl⟩⟩, Below.refl _ _⟩
              case round =>
                obtain ⟨j, m, hj8, rfl, hown, hbel⟩ := hrel
                by_cases hlt8 : j < 8
                · obtain ⟨x, hx⟩ : ∃ x, x = F.list.getD j 0 := ⟨_, rfl⟩
                  have hcx : wr.cell? ⟨wo.heap.size, j, none⟩ = some (.int .u32 (x.toNat : Int)) := by
                    rw [(HBP.out.below hbel HBP.out.lt).cell, hx, ← sL_arr, sL_uv]; exact uA_get _ _ (by rw [list_length]; exact hlt8)
                  have E := Lib.hid (outs_succ F.list j (by rw [list_length]; exact hlt8))
                  rw [← hx] at E
                  have hml : m ≤ 32 := by have := own_len hown; rw [outs_length _ _ (by rw [list_length]; omega)] at this; omega
                  have hgl : wo.heap.size < wp.heap.size := HBP.out.lt
                  have ji : (j : Int) < 8 := by omega
                  have HO := Lib.hid hown
                  have HL := Lib.hid hbel
                  clear hx hown hbel
                  go_wp2
                  have HOd := fun o => own_below (HO.out.alloc o) ((Below.refl (wr.alloc o).heap.size (wr.alloc o)).drew)
                  have HOD := Lib.hid HOd
                  clear HOd
                  have hcd : wr.drew.cell? ⟨wo.heap.size, j, none⟩ = some (.int .u32 (x.toNat : Int)) := hcx
                  go_region_held3 (fun w' => w'.cell? ⟨wo.heap.size, j, none⟩ = some (.int .u32 (x.toNat : Int))) (first
                      | assumption
                      | (refine (World.cell?_alloc_lt _ _ _ (by have := HL.out.size; show wo.heap.size < _; simp; omega)).trans ?_; assumption)
                      | exact cell_ad hcx
                      | exact hcf
                      | fail) (first
                    | (refine step_append_rd (by rfl) (.tmp 57) (.tmp 77) (by rfl) wp.heap.size _ m (outs F.list j) (by rfl) (HOD.out _) (some ⟨wr.heap.size, 0, none⟩) 4 4 (putL x.toNat 4) (by rfl) (rd4 _ x) (by omega) (by have := HL.out.size; simp; omega) ?_; intro v7 w7 o7 g7 at7; have O7 := Lib.hid o7; have GG := Lib.hid g7; have hcf : w7.cell? ⟨wo.heap.size, j, none⟩ = some (.int .u32 (x.toNat : Int)) := cell_far (HOD.out _) g7 hgl ((World.cell?_alloc_lt _ _ _ (by have := HL.out.size; show wo.heap.size < _; omega)).trans hcx); clear o7 g7 at7)
                    | fail)
                  go_wp2
                  go_roundw
                  case rel => exact ⟨j + 1, m + 4, by omega, by go_num, by rw [E.out]; exact O7.out, ((HL.out.alloc HL.out.size _).drew).grown GG.out (by have := HL.out.size; simp; omega) (fun k hk => ((HOD.out (.cells #[] 0)).lt k hk).1)⟩
                  case measure => simp [intOf]; omega
                · obtain rfl : j = 8 := by omega
                  rw [outs_all, HS.out] at hown
                  go_wp2
                  go_ret
                  exact New.mk (own_base hown HW.out.size) (HW.out.trans (hbel.mono HW.out.size))
end Go.Proofs.YtkpfppiedadmbaaGreatDoor.S2

/-
  Words for calls that stand in a row. Plain lemmas, no statement is proved here.
-/
namespace Go.Proofs.YtkpfppiedadmbaaGreatDoor
set_option linter.unusedSimpArgs false
set_option linter.unusedVariables false
set_option maxRecDepth 1024
open Go.RowKit

theorem new_len {B : Nat} {w w' : World} {xs : List UInt8} {e : Ending} (h : New B w xs e w') : ∃ (A : Option Addr) (c : Nat), e = .returned (.slice A xs.length c) ∧ Rd w' A xs.length c xs ∧ Below B w w' := by
  obtain ⟨A, n, c, he, ho, hb⟩ := h
  have hl := own_len ho
  subst hl
  exact ⟨A, c, he, Rd.own ho, hb⟩
theorem rd_markAt (w : World) (vs : Array Value) (xs : List UInt8) (fr : Nat × Nat) (b : Nat) (hb : w.heap.size = b) (h : vs.toList = bv xs) (hm : xs.length ≤ maxLen) : Rd (w.alloc (.cells vs 5 fr)) (some ⟨b, 0, none⟩) xs.length xs.length xs := by
  subst hb
  obtain ⟨vs⟩ := vs
  simp only at h
  subst h
  refine ⟨rfl, Nat.le_refl _, hm, (fun e => by cases e), fun hn => ⟨w.heap.size, 0, rfl, by simp, fun j hj => ?_⟩⟩
  rw [cell_of_row _ _ _ _ _ fr (heap_alloc_new w _), Nat.zero_add]
  exact bv_getElem? _ _ hj
theorem rd_mark (w : World) (vs : Array Value) (xs : List UInt8) (fr : Nat × Nat) (h : vs.toList = bv xs) (hm : xs.length ≤ maxLen) : Rd (w.alloc (.cells vs 5 fr)) (some ⟨w.heap.size, 0, none⟩) xs.length xs.length xs := rd_markAt w vs xs fr _ rfl h hm
theorem RdBs.built2At (w : World) (b : Nat) (hb : w.heap.size = b) (T : TypeId) {A A' : Option Addr} {n c n' c' : Nat} {xs ys : List UInt8} (h : Rd w A n c xs) (h' : Rd w A' n' c' ys) :
    RdBs (w.alloc (.cells #[.slice A n c, .slice A' n' c'] T)) (some ⟨b, 0, none⟩) 2 2 [xs, ys] := by subst hb; exact RdBs.built2 w T h h'
theorem own_below {w w' : World} {B e size n : Nat} {v : Value} {xs : List Value} (h : w.ownsRow B e size v n xs) (hb : Below w.heap.size w w') : w'.ownsRow B e size v n xs := by
  refine ⟨h.1, ?_⟩
  rcases h.2 with h | ⟨g, cap, cur, h1, h2, h3, h4⟩
  · exact .inl h
  · exact .inr ⟨g, cap, cur, h1, h2, (hb.block g (Array.getElem?_eq_some_iff.1 h3).1).trans h3, h4⟩
theorem own_base {w : World} {B B' e size n : Nat} {v : Value} {xs : List Value} (h : w.ownsRow B e size v n xs) (hB : B' ≤ B) : w.ownsRow B' e size v n xs := by
  refine ⟨h.1, ?_⟩
  rcases h.2 with h | ⟨g, cap, cur, h1, h2, h3⟩
  · exact .inl h
  · exact .inr ⟨g, cap, cur, h1, Nat.le_trans hB h2, h3⟩
theorem own_only {w w' : World} {B e size n g : Nat} {v : Value} {xs : List Value} (h : w.ownsRow B e size v n xs) (hb : w.grownBy w' (some g)) (hg : v.ownBlock ≠ some g) : w'.ownsRow B e size v n xs := by
  refine ⟨h.1, ?_⟩
  rcases h.2 with h | ⟨b, cap, cur, h1, h2, h3, h4⟩
  · exact .inl h
  · refine .inr ⟨b, cap, cur, h1, h2, (hb.block b (Array.getElem?_eq_some_iff.1 h3).1 ?_).trans h3, h4⟩
    rw [h1] at hg
    simpa [Value.ownBlock] using hg
theorem own_keep {w w' : World} {B e size n b c : Nat} {row : Option Nat} {xs : List Value} (h : w.ownsRow B e size (.slice (some ⟨b, 0, none⟩) n c) n xs) (hg : w.grownBy w' row) (hb : row ≠ some b) : w'.ownsRow B e size (.slice (some ⟨b, 0, none⟩) n c) n xs := by
  refine ⟨h.1, ?_⟩
  rcases h.2 with h | ⟨g, cap, cur, h1, h2, h3, h4⟩
  · exact .inl h
  · have hgb : g = b := by injection h1 with e _ _; injection e with e; injection e with e; exact e.symm
    subst hgb
    exact .inr ⟨g, cap, cur, h1, h2, (hg.block g (Array.getElem?_eq_some_iff.1 h3).1 (fun e => hb e.symm)).trans h3, h4⟩
theorem own_free {w : World} {B e size n g : Nat} {v : Value} {xs : List Value} (h : w.ownsRow B e size v n xs) (hg : g < B) : v.ownBlock ≠ some g := fun e => by have := (h.lt g e).1; omega
theorem own_n {w : World} {B e n : Nat} {v : Value} {xs : List UInt8} (h : w.ownsRow B e 1 v (0 + n) (bv ([] ++ xs))) : w.ownsRow B e 1 v n (bv xs) := by simpa using h
theorem u8_inc (x : UInt8) : IntKind.u8.wrap ((x.toNat : Int) + 1) = ((x + 1).toNat : Int) := by
  rw [IntKind.wrap_u8', UInt8.toNat_add]
  have : (1 : UInt8).toNat = 1 := rfl
  omega
theorem run_cutSl {A : Option Addr} {n c k : Nat} {l : Int} (hl : l = k) (hk : k ≤ n) (W : World) :
    (Instr.slice 24 (.slice A n c) (some (.int .i64 l)) none none).run Tryz.prog W = .ok (.slice (if c = k then A else A.map (·.add k)) (n - k) (c - k)) W := by
  have ee : Tryz.prog.elem 24 = 5 := by kernel_rfl
  have hs : (sizeOf 5).run Tryz.prog W = .ok 1 W := by kernel_rfl
  subst hl
  rw [run_slice_l W 24 A n c (by rw [ee]; exact Tryz.underlying24) .i64 k (by omega) (by omega), ee, hs]
  simp [Result.andThen, sliced]
theorem run_cutSlAt {A : Option Addr} {n c k : Nat} {l : Int} (hl : l = k) (hk : k ≤ n) (W : World) :
    (Instr.sliceAt 24 (.slice A n c) (some (.int .i64 l)) none none).run Tryz.prog W = .ok (.slice (if c = k then A else A.map (·.add k)) (n - k) (c - k)) W := by
  have ee : Tryz.prog.elem 24 = 5 := by kernel_rfl
  rw [run_sliceAt_slice W 24 _ _ _ _ (by rw [ee]; exact Tryz.underlying24)]
  exact run_cutSl hl hk W
theorem run_cutSlLH {A : Option Addr} {n c l' m : Nat} {l h : Int} (hl : l = l') (hh : h = l' + m) (hk : l' + m ≤ c) (W : World) :
    (Instr.slice 24 (.slice A n c) (some (.int .i64 l)) (some (.int .i64 h)) none).run Tryz.prog W = .ok (.slice (if c = l' then A else A.map (·.add l')) m (c - l')) W := by
  have ee : Tryz.prog.elem 24 = 5 := by kernel_rfl
  have hs : (sizeOf 5).run Tryz.prog W = .ok 1 W := by kernel_rfl
  have e1 : h.toNat - l' = m := by omega
  have e2 : l.toNat = l' := by omega
  rw [run_slice_lh W 24 A n c (by rw [ee]; exact Tryz.underlying24) .i64 .i64 l h (by omega) (by omega) (by omega), ee, hs]
  simp only [Result.andThen, sliced, Nat.mul_one, e2, e1]
theorem run_cutSlLHAt {A : Option Addr} {n c l' m : Nat} {l h : Int} (hl : l = l') (hh : h = l' + m) (hk : l' + m ≤ c) (W : World) :
    (Instr.sliceAt 24 (.slice A n c) (some (.int .i64 l)) (some (.int .i64 h)) none).run Tryz.prog W = .ok (.slice (if c = l' then A else A.map (·.add l')) m (c - l')) W := by
  have ee : Tryz.prog.elem 24 = 5 := by kernel_rfl
  rw [run_sliceAt_slice W 24 _ _ _ _ (by rw [ee]; exact Tryz.underlying24)]
  exact run_cutSlLH hl hh hk W
theorem run_cutSlH {A : Option Addr} {n c m : Nat} {h : Int} (hh : h = (m : Nat)) (hk : m ≤ c) (W : World) :
    (Instr.slice 24 (.slice A n c) none (some (.int .i64 h)) none).run Tryz.prog W = .ok (.slice A m c) W := by
  have ee : Tryz.prog.elem 24 = 5 := by kernel_rfl
  have hs : (sizeOf 5).run Tryz.prog W = .ok 1 W := by kernel_rfl
  subst hh
  rw [run_slice_h W 24 A n c (by rw [ee]; exact Tryz.underlying24) .i64 (m : Int) (by omega) (by omega), ee, hs]
  simp only [Result.andThen, sliced, Nat.mul_one, Int.toNat_natCast, Nat.sub_zero]
  have : A.map (·.add 0) = A := by cases A <;> simp [Addr.add]
  rw [this]
  split <;> rfl
theorem run_cutSlHAt {A : Option Addr} {n c m : Nat} {h : Int} (hh : h = (m : Nat)) (hk : m ≤ c) (W : World) :
    (Instr.sliceAt 24 (.slice A n c) none (some (.int .i64 h)) none).run Tryz.prog W = .ok (.slice A m c) W := by
  have ee : Tryz.prog.elem 24 = 5 := by kernel_rfl
  rw [run_sliceAt_slice W 24 _ _ _ _ (by rw [ee]; exact Tryz.underlying24)]
  exact run_cutSlH hh hk W
end Go.Proofs.YtkpfppiedadmbaaGreatDoor

/-
  What octet.Cat does.
-/
namespace Go.Proofs.YtkpfppiedadmbaaGreatDoor
set_option linter.unusedSimpArgs false
set_option linter.unusedVariables false
set_option maxRecDepth 1024
open Go.RowKit

/-- The first k rows, one behind the other; how many bytes they have. -/
def cats (xss : List (List UInt8)) (k : Nat) : List UInt8 := (xss.take k).flatten
def tot (xss : List (List UInt8)) (k : Nat) : Nat := (cats xss k).length
theorem cats_succ (xss : List (List UInt8)) (k : Nat) (hk : k < xss.length) : cats xss (k + 1) = cats xss k ++ (xss[k]?.getD []) := by
  unfold cats
  rw [List.take_succ_eq_append_getElem hk, List.getElem?_eq_getElem hk, List.flatten_append, List.flatten_singleton, Option.getD_some]
theorem cats_all (xss : List (List UInt8)) (k : Nat) (hk : xss.length = k) : cats xss k = xss.flatten := by unfold cats; rw [List.take_of_length_le (by omega)]
theorem tot_succ (xss : List (List UInt8)) (k : Nat) (hk : k < xss.length) : tot xss (k + 1) = tot xss k + (xss[k]?.getD []).length := by
  unfold tot; rw [cats_succ xss k hk, List.length_append]
theorem tot_le (xss : List (List UInt8)) (k : Nat) : tot xss k ≤ xss.flatten.length := by
  have h := congrArg List.length (congrArg List.flatten (List.take_append_drop k xss))
  rw [List.flatten_append, List.length_append] at h
  unfold tot cats
  omega

set_option maxHeartbeats 1000000 in
theorem cat_any (A : Option Addr) (n c : Nat) (xss : List (List UInt8)) (w : World) (h : RdBs w A n c xss) (ht : xss.flatten.length ≤ 140737488355328) :
    Calls Tryz.prog 30 #[.slice A n c] w (New w.heap.size w xss.flatten) := by
  obtain ⟨i0, hi, hz0, hz1, hz2⟩ := info_parts Tryz.infoU8
  have l1 : n ≤ maxLen := Nat.le_trans h.cap h.max
  unfold maxLen at l1
  go_enter Tryz.func30, Tryz.ntmps30
  go_wp2
  go_loop [3, 11] (fun s i => ∃ k : Nat, k ≤ n ∧ i = .int .i64 (k : Int) ∧ s = .int .i64 (tot xss k : Nat)) (fun _ i => n - (intOf i).toNat)
  case atStart => exact ⟨0, Nat.zero_le _, rfl, rfl⟩
  case round =>
    obtain ⟨k, hk, rfl, rfl⟩ := hrel
    by_cases hlt : k < n
    · obtain ⟨b, off, rfl, hb, hcell⟩ := h.at_ (by omega)
      obtain ⟨A', n', c', hc, hr⟩ := hcell k hlt
      have e1 := tot_succ xss k (by have := h.len; omega)
      have e2 := tot_le xss (k + 1)
      have e3 : tot xss k + n' ≤ 140737488355328 := by rw [hr.len] at e1; omega
      have E := Lib.hid e1
      have El := Lib.hid hr.len
      clear hcell e1 e2 hr
      go_wp2
      go_round
      case rel => exact ⟨k + 1, by omega, by go_num, by rw [E.out, El.out]; go_num⟩
      case measure => simp [intOf]; omega
    · obtain rfl : k = n := by omega
      obtain ⟨T, hT⟩ : ∃ T, T = tot xss k := ⟨_, rfl⟩
      rw [← hT]
      have ht' : T ≤ 140737488355328 := by have := tot_le xss k; omega
      have HT := Lib.hid hT
      clear hT
      go_wp2_with (at_make; refine wpList_make_own _ rfl _ _ 24 rfl w.heap.size 5 i0 (.int .u8 0) 1 Tryz.underlying24 hi hz0 hz1 _ _ _ T rfl rfl (by omega) (by rw [hz2]; omega) (by unfold maxLen; omega) (Nat.le_refl _) ?_)
      intro w0 hown0 hgrow0
      have hb0 : Below w.heap.size w w0 := (Below.refl _ _).grown hgrow0 (Nat.le_refl _) (fun k h => by cases h)
      clear hgrow0
      go_wp2
      go_loopw [6, 24] (fun out i wr => ∃ j m : Nat, j ≤ k ∧ i = .int .i64 (j : Int) ∧ wr.ownsRow w.heap.size 5 1 out m (bv (cats xss j)) ∧ Below w.heap.size w wr) (fun _ i _ => k - (intOf i).toNat)
      case atStart => exact ⟨0, 0, Nat.zero_le _, rfl, by simpa [bv, cats] using hown0, hb0⟩
      case round =>
        obtain ⟨j, m, hj, rfl, hown, hbel⟩ := hrel
        by_cases hlt : j < k
        · obtain ⟨b, off, rfl, hb, hcell⟩ := (h.below hbel).at_ (by omega)
          obtain ⟨A', n', c', hc, hr⟩ := hcell j hlt
          have e1 := cats_succ xss j (by have := h.len; omega)
          have e2 := tot_le xss (j + 1)
          have hm := own_len hown
          have e3 : m + n' ≤ 140737488355328 := by unfold tot at e2; rw [e1, List.length_append, hr.len] at e2; omega
          have E := Lib.hid e1
          clear hcell e1 e2 hm
          go_wp2_with (at_builtin; refine append_rd rfl _ _ rfl w.heap.size _ m _ rfl hown A' n' c' _ rfl hr e3 hbel.size ?_; intro v' w1 hown1 hg1)
          go_roundw
          case rel => exact ⟨j + 1, m + n', by omega, by go_num, by rw [E.out]; exact hown1, hbel.grown hg1 hbel.size (fun g hg => (hown.lt g hg).1)⟩
          case measure => simp [intOf]; omega
        · obtain rfl : j = k := by omega
          have e := cats_all xss j h.len
          rw [e] at hown
          clear e
          go_wp2
          go_ret
          exact New.mk hown hbel
/-- Three rows that are written out. -/
theorem RdBs.built3 (w : World) (T : TypeId) {A A' A'' : Option Addr} {n c n' c' n'' c'' : Nat} {xs ys zs : List UInt8} (h : Rd w A n c xs) (h' : Rd w A' n' c' ys) (h'' : Rd w A'' n'' c'' zs) :
    RdBs (w.alloc (.cells #[.slice A n c, .slice A' n' c', .slice A'' n'' c''] T)) (some ⟨w.heap.size, 0, none⟩) 3 3 [xs, ys, zs] :=
  RdBs.built w _ T [xs, ys, zs] (by simp [maxLen]) fun j hj => by
    match j, hj with
    | 0, _ => exact ⟨A, n, c, rfl, h⟩
    | 1, _ => exact ⟨A', n', c', rfl, h'⟩
    | 2, _ => exact ⟨A'', n'', c'', rfl, h''⟩
end Go.Proofs.YtkpfppiedadmbaaGreatDoor
