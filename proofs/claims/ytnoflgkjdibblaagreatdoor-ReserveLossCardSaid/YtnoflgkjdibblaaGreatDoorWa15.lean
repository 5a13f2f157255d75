/-
  Texts put together: ROne, Sl4, Sl5. No statement is proved here.
-/
import Derived.Test.YtnoflgkjdibblaaGreatDoorWa14
import Derived.Test.YtnoflgkjdibblaaGreatDoorWa05
import Derived.Test.YtnoflgkjdibblaaGreatDoorWa13
import Derived.Deep.LoopGhost

/-
  What the document's own call of a whole text does.
-/
namespace Go.Proofs.YtnoflgkjdibblaaGreatDoor.S2
set_option linter.unusedSimpArgs false
set_option linter.unusedVariables false
set_option maxRecDepth 1024
open Go.RowKit

/-- The text, the byte 128, and z bytes 0. -/
def txt (xs : List UInt8) (z : Nat) : List UInt8 := xs ++ 128 :: List.replicate z 0
theorem txt_next (xs : List UInt8) (z : Nat) : txt xs z ++ [0] = txt xs (z + 1) := by simp [txt, List.replicate_succ']
theorem txt_length (xs : List UInt8) (z : Nat) : (txt xs z).length = xs.length + 1 + z := by simp [txt]; omega
theorem own_empty (w : World) (B : Nat) (hB : B ≤ w.heap.size) : (w.alloc (.cells #[] 5)).ownsRow B 5 1 (.slice (some ⟨w.heap.size, 0, none⟩) 0 0) 0 (bv []) := own_lit_u8 w B [] hB (by simp [maxLen])
theorem run_cutSlLH {A : Option Addr} {n c l' m : Nat} {l h : Int} (hl : l = l') (hh : h = l' + m) (hk : l' + m ≤ c) (W : World) :
    (Instr.slice 23 (.slice A n c) (some (.int .i64 l)) (some (.int .i64 h)) none).run Tryz.prog W = .ok (.slice (if c = l' then A else A.map (·.add l')) m (c - l')) W := by
  have ee : Tryz.prog.elem 23 = 5 := by kernel_rfl
  have hs : (sizeOf 5).run Tryz.prog W = .ok 1 W := by kernel_rfl
  have e1 : h.toNat - l' = m := by omega
  have e2 : l.toNat = l' := by omega
  rw [run_slice_lh W 23 A n c (by rw [ee]; exact Tryz.underlying23) .i64 .i64 l h (by omega) (by omega) (by omega), ee, hs]
  simp only [Result.andThen, sliced, Nat.mul_one, e2, e1]
theorem run_cutSlLHAt {A : Option Addr} {n c l' m : Nat} {l h : Int} (hl : l = l') (hh : h = l' + m) (hk : l' + m ≤ c) (W : World) :
    (Instr.sliceAt 23 (.slice A n c) (some (.int .i64 l)) (some (.int .i64 h)) none).run Tryz.prog W = .ok (.slice (if c = l' then A else A.map (·.add l')) m (c - l')) W := by
  have ee : Tryz.prog.elem 23 = 5 := by kernel_rfl
  rw [run_sliceAt_slice W 23 _ _ _ _ (by rw [ee]; exact Tryz.underlying23)]
  exact run_cutSlLH hl hh hk W
theorem u8_wrap (v : Int) (n : Nat) (h : v = (n : Int)) : IntKind.u8.wrap v = ((UInt8.ofNat n).toNat : Int) := by
  rw [IntKind.wrap_u8', h]; simp
theorem rd4 (W : World) (x : UInt32) : Rd (W.alloc (.cells #[.int .u8 (IntKind.u8.wrap ((x.toNat : Int) / 16777216)), .int .u8 (IntKind.u8.wrap ((x.toNat : Int) / 65536)), .int .u8 (IntKind.u8.wrap ((x.toNat : Int) / 256)), .int .u8 (IntKind.u8.wrap (x.toNat : Int))] 5)).drew (some ⟨W.heap.size, 0, none⟩) 4 4 (putL x.toNat 4) :=
  (rd_lit W _ (putL x.toNat 4) (by
    simp only [putL, bv, List.map_cons, List.map_nil]
    rw [u8_wrap ((x.toNat : Int) / 16777216) (x.toNat / 256 ^ 3) (by simp), u8_wrap ((x.toNat : Int) / 65536) (x.toNat / 256 ^ 2) (by simp), u8_wrap ((x.toNat : Int) / 256) (x.toNat / 256 ^ 1) (by simp), u8_wrap (x.toNat : Int) (x.toNat / 256 ^ 0) (by simp)]) (by simp [maxLen, putL_length]) _ rfl).drew
theorem own_base {w : World} {B B' e size n : Nat} {v : Value} {xs : List Value} (h : w.ownsRow B e size v n xs) (hB : B' ≤ B) : w.ownsRow B' e size v n xs := by
  refine ⟨h.1, ?_⟩
  rcases h.2 with h | ⟨g, cap, cur, h1, h2, h3⟩
  · exact .inl h
  · exact .inr ⟨g, cap, cur, h1, Nat.le_trans hB h2, h3⟩
theorem cell_ad {w : World} {o : Obj} {p : Addr} {v : Value} (h : w.cell? p = some v) : (w.alloc o).drew.cell? p = some v := (World.cell?_alloc_lt w o p (World.block_lt_of_cell? w _ h)).trans h
theorem cell_far {w w' : World} {v : Value} {B e size n : Nat} {xs : List Value} {g j : Nat} {u : Value} (ho : w.ownsRow B e size v n xs) (hg : w.grownBy w' v.ownBlock) (hlt : g < B) (hc : w.cell? ⟨g, j, none⟩ = some u) : w'.cell? ⟨g, j, none⟩ = some u :=
  (World.cell?_of_block (hg.block g (World.block_lt_of_cell? w _ hc) (fun e => by have := (ho.lt g e.symm).1; omega))).trans hc
theorem putL_get (V : Nat) : ∀ (n j : Nat), j < n → (putL V n)[j]? = some (UInt8.ofNat (V / 256 ^ (n - 1 - j)))
  | 0, j, h => by omega
  | n + 1, 0, h => by simp [putL]
  | n + 1, j + 1, h => by
    rw [putL, List.getElem?_cons_succ, putL_get V n j (by omega)]
    congr 4
    omega
theorem putL_take (V j : Nat) (h : j < 8) : (putL V 8).take (j + 1) = (putL V 8).take j ++ [UInt8.ofNat (V / 256 ^ (7 - j))] := by
  have h1 : j < (putL V 8).length := by rw [putL_length]; exact h
  rw [List.take_succ_eq_append_getElem h1]
  have := putL_get V 8 j h
  rw [List.getElem?_eq_getElem h1] at this
  injection this with this
  rw [this]
theorem byte_at (n j : Nat) (h : j < 8) : (n : Int) * 8 / 2 ^ (8 * (7 - j)) % 256 = ((UInt8.ofNat (8 * n / 256 ^ (7 - j))).toNat : Int) := by
  have e : (2 : Int) ^ (8 * (7 - j)) = ((256 ^ (7 - j) : Nat) : Int) := by rw [Int.pow_mul]; simp
  rw [e]
  have : (n : Int) * 8 = ((8 * n : Nat) : Int) := by omega
  rw [this]
  simp
set_option maxRecDepth 100000 in
set_option maxHeartbeats 1000000 in
theorem rone_any (A : Option Addr) (n c : Nat) (xs : List UInt8) (w : World) (hr : Rd w A n c xs) (hm : n ≤ 2147483648) :
    Calls Tryz.prog 91 #[.slice A n c] w (New w.heap.size w (sum xs)) := by
  have HOE := Lib.hid (own_empty w w.heap.size (Nat.le_refl _))
  have HR := Lib.hid hr
  clear hr
  go_enter Tryz.func91, Tryz.ntmps91
  go_wp2_with (first
    | (at_builtin; refine append_rd rfl (.tmp 10) (.tmp 11) rfl w.heap.size _ 0 [] rfl HOE.out A n c xs rfl (HR.out.alloc _) (by omega) (by simp) ?_; intro v1 w1 hown1 hg1; have hw1 := hg1.size)
    | (at_builtin; refine append_rd rfl (.tmp 12) (.tmp 13) rfl w.heap.size v1 (0 + n) ([] ++ xs) rfl (hown1.alloc _) (some ⟨w1.heap.size, 0, none⟩) 1 1 [128] rfl (rd_lit w1 _ [128] rfl (by simp [maxLen]) _ rfl) (by omega) (by simp at hw1 ⊢; omega) ?_; intro v2 w2 hown2 hg2))
  have hB2 : Below w.heap.size w w2 := by
    have b1 := ((Below.refl w.heap.size w).alloc (Nat.le_refl _) (.cells #[] 5)).grown hg1 (by simp) (fun k hk => (HOE.out.lt k hk).1)
    exact (b1.alloc b1.size _).grown hg2 (by have := b1.size; simp; omega) (fun k hk => (hown1.lt k hk).1)
  have hown2 : w2.ownsRow w.heap.size 5 1 v2 (n + 1 + 0) (bv (txt xs 0)) := by simpa [txt] using hown2
  have hl := HR.out.len
  obtain ⟨zz, hzz⟩ : ∃ zz, zz = 63 - (n + 8) % 64 := ⟨_, rfl⟩
  have HZ := Lib.hid hzz
  have HN := Lib.hid hl
  have hz64 : zz < 64 := by omega
  clear hzz hl hg1 hg2 hown1 hw1
  go_loopw [3] (fun v wr => ∃ z : Nat, z ≤ zz ∧ wr.ownsRow w.heap.size 5 1 v (n + 1 + z) (bv (txt xs z)) ∧ Below w.heap.size w wr) (fun v _ => 2147483648 + 200 - lenOf v)
  case atStart => exact ⟨0, by omega, hown2, hB2⟩
  case round =>
    obtain ⟨z, hz, hown, hbel⟩ := hrel
    obtain ⟨A', c', rfl⟩ := own_form hown
    have hsz := hbel.size
    by_cases hlt : z < zz
    · have ht : (((n : Int) + 1 + (z : Int)) % 64 != 56) = true := by
        have := HZ.out
        simp only [bne_iff_ne, ne_eq]; omega
      have E := Lib.hid (txt_next xs z)
      go_wp2_with (at_builtin; go_loud (refine append_rd rfl (.tmp 19) (.tmp 20) rfl w.heap.size (.slice A' (n + 1 + z) c') (n + 1 + z) (txt xs z) rfl (hown.alloc _) (some ⟨wr.heap.size, 0, none⟩) 1 1 [0] rfl (rd_lit wr _ [0] rfl (by simp [maxLen]) _ rfl) (by omega) (by simp; omega) ?_); intro v3 w3 hown3 hg3)
      go_roundw
      case rel => exact ⟨z + 1, by omega, by rw [← E.out]; exact hown3, (hbel.alloc hsz _).grown hg3 (by simp; omega) (fun k hk => (hown.lt k hk).1)⟩
      case measure =>
        obtain ⟨A3, c3, rfl⟩ := own_form hown3
        simp [lenOf]; omega
    · have ht : (((n : Int) + 1 + (z : Int)) % 64 != 56) = false := by
        have := HZ.out
        simp only [bne_eq_false_iff_eq]; omega
      obtain rfl : z = zz := by omega
      go_wp2
      clear hlt ht hz
      go_loopw [3, 5] (fun v i wr => ∃ j : Nat, j ≤ 8 ∧ i = .int .i64 (7 - (j : Int)) ∧ wr.ownsRow w.heap.size 5 1 v (n + 1 + z + j) (bv (txt xs z ++ (putL (8 * n) 8).take j)) ∧ Below w.heap.size w wr) (fun _ i _ => (intOf i + 1).toNat)
      case atStart => exact ⟨0, by omega, rfl, by simpa using hown, hbel⟩
      case round =>
        obtain ⟨j, hj, rfl, hown, hbel⟩ := hrel
        obtain ⟨A', c', rfl⟩ := own_form hown
        have hsz := hbel.size
        by_cases hlt : j < 8
        · have j0 : (0 : Int) ≤ 7 - (j : Int) := by omega
          have j1 : (j : Int) ≤ 7 := by omega
          obtain ⟨bt, hbt⟩ : ∃ bt, bt = UInt8.ofNat (8 * n / 256 ^ (7 - j)) := ⟨_, rfl⟩
          have hbv := byte_at n j hlt
          have hnx := putL_take (8 * n) j hlt
          rw [← hbt] at hbv hnx
          have E := Lib.hid (show txt xs z ++ (putL (8 * n) 8).take (j + 1) = (txt xs z ++ (putL (8 * n) 8).take j) ++ [bt] by rw [hnx, List.append_assoc])
          have HBV := Lib.hid hbv
          have RL := Lib.hid (show ∀ W : World, Rd (W.alloc (.cells #[.int .u8 ((n : Int) * 8 / 2 ^ (8 * (7 - j)) % 256)] 5)) (some ⟨W.heap.size, 0, none⟩) 1 1 [bt] from fun W => rd_lit W _ [bt] (by rw [hbv]; rfl) (by simp [maxLen]) _ rfl)
          clear hbv hbt hnx
          go_wp2_with (at_builtin; refine append_rd rfl (.tmp 30) (.tmp 37) rfl w.heap.size (.slice A' (n + 1 + z + j) c') (n + 1 + z + j) (txt xs z ++ (putL (8 * n) 8).take j) rfl (hown.alloc _) (some ⟨wr.heap.size, 0, none⟩) 1 1 [bt] rfl (RL.out wr) (by omega) (by simp; omega) ?_; intro v3 w3 hown3 hg3)
          go_roundw
          case rel => exact ⟨j + 1, by omega, by show Value.int .i64 _ = Value.int .i64 _; congr 1; omega, by rw [E.out]; exact hown3, (hbel.alloc hsz _).grown hg3 (by simp; omega) (fun k hk => (hown.lt k hk).1)⟩
          case measure => simp [intOf]; omega
        · have J8 := Lib.hid (show j = 8 by omega)
          obtain ⟨P, hP⟩ : ∃ P, P = pad xs := ⟨_, rfl⟩
          have hown : wr.ownsRow w.heap.size 5 1 (.slice A' (n + 1 + z + j) c') (n + 1 + z + j) (bv P) := by
            have e : txt xs z ++ (putL (8 * n) 8).take j = P := by
              rw [hP, pad, J8.out, List.take_of_length_le (by rw [putL_length]; omega), HZ.out, HN.out]; rfl
            rw [← e]; exact hown
          obtain ⟨K, hK⟩ : ∃ K, n + 1 + z + j = 64 * K := ⟨(n + 1 + z + j) / 64, by have := HZ.out; have := J8.out; omega⟩
          rw [hK] at hown
          have RT := Lib.hid (Rd.own hown)
          have KL := Lib.hid (show P.length = 64 * K from own_len hown)
          have BW := Lib.hid hbel
          have K1 : K ≤ 134217728 := by omega
          have K2 : 1 ≤ K := by omega
          have j0 : ¬ (0 : Int) ≤ 7 - (j : Int) := by have := J8.out; omega
          have j0' : ¬ (j : Int) ≤ 7 := by have := J8.out; omega
          rw [hK]
          have HPP := Lib.hid hP
          clear hK hP hown hbel hsz hlt
          go_wp2_with (fail)
          obtain ⟨wo, rfl⟩ : ∃ wo : World, wo = wr := ⟨_, rfl⟩
          go_loopw [7] (fun i w6 => ∃ k : Nat, k ≤ K ∧ i = .int .i64 (64 * (k : Int)) ∧ Bk w6 wo.heap.size 168 (sA (turns hH P k)) ∧ Below wo.heap.size wo w6) (fun i _ => (64 * (K : Int) - intOf i).toNat)
          case atStart => exact ⟨0, by omega, rfl, Bk.newAt wo 168 (sA hH) _ rfl, (Below.refl _ _).alloc (Nat.le_refl _) _⟩
          case round =>
            obtain ⟨k, hkK, rfl, hb, hB⟩ := hrel
            by_cases hlt : k < K
            · obtain ⟨st, hst⟩ : ∃ st, st = turns hH P k := ⟨_, rfl⟩
              rw [← hst] at hb
              obtain ⟨ck, hck⟩ : ∃ ck, ck = (P.drop (64 * k)).take 64 := ⟨_, rfl⟩
              have hnx : turns hH P (k + 1) = turn st ck := by rw [turns, hst, hck]
              obtain ⟨s2, hs2⟩ : ∃ s2, s2 = turn st ck := ⟨_, rfl⟩
              rw [← hs2] at hnx
              have HN2 := Lib.hid hnx
              have HTU := Lib.hid (show ∀ W A c, Rd W A 64 c ck → Calls Tryz.prog 115 #[.agg (sA st), .slice A 64 c] W fun e w' => e = .returned (.agg (sA s2)) ∧ Below W.heap.size W w' from fun W A c h => by rw [hs2]; exact rturn_any st A c ck W h)
              clear hs2
              have rt := (RT.out.below hB).cut (k := 64 * k) (by omega)
              have rt := rt.take (k := 64) (by omega)
              rw [← hck] at rt
              have hcs := fun W => run_cutSlLH (A := A') (n := 64 * K) (c := c') (l' := 64 * k) (m := 64) (l := 64 * (k : Int)) (h := 64 * (k : Int) + 64) (by omega) (by omega) (by have := (RT.out).cap; omega) W
              have hcs' := fun W => run_cutSlLHAt (A := A') (n := 64 * K) (c := c') (l' := 64 * k) (m := 64) (l := 64 * (k : Int)) (h := 64 * (k : Int) + 64) (by omega) (by omega) (by have := (RT.out).cap; omega) W
              obtain ⟨A2, hA2⟩ : ∃ A2, A2 = (if c' = 64 * k then A' else A'.map (·.add (64 * k))) := ⟨_, rfl⟩
              rw [← hA2] at rt hcs hcs'
              have hw1 : IntKind.i64.wrap (64 * (k : Int) + 64) = 64 * (k : Int) + 64 := by rw [IntKind.wrap_i64]; omega
              have RTK := Lib.hid rt
              have hlt' : (k : Int) < (K : Int) := by omega
              have hlt2 : 64 * (k : Int) < 64 * (K : Int) := by omega
              clear hA2 hck hst hnx rt
              go_wp2
              refine still_tail 6 (by kernel_rfl) (by kernel_rfl) ?_
              intro wd hwd
              have hb : Bk wd wo.heap.size 168 (sA st) := by rw [hwd]; exact hb.drew
              have hB : Below wo.heap.size wo wd := by rw [hwd]; exact hB.drew
              have hrt : Rd wd A2 64 (c' - 64 * k) ck := by rw [hwd]; exact RTK.out.drew
              have c0 : wd.cell? ⟨wo.heap.size, 0, none⟩ = some (.int .u32 (st.a.toNat : Int)) := hb.cell 0
              have c1 : wd.cell? ⟨wo.heap.size, 1, none⟩ = some (.int .u32 (st.b.toNat : Int)) := hb.cell 1
              have c2 : wd.cell? ⟨wo.heap.size, 2, none⟩ = some (.int .u32 (st.c.toNat : Int)) := hb.cell 2
              have c3 : wd.cell? ⟨wo.heap.size, 3, none⟩ = some (.int .u32 (st.d.toNat : Int)) := hb.cell 3
              have c4 : wd.cell? ⟨wo.heap.size, 4, none⟩ = some (.int .u32 (st.e.toNat : Int)) := hb.cell 4
              have c5 : wd.cell? ⟨wo.heap.size, 5, none⟩ = some (.int .u32 (st.f.toNat : Int)) := hb.cell 5
              have c6 : wd.cell? ⟨wo.heap.size, 6, none⟩ = some (.int .u32 (st.g.toNat : Int)) := hb.cell 6
              have c7 : wd.cell? ⟨wo.heap.size, 7, none⟩ = some (.int .u32 (st.h.toNat : Int)) := hb.cell 7
              have HBB := Lib.hid hb
              have HRT := Lib.hid hrt
              clear hwd hb hrt
              simp only [List.take_succ_cons, List.take_zero, List.drop_succ_cons, List.drop_zero]
              repeat still_step
              refine wpStill_nil ?_
              clear c0 c1 c2 c3 c4 c5 c6 c7
              go_wp2_with (first
                | (go_at_call 115; ((with_reducible refine (HTU.out _ A2 (c' - 64 * k) HRT.out).mono ?_); rintro e w7 ⟨rfl, hb7⟩; have HB7 := Lib.hid (HBB.out.below hb7 HBB.out.lt); have HL7 := Lib.hid (hB.trans (hb7.mono hB.size)); clear hb7))
                | (refine wpList_store_row rfl 168 _ _ rfl wo.heap.size (sA s2) rfl rfl 168 (sA st) HB7.out Tryz.info8 rfl (sA_one _) ?_))
              clear hw1 hcs hcs'
              go_roundw
              case rel => exact ⟨k + 1, by omega, by show Value.int .i64 _ = Value.int .i64 _; congr 1, by rw [HN2.out]; exact HB7.out.row _, below_setRow HL7.out (Nat.le_refl _) _⟩
              case measure => simp [intOf]; omega
            · obtain rfl : k = K := by omega
              obtain ⟨F, hF⟩ : ∃ F, F = turns hH P k := ⟨_, rfl⟩
              have HS := Lib.hid (show outL F = sum xs by rw [hF, sum, ← HPP.out, KL.out, Nat.mul_div_cancel_left k (show 0 < 64 from by decide)])
              rw [← hF] at hb
              clear hF
              have hlt2 : ¬ 64 * (k : Int) < 64 * (k : Int) := by omega
              go_wp2_with (fail)
              obtain ⟨wp, rfl⟩ : ∃ wp : World, wp = wr := ⟨_, rfl⟩
              have HBP := Lib.hid hb
              have HW := Lib.hid (BW.out.trans (hB.mono BW.out.size))
              clear hb hB hlt
              go_loopw [8, 9] (fun out i wr => ∃ j m : Nat, j ≤ 8 ∧ i = .int .i64 (j : Int) ∧ wr.ownsRow wp.heap.size 5 1 out m (bv (outs F.list j)) ∧ Below wp.heap.size wp wr) (fun _ i _ => 8 - (intOf i).toNat)
              case atStart => exact ⟨0, 0, by omega, rfl, ⟨by simp [outs, bv], .inl ⟨rfl, rfl⟩⟩, Below.refl _ _⟩
              case round =>
                obtain ⟨j, m, hj8, rfl, hown, hbel⟩ := hrel
                by_cases hlt8 : j < 8
                · obtain ⟨x, hx⟩ : ∃ x, x = F.list.getD j 0 := ⟨_, rfl⟩
                  have hcx : wr.cell? ⟨wo.heap.size, j, none⟩ = some (.int .u32 (x.toNat : Int)) := by
                    rw [(HBP.out.below hbel HBP.out.lt).cell, hx, ← sL_arr, sL_uv]; exact uA_get _ _ (by rw [list_length]; exact hlt8)
                  have E := Lib.hid (outs_succ F.list j (by rw [list_length]; exact hlt8))
                  rw [← hx] at E
                  have hml : m ≤ 32 := by have := own_len hown; rw [outs_length _ _ (by rw [list_length]; omega)] at this; omega
                  have hgl : wo.heap.size < wp.heap.size := HBP.out.lt
                  have ji : (j : Int) < 8 := by omega
                  have HO := Lib.hid hown
                  have HL := Lib.hid hbel
                  clear hx hown hbel
                  go_wp2
                  have HOd := fun o => own_below (HO.out.alloc o) ((Below.refl (wr.alloc o).heap.size (wr.alloc o)).drew)
                  have HOD := Lib.hid HOd
                  clear HOd
                  have hcd : wr.drew.cell? ⟨wo.heap.size, j, none⟩ = some (.int .u32 (x.toNat : Int)) := hcx
                  go_region_held3 (fun w' => w'.cell? ⟨wo.heap.size, j, none⟩ = some (.int .u32 (x.toNat : Int))) (first
                      | assumption
                      | (refine (World.cell?_alloc_lt _ _ _ (by have := HL.out.size; show wo.heap.size < _; simp; omega)).trans ?_; assumption)
                      | exact cell_ad hcx
                      | exact hcf
                      | fail) (first
                    | (refine step_append_rd (by rfl) (.tmp 57) (.tmp 77) (by rfl) wp.heap.size _ m (outs F.list j) (by rfl) (HOD.out _) (some ⟨wr.heap.size, 0, none⟩) 4 4 (putL x.toNat 4) (by rfl) (rd4 _ x) (by omega) (by have := HL.out.size; simp; omega) ?_; intro v7 w7 o7 g7 at7; have O7 := Lib.hid o7; have GG := Lib.hid g7; have hcf : w7.cell? ⟨wo.heap.size, j, none⟩ = some (.int .u32 (x.toNat : Int)) := cell_far (HOD.out _) g7 hgl ((World.cell?_alloc_lt _ _ _ (by have := HL.out.size; show wo.heap.size < _; omega)).trans hcx); clear o7 g7 at7)
                    | fail)
                  go_wp2
                  go_roundw
                  case rel => exact ⟨j + 1, m + 4, by omega, by go_num, by rw [E.out]; exact O7.out, ((HL.out.alloc HL.out.size _).drew).grown GG.out (by have := HL.out.size; simp; omega) (fun k hk => ((HOD.out (.cells #[] 0)).lt k hk).1)⟩
                  case measure => simp [intOf]; omega
                · obtain rfl : j = 8 := by omega
                  rw [outs_all, HS.out] at hown
                  go_wp2
                  go_ret
                  exact New.mk (own_base hown HW.out.size) (HW.out.trans (hbel.mono HW.out.size))
end Go.Proofs.YtnoflgkjdibblaaGreatDoor.S2

/-
  The document's own slots: a record as bytes. No statement is proved here. (Written by gensl4.py.)
-/
namespace Go.Proofs.YtnoflgkjdibblaaGreatDoor.S20
set_option linter.unusedSimpArgs false
set_option linter.unusedVariables false
set_option maxRecDepth 4096
open Go.RowKit S19

theorem RdBs.built3To (w : World) (b : Nat) (hb : w.heap.size = b) (T : TypeId) {A A' A'' : Option Addr} {n c n' c' n'' c'' : Nat} {xs ys zs : List UInt8} (h : Rd w A n c xs) (h' : Rd w A' n' c' ys) (h'' : Rd w A'' n'' c'' zs) :
    RdBs (w.alloc (.cells #[.slice A n c, .slice A' n' c', .slice A'' n'' c''] T)) (some ⟨b, 0, none⟩) 3 3 [xs, ys, zs] := by
  subst hb
  exact RdBs.built3 w T h h' h''
theorem rd_lit1 (w : World) (b : UInt8) : Rd (w.alloc (.cells #[.int .u8 (b.toNat : Int)] 5)) (some ⟨w.heap.size, 0, none⟩) 1 1 [b] := by
  have := World.ownsRow_lit (base := 0) (e := 5) (size := 1) w #[.int .u8 (b.toNat : Int)] 1 (Nat.zero_le _) (by simp [maxLen]) (by simp)
  exact Rd.own (B := 0) (e := 5) (by simpa [bv] using this)
theorem zeros_step (xs : List UInt8) (z : Nat) : (xs ++ List.replicate z 0) ++ [0] = xs ++ List.replicate (z + 1) 0 := by
  rw [List.append_assoc, ← List.replicate_succ']
theorem head_flat (num : Nat) (b : List UInt8) : [putL num 8, putL b.length 4, b].flatten = headB num b := by simp [headB]
set_option maxHeartbeats 4000000 in
theorem rrec_any (num : Nat) (hnum : num < 18446744073709551616) (A : Option Addr) (nb c : Nat) (b : List UInt8) (n : Nat) (w : World) (hr : Rd w A nb c b) (hn : n ≤ 100) (hl : 28 + nb ≤ 64 * n) :
    Calls Tryz.prog 70 #[.int .u64 (num : Int), .slice A nb c, .int .i64 (n : Int)] w (New w.heap.size w (recB num b n)) := by
  obtain ⟨x1, hx1⟩ : ∃ x1, x1 = putL num 8 := ⟨_, rfl⟩
  obtain ⟨x2, hx2⟩ : ∃ x2, x2 = putL nb 4 := ⟨_, rfl⟩
  obtain ⟨hd, hhd⟩ : ∃ hd, hd = headB num b := ⟨_, rfl⟩
  obtain ⟨sm, hsm⟩ : ∃ sm, sm = S2.sum hd := ⟨_, rfl⟩
  have hbl := hr.len
  have HFL := Lib.hid (show [x1, x2, b].flatten = hd by rw [hx1, hx2, hhd, ← hbl]; exact head_flat num b)
  have HHL := Lib.hid (show hd.length = 12 + nb by rw [hhd, headB_len, hbl])
  have HSM := Lib.hid (show sm.length = 32 by rw [hsm]; exact S2.sum_length _)
  have HRE := Lib.hid (show recB num b n = hd ++ sm.take 16 ++ List.replicate (64 * n - (28 + nb)) 0 by rw [recB, fullB, ← hhd, ← hsm, hbl])
  have P8 := Lib.hid (show ∀ X, Calls Tryz.prog 68 #[.int .u64 (num : Int), .int .i64 8] X (New X.heap.size X x1) from fun X => by rw [hx1]; exact rput_any num 8 X (by omega) hnum)
  have P4 := Lib.hid (show ∀ X, Calls Tryz.prog 68 #[.int .u64 (nb : Int), .int .i64 4] X (New X.heap.size X x2) from fun X => by rw [hx2]; exact rput_any nb 4 X (by omega) (by omega))
  have ON := Lib.hid (show ∀ X A c, Rd X A (12 + nb) c hd → Calls Tryz.prog 91 #[.slice A (12 + nb) c] X (New X.heap.size X sm) from fun X A c h => by rw [hsm]; exact S2.rone_any A (12 + nb) c hd X h (by omega))
  have HR := Lib.hid hr
  obtain ⟨nn, hnn⟩ : ∃ nn, nn = 64 * n := ⟨_, rfl⟩
  have hl64 : ((64 : Int) * (n : Int)) = (nn : Int) := by omega
  have hw64 : wrap64 (64 * (n : Int)) = (nn : Int) := by rw [hl64]; unfold wrap64; omega
  have HNN := Lib.hid hnn
  have hnb : nb ≤ 6400 := by omega
  clear hx1 hx2 hhd hsm hbl hr hnum hnn
  go_enter Tryz.func70, Tryz.ntmps70
  go_upto_region 2 with (first
    | (go_at_call 68; ((with_reducible refine (P8.out w).mono ?_); rintro e w1 ⟨A1, n1, c1, rfl, o1, b1⟩; have R1 := Lib.hid (Rd.own o1); have B1 := Lib.hid b1; clear o1 b1))
    | (go_at_call 68; ((with_reducible refine (P4.out w1).mono ?_); rintro e w2 ⟨A2, n2, c2, rfl, o2, b2⟩; have R2 := Lib.hid (Rd.own o2); have R12 := Lib.hid (R1.out.below b2); have B2 := Lib.hid (B1.out.trans (b2.mono B1.out.size)); clear o2 b2))
    | (go_at_call 67; ((refine (rcat_any _ 3 3 [x1, x2, b] _ (RdBs.built3To w2 _ rfl _ R12.out R2.out (HR.out.below B2.out)) (by rw [HFL.out, HHL.out]; omega)).mono ?_); intro e w3 h3; rw [HFL.out] at h3; obtain ⟨A3, n3, c3, rfl, o3, b3⟩ := New.from (B2.out.alloc B2.out.size _) h3; have O3 := Lib.hid o3; have B3 := Lib.hid b3; clear o3 b3 h3)))
  have hn3 : n3 = 12 + nb := (own_len O3.out).symm.trans HHL.out
  subst hn3
  go_wp2_with (first
    | (go_at_call 91; ((with_reducible refine (ON.out w3 A3 c3 (Rd.own O3.out)).mono ?_); rintro e w4 ⟨A4, n4, c4, rfl, o4, b4⟩; obtain rfl : 32 = n4 := HSM.out.symm.trans (own_len o4); have R4 := Lib.hid (Rd.own o4); have O4 := Lib.hid (own_below O3.out b4); have B4 := Lib.hid (B3.out.trans (b4.mono B3.out.size)); have hc4 := R4.out.cap; have P1 : ∀ W, (Instr.slice 23 (.slice A4 32 c4) none (some (.int .i64 16)) none).run Tryz.prog W = .ok (.slice A4 16 c4) W := fun W => run_cutSlH (m := 16) rfl (by omega) W; have P2 : ∀ W, (Instr.sliceAt 23 (.slice A4 32 c4) none (some (.int .i64 16)) none).run Tryz.prog W = .ok (.slice A4 16 c4) W := fun W => run_cutSlHAt (m := 16) rfl (by omega) W; clear o4 b4))
    | (at_builtin; refine append_rd rfl (.tmp 17) (.tmp 20) rfl w.heap.size _ (12 + nb) hd rfl O4.out A4 16 c4 (sm.take 16) rfl (R4.out.take (by omega)) (by omega) B4.out.size ?_; intro v5 w5 o5 g5; obtain ⟨A5, c5, rfl⟩ := own_form o5; have O5 := Lib.hid o5; have B5 := Lib.hid (B4.out.grown g5 B4.out.size (fun q hq => (O4.out.lt q hq).1)); clear o5 g5))
  clear O3 O4 R4 hc4 P1 P2 R1 R2 R12
  have h28 : 12 + nb + 16 = 28 + nb := by omega
  rw [h28] at O5 ⊢
  obtain ⟨m, hm⟩ : ∃ m, m = 28 + nb := ⟨_, rfl⟩
  rw [← hm] at O5 hl HRE ⊢
  have HM := Lib.hid hm
  have HLN := Lib.hid (show m ≤ nn ∧ nn ≤ 6400 by have := HNN.out; omega)
  have HXL := Lib.hid (own_len O5.out)
  obtain ⟨xs, hxs⟩ : ∃ xs, xs = hd ++ sm.take 16 := ⟨_, rfl⟩
  rw [← hxs] at O5 HRE HXL
  clear hm h28 hxs hl hnb hn HHL HFL HSM
  have hl6 := HLN.out.2
  go_loopg [7] (nn - m + 1) (fun f v wr => ∃ (z : Nat) (A' : Option Addr) (c' : Nat), z + f = nn - m + 1 ∧ m + z ≤ nn ∧ v = .slice A' (m + z) c' ∧ wr.ownsRow w.heap.size 5 1 (.slice A' (m + z) c') (m + z) (bv (xs ++ List.replicate z 0)) ∧ Below w.heap.size w wr)
  case atStart => exact ⟨0, A5, c5, by omega, by have := HLN.out; omega, rfl, by simpa using O5.out, B5.out⟩
  case round =>
    clear O5 B5
    obtain ⟨z, A', c', hzf, hz, rfl, hO, hB⟩ := hrel
    have OR := Lib.hid hO
    have BR := Lib.hid hB
    have HZ := Lib.hid (show z + gk = nn - m + 1 ∧ m + z ≤ nn from ⟨hzf, hz⟩)
    clear hO hB hzf
    by_cases hlt : m + z < nn
    · have t0 : (m : Int) + (z : Int) < (nn : Int) := by omega
      have HLT := Lib.hid hlt
      go_wp2_with (at_builtin; refine append_rd rfl (.tmp 27) (.tmp 28) rfl w.heap.size (.slice A' (m + z) c') (m + z) (xs ++ List.replicate z 0) rfl (OR.out.alloc _) (some ⟨wr.heap.size, 0, none⟩) 1 1 [0] rfl (rd_lit1 wr 0) (by omega) (by have := BR.out.size; simp; omega) ?_; intro v7 w7 o7 g7; obtain ⟨A7, c7, rfl⟩ := own_form o7; have O7 := Lib.hid o7; have B7 := Lib.hid ((BR.out.alloc BR.out.size _).grown g7 (by have := BR.out.size; simp; omega) (fun q hq => (OR.out.lt q hq).1)); clear o7 g7)
      go_roundg (gk - 1)
      case rel => have := HZ.out; have := HLT.out; exact ⟨z + 1, A7, c7, by omega, by omega, rfl, by rw [← zeros_step]; exact O7.out, B7.out⟩
      case measure => have := HZ.out; have := HLT.out; omega
    · have t0 : ¬ (m : Int) + (z : Int) < (nn : Int) := by omega
      have hzz : m + z = nn := by omega
      go_wp2_with (fail)
      go_ret
      have OR2 := OR.out
      rw [hzz] at OR2
      refine ⟨A', nn, c', rfl, ?_, BR.out⟩
      rw [HRE.out, ← HNN.out, show nn - m = z by omega]
      exact OR2
end Go.Proofs.YtnoflgkjdibblaaGreatDoor.S20

/-
  The document's own slots: is an area a record? No statement is proved here. (Written by gensl5.py.)
-/
namespace Go.Proofs.YtnoflgkjdibblaaGreatDoor.S20
set_option linter.unusedSimpArgs false
set_option linter.unusedVariables false
set_option maxRecDepth 4096
open Go.RowKit S19

theorem rget_step20 (xs : List UInt8) (k : Nat) (hk : k < xs.length) (h8 : k < 8) :
    IntKind.u64.wrap (IntKind.u64.wrap ((getL (xs.take k) : Nat) * 256) + IntKind.u64.wrap ((xs[k]?.getD 0).toNat : Int)) = (getL (xs.take (k + 1)) : Nat) := by
  have hg := getL_lt (xs.take k)
  rw [List.length_take, Nat.min_eq_left (by omega)] at hg
  have h7 : 256 ^ k ≤ 256 ^ 7 := Nat.pow_le_pow_right (by omega) (by omega)
  have hc := (xs[k]'hk).toNat_lt
  rw [List.take_succ_eq_append_getElem hk, getL_snoc, List.getElem?_eq_getElem hk, Option.getD_some]
  simp only [IntKind.wrap_u64]
  omega
theorem rget20 (A : Option Addr) (n c : Nat) (xs : List UInt8) (w : World) (hn : n ≤ 8) (h : Rd w A n c xs) :
    Calls Tryz.prog 78 #[.slice A n c] w fun e w' => e = .returned (.tuple #[.int .u64 (getL xs : Nat), .bool true]) ∧ w = w' := by
  go_enter Tryz.func78, Tryz.ntmps78
  go_wp2
  go_loop [4, 5] (fun v i => ∃ k : Nat, k ≤ n ∧ i = .int .i64 k ∧ v = .int .u64 (getL (xs.take k) : Nat)) (fun _ i => n - (intOf i).toNat)
  case atStart => exact ⟨0, Nat.zero_le _, rfl, rfl⟩
  case round =>
    obtain ⟨k, hk, rfl, rfl⟩ := hrel
    by_cases hlt : k < n
    · obtain ⟨b, off, rfl, hb, hcell⟩ := h.at_ (by omega)
      have hc := hcell k hlt
      clear hcell
      go_wp2
      go_round
      case rel =>
        exact ⟨k + 1, by omega, by go_num, by rw [← rget_step20 xs k (by have := h.len; omega) (by omega)]⟩
      case measure => simp [intOf]; omega
    · obtain rfl : k = n := by omega
      go_wp2
      go_ret2
      have e := h.len
      exact ⟨by rw [List.take_of_length_le (by omega)]; rfl, rfl⟩
theorem run_cutLHu {A : Option Addr} {n c l' m : Nat} {l h : Int} (hl : l = l') (hh : h = l' + m) (hk : l' + m ≤ c) (W : World) :
    (Instr.slice 23 (.slice A n c) (some (.int .i64 l)) (some (.int .u64 h)) none).run Tryz.prog W = .ok (.slice (if c = l' then A else A.map (·.add l')) m (c - l')) W := by
  have ee : Tryz.prog.elem 23 = 5 := by kernel_rfl
  have hs : (sizeOf 5).run Tryz.prog W = .ok 1 W := by kernel_rfl
  have e1 : h.toNat - l' = m := by omega
  have e2 : l.toNat = l' := by omega
  rw [run_slice_lh W 23 A n c (by rw [ee]; exact Tryz.underlying23) .i64 .u64 l h (by omega) (by omega) (by omega), ee, hs]
  simp only [Result.andThen, sliced, Nat.mul_one, e2, e1]
theorem run_cutLHuAt {A : Option Addr} {n c l' m : Nat} {l h : Int} (hl : l = l') (hh : h = l' + m) (hk : l' + m ≤ c) (W : World) :
    (Instr.sliceAt 23 (.slice A n c) (some (.int .i64 l)) (some (.int .u64 h)) none).run Tryz.prog W = .ok (.slice (if c = l' then A else A.map (·.add l')) m (c - l')) W := by
  have ee : Tryz.prog.elem 23 = 5 := by kernel_rfl
  rw [run_sliceAt_slice W 23 _ _ _ _ (by rw [ee]; exact Tryz.underlying23)]
  exact run_cutLHu hl hh hk W
/-- What an area comes to. -/
def GivesW (xs : List UInt8) (n : Nat) (w : World) (e : Ending) (w' : World) : Prop := ∃ A c, e = .returned (.tuple #[.int .u64 ((whole xs n).1 : Int), .slice A (whole xs n).2.length c]) ∧ Rd w' A (whole xs n).2.length c (whole xs n).2 ∧ Below w.heap.size w w'
set_option maxHeartbeats 4000000 in
theorem rwhole_any (A : Option Addr) (k c : Nat) (xs : List UInt8) (n : Nat) (w : World) (hr : Rd w A k c xs) (hk : k = 64 * n) (h1 : 1 ≤ n) (h8 : n ≤ 8) :
    Calls Tryz.prog 66 #[.slice A k c, .int .i64 (n : Int)] w (GivesW xs n w) := by
  have hrm := room_nat h1 h8
  obtain ⟨rm, hrm2⟩ : ∃ rm, rm = room n := ⟨_, rfl⟩
  have HRM := Lib.hid (show ∀ X, Calls Tryz.prog 69 #[.int .i64 (n : Int)] X fun e w' => e = .returned (.int .i64 (rm : Int)) ∧ X = w' from fun X => by rw [hrm2]; exact rroom_any n (by omega) (by omega) X)
  have hcap := hr.cap
  have hl := hr.len
  obtain ⟨num, hnum⟩ : ∃ num, num = numOf xs := ⟨_, rfl⟩
  obtain ⟨cnt, hcnt⟩ : ∃ cnt, cnt = cntOf xs := ⟨_, rfl⟩
  have hnl := numOf_lt xs
  have hcl := cntOf_lt xs
  rw [← hnum] at hnl
  rw [← hcnt] at hcl
  have P1 : ∀ W, (Instr.slice 23 (.slice A k c) none (some (.int .i64 8)) none).run Tryz.prog W = .ok (.slice A 8 c) W := fun W => run_cutSlH (m := 8) rfl (by omega) W
  have P2 : ∀ W, (Instr.sliceAt 23 (.slice A k c) none (some (.int .i64 8)) none).run Tryz.prog W = .ok (.slice A 8 c) W := fun W => run_cutSlHAt (m := 8) rfl (by omega) W
  obtain ⟨A8, hA8⟩ : ∃ A8, A8 = if c = 8 then A else A.map (·.add 8) := ⟨_, rfl⟩
  have P3 : ∀ W, (Instr.slice 23 (.slice A k c) (some (.int .i64 8)) (some (.int .i64 12)) none).run Tryz.prog W = .ok (.slice A8 4 (c - 8)) W := fun W => by rw [hA8]; exact run_cutSlLH (l' := 8) (m := 4) rfl rfl (by omega) W
  have P4 : ∀ W, (Instr.sliceAt 23 (.slice A k c) (some (.int .i64 8)) (some (.int .i64 12)) none).run Tryz.prog W = .ok (.slice A8 4 (c - 8)) W := fun W => by rw [hA8]; exact run_cutSlLHAt (l' := 8) (m := 4) rfl rfl (by omega) W
  have G1 := Lib.hid (show Calls Tryz.prog 78 #[.slice A 8 c] w fun e w' => e = .returned (.tuple #[.int .u64 (num : Int), .bool true]) ∧ w = w' by rw [hnum]; exact rget20 A 8 c _ w (by omega) (hr.take (by omega)))
  have G2 := Lib.hid (show Calls Tryz.prog 78 #[.slice A8 4 (c - 8)] w fun e w' => e = .returned (.tuple #[.int .u64 (cnt : Int), .bool true]) ∧ w = w' by
    rw [hcnt, hA8]
    exact rget20 _ 4 (c - 8) _ w (by omega) ((hr.cut (k := 8) (by omega)).take (by omega)))
  by_cases q1 : num = 0
  · have F := Lib.hid (show GivesW xs n w (.returned (.tuple #[.int .u64 0, .slice none 0 0])) w from by
      have e : whole xs n = (0, []) := if_neg (fun h => h.1 (by rw [← hnum]; exact q1))
      unfold GivesW
      rw [e]
      exact ⟨none, 0, rfl, Rd.nil_ _, Below.refl _ _⟩)
    have y1 : ((num : Int) == 0) = true := by simp; omega
    clear hk h1 h8 hnum hcnt hA8 hl hcap hrm2 hr hrm hcl hnl
    go_enter Tryz.func66, Tryz.ntmps66
    go_wp2_with (first
      | (go_at_call 78; ((with_reducible refine G1.out.mono ?_); rintro e w1 ⟨rfl, rfl⟩))
      | (go_at_call 78; ((with_reducible refine G2.out.mono ?_); rintro e w2 ⟨rfl, rfl⟩))
      | (go_at_call 69; ((with_reducible refine (HRM.out _).mono ?_); rintro e w3 ⟨rfl, rfl⟩)))
    go_ret2
    exact F.out
  by_cases q2 : rm < cnt
  · have F := Lib.hid (show GivesW xs n w (.returned (.tuple #[.int .u64 0, .slice none 0 0])) w from by
      have e : whole xs n = (0, []) := if_neg (fun h => by have := h.2.1; omega)
      unfold GivesW
      rw [e]
      exact ⟨none, 0, rfl, Rd.nil_ _, Below.refl _ _⟩)
    have y1 : ((num : Int) == 0) = false := by simp; omega
    have y2 : (rm : Int) < (cnt : Int) := by omega
    have y3 : rm < 18446744073709551616 := by omega
    clear hk h1 h8 hnum hcnt hA8 hl hcap hrm2 hr hrm hcl hnl q1 q2
    go_enter Tryz.func66, Tryz.ntmps66
    go_wp2_with (first
      | (go_at_call 78; ((with_reducible refine G1.out.mono ?_); rintro e w1 ⟨rfl, rfl⟩))
      | (go_at_call 78; ((with_reducible refine G2.out.mono ?_); rintro e w2 ⟨rfl, rfl⟩))
      | (go_at_call 69; ((with_reducible refine (HRM.out _).mono ?_); rintro e w3 ⟨rfl, rfl⟩)))
    go_ret2
    exact F.out
  · obtain ⟨A12, hA12⟩ : ∃ A12, A12 = if c = 12 then A else A.map (·.add 12) := ⟨_, rfl⟩
    have P5 : ∀ W, (Instr.slice 23 (.slice A k c) (some (.int .i64 12)) (some (.int .u64 (12 + (cnt : Int)))) none).run Tryz.prog W = .ok (.slice A12 cnt (c - 12)) W := fun W => by rw [hA12]; exact run_cutLHu (l' := 12) (m := cnt) rfl (by omega) (by omega) W
    have P6 : ∀ W, (Instr.sliceAt 23 (.slice A k c) (some (.int .i64 12)) (some (.int .u64 (12 + (cnt : Int)))) none).run Tryz.prog W = .ok (.slice A12 cnt (c - 12)) W := fun W => by rw [hA12]; exact run_cutLHuAt (l' := 12) (m := cnt) rfl (by omega) (by omega) W
    obtain ⟨dt, hdt⟩ : ∃ dt, dt = dataOf xs := ⟨_, rfl⟩
    have RD := Lib.hid (show Rd w A12 cnt (c - 12) dt by rw [hdt, dataOf, ← hcnt, hA12]; exact (hr.cut (k := 12) (by omega)).take (by omega))
    obtain ⟨rec, hrec⟩ : ∃ rec, rec = recB num dt n := ⟨_, rfl⟩
    have RC := Lib.hid (show Calls Tryz.prog 70 #[.int .u64 (num : Int), .slice A12 cnt (c - 12), .int .i64 (n : Int)] w (New w.heap.size w rec) by rw [hrec]; exact rrec_any num hnl A12 cnt (c - 12) dt n w RD.out (by omega) (by omega))
    have HR := Lib.hid hr
    have y1 : ((num : Int) == 0) = false := by simp; omega
    have y2 : ¬ (rm : Int) < (cnt : Int) := by omega
    have y3 : rm < 18446744073709551616 := by omega
    have F := Lib.hid (show ∀ X, Below w.heap.size w X → sameB rec xs = true → GivesW xs n w (.returned (.tuple #[.int .u64 (num : Int), .slice A12 cnt (c - 12)])) X from fun X hX hs => by
      have hrx : rec = xs := by simpa [sameB] using hs
      have e : whole xs n = (num, dt) := by rw [whole, if_pos ⟨by rw [← hnum]; exact q1, by rw [← hcnt]; omega, by rw [← hnum, ← hdt, ← hrec]; exact hrx⟩, hnum, hdt]
      have hdl : dt.length = cnt := RD.out.len
      unfold GivesW
      rw [e]
      show ∃ A' c', _ = Ending.returned (.tuple #[.int .u64 (num : Int), .slice A' dt.length c']) ∧ Rd X A' dt.length c' dt ∧ _
      rw [hdl]
      exact ⟨A12, c - 12, rfl, RD.out.below hX, hX⟩)
    have F0 := Lib.hid (show ∀ X, Below w.heap.size w X → sameB rec xs = false → GivesW xs n w (.returned (.tuple #[.int .u64 0, .slice none 0 0])) X from fun X hX hs => by
      have hrx : rec ≠ xs := by simpa [sameB] using hs
      have e : whole xs n = (0, []) := if_neg (fun h => hrx (by have := h.2.2; rw [← hnum, ← hdt, ← hrec] at this; exact this))
      unfold GivesW
      rw [e]
      exact ⟨none, 0, rfl, Rd.nil_ _, hX⟩)
    have BDN := Lib.hid (show ∀ (X : World) q, Below w.heap.size w X → Below w.heap.size w (X.drewN q) from fun X q h => ⟨h.os, h.tape, h.output, h.size, h.block⟩)
    have SM := Lib.hid (show ∀ X A c, Rd X A rec.length c rec → Rd X A rec.length c rec from fun _ _ _ h => h)
    clear hk h1 h8 hnum hcnt hA8 hl hcap hrm2 hr hrm q1 q2 hA12 hdt hrec
    obtain ⟨rl, hrl⟩ : ∃ rl, rl = rec.length := ⟨_, rfl⟩
    have HRL := Lib.hid hrl
    clear hrl
    cases hs : sameB rec xs
    · have F1 := Lib.hid (fun X hX => F0.out X hX hs)
      go_enter Tryz.func66, Tryz.ntmps66
      go_wp2_with (first
        | (go_at_call 78; ((with_reducible refine G1.out.mono ?_); rintro e w1 ⟨rfl, rfl⟩))
        | (go_at_call 78; ((with_reducible refine G2.out.mono ?_); rintro e w2 ⟨rfl, rfl⟩))
        | (go_at_call 69; ((with_reducible refine (HRM.out _).mono ?_); rintro e w3 ⟨rfl, rfl⟩))
        | (go_at_call 70; ((with_reducible refine RC.out.mono ?_); rintro e w4 ⟨A4, n4, c4, rfl, o4, b4⟩; have R4 := Lib.hid (Rd.own o4); have B4 := Lib.hid b4; clear o4 b4))
        | (go_at_call 26; ((with_reducible refine (rsame_any A4 A n4 c4 k c rec xs w4 R4.out (HR.out.below B4.out)).mono ?_); rintro e w5 ⟨rfl, q5, rfl⟩; rw [hs])))
      go_ret2
      exact F1.out _ (BDN.out _ _ B4.out)
    · have F1 := Lib.hid (fun X hX => F.out X hX hs)
      go_enter Tryz.func66, Tryz.ntmps66
      go_wp2_with (first
        | (go_at_call 78; ((with_reducible refine G1.out.mono ?_); rintro e w1 ⟨rfl, rfl⟩))
        | (go_at_call 78; ((with_reducible refine G2.out.mono ?_); rintro e w2 ⟨rfl, rfl⟩))
        | (go_at_call 69; ((with_reducible refine (HRM.out _).mono ?_); rintro e w3 ⟨rfl, rfl⟩))
        | (go_at_call 70; ((with_reducible refine RC.out.mono ?_); rintro e w4 ⟨A4, n4, c4, rfl, o4, b4⟩; have R4 := Lib.hid (Rd.own o4); have B4 := Lib.hid b4; clear o4 b4))
        | (go_at_call 26; ((with_reducible refine (rsame_any A4 A n4 c4 k c rec xs w4 R4.out (HR.out.below B4.out)).mono ?_); rintro e w5 ⟨rfl, q5, rfl⟩; rw [hs])))
      go_ret2
      exact F1.out _ (BDN.out _ _ B4.out)
end Go.Proofs.YtnoflgkjdibblaaGreatDoor.S20
