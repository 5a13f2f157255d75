/-
  The landed package mac: a key as a block. No statement is proved here.
-/
import Derived.Test.YtjgcaodicbikiaaDoorMacK
namespace Go.Proofs.YtjgcaodicbikiaaDoor.S6
set_option linter.unusedSimpArgs false
set_option linter.unusedVariables false
open Go.RowKit

theorem own_bk {w : World} {B g n : Nat} {xs : List UInt8} (h : w.ownsRow B 5 1 (.slice (some ⟨g, 0, none⟩) n n) n (bv xs)) : Bk w g 5 (bv xs).toArray := by
  rcases h.2 with ⟨h1, _⟩ | ⟨g', cap, cur, h1, h2, h3, h4, h5, h6, h7⟩
  · cases h1
  · injection h1 with e1 e2 e3
    injection e1 with e1
    injection e1 with e1
    subst e1 e3
    have : cur = (bv xs).toArray := by
      rw [← h7, List.take_of_length_le (by simp [h6])]
    rw [← this]
    exact h3
theorem own_made {w : World} {B e n : Nat} {v : Value} (h : w.ownsRow B e 1 v n (madeCells (Value.int .u8 0).cells (n * 1)).toList) : w.ownsRow B e 1 v n (bv (List.replicate n 0)) := by
  rw [Nat.mul_one] at h
  rw [← bv_zero n]
  exact h
theorem bk_own {w : World} {B g n : Nat} {xs : List UInt8} (h : Bk w g 5 (bv xs).toArray) (hB : B ≤ g) (hn : xs.length = n) (hm : n ≤ maxLen) : w.ownsRow B 5 1 (.slice (some ⟨g, 0, none⟩) n n) n (bv xs) :=
  ⟨by simp [bv_length, hn], .inr ⟨g, n, _, rfl, hB, h, Nat.le_refl _, hm, by simp [bv_length, hn], by simp [List.take_of_length_le, bv_length, hn]⟩⟩
/-- 'copy' of bytes to the head of a block of bytes that is as long, or longer. -/
theorem wpList_copy_head {P : Program} {w : World} {ops : Array Oper} {rest : List Oper} {o : Oper} {a : Act} {Q : Exit → Act → World → Prop} (hgd : o.guard = none) (d s : Operand) (dT sT : TypeId)
    (ho : o.op = .call { callee := .builtin .copy, args := #[d, s], argTypes := #[dT, sT] }) (elem : TypeId) (hu : P.underlying dT = some (.slice elem)) (hsz : (P.info? elem).map (·.size) = some 1)
    (g dLen dCap : Nat) (A : Option Addr) (m c : Nat) (ys zs : List UInt8) (hd : a.eval d = .slice (some ⟨g, 0, none⟩) dLen dCap) (hs : a.eval s = .slice A m c) (hr : Rd w A m c ys) (hm : m ≤ dLen)
    (t : TypeId) (hb : Bk w g t (bv zs).toArray) (hz : zs.length = dLen)
    (h : ∀ w', Bk w' g t (bv (ys ++ zs.drop m)).toArray → w.grownBy w' (some g) → wpList P ops Q rest (a.put o.dst (.int .i64 (m : Int))) w') : wpList P ops Q (o :: rest) a w := by
  have hl := hr.len
  by_cases h0 : m = 0
  · subst h0
    obtain rfl : ys = [] := List.eq_nil_of_length_eq_zero hl
    refine wpList_plain hgd fun K hK => ?_
    have hrun := run_copy_none (P := P) w dT sT o.type elem (some ⟨g, 0, none⟩) A dLen dCap 0 c hu hsz (by simp)
    unfold Oper.wp
    simp [execOp, ho, resolve, invoke, builtin, hd, hs, hrun, Result.andThen]
    exact hK _ _ (h w (by simpa using hb) (World.grownBy.refl _ _))
  · obtain ⟨b, off, rfl, hbl, hc⟩ := hr.at_ (by omega)
    have hql : (bv ys).length = m := by rw [bv_length, hl]
    refine wpList_copy_own hgd d s dT sT ho elem hu hsz g 0 dLen dCap ⟨b, off, none⟩ m c hd hs _ t hb (bv ys) (by rw [hql]; exact (Nat.min_eq_left hm).symm) (fun j v hv => ?_) (by simp [hql, bv_length]; omega) (fun v hv => bv_one _ v hv) ?_
    · have hj : j < m := by rw [← hql]; exact (List.getElem?_eq_some_iff.1 hv).1
      rw [bv_at _ _ (by omega)] at hv
      rw [Addr.add_mid, hc j hj, ← hv]
      simp [List.getD, hl ▸ hj]
    · have e : (bv zs).toArray.toList.take 0 ++ (bv ys ++ (bv zs).toArray.toList.drop (0 + (bv ys).length)) = bv (ys ++ zs.drop m) := by
        rw [List.toList_toArray, List.take_zero, List.nil_append, Nat.zero_add, hql, bv_append]
        simp [bv, List.map_drop]
      rw [e, hql]
      exact h _ (Bk.row hb _) (S2.only_row _)
/-- The key as a block. -/
def padK (bl : Nat) (key : List UInt8) : List UInt8 := key ++ List.replicate (bl - key.length) 0
theorem padK_length (bl : Nat) (key : List UInt8) (h : key.length ≤ bl) : (padK bl key).length = bl := by simp [padK]; omega
theorem padK_row (bl : Nat) (key : List UInt8) (d : UInt8) (h : key.length ≤ bl) : (padK bl key).map (· ^^^ d) = row d bl key := by
  refine List.ext_getElem? fun i => ?_
  unfold padK row
  by_cases hi : i < bl
  · rw [List.getElem?_map, List.getElem?_map, List.getElem?_range hi]
    by_cases h2 : i < key.length
    · rw [List.getElem?_append_left h2]
      simp [h2]
    · rw [List.getElem?_append_right (by omega)]
      simp [h2, List.getElem?_replicate, show i - key.length < bl - key.length by omega]
  · rw [List.getElem?_eq_none (by simp; omega), List.getElem?_eq_none (by simp; omega)]
set_option maxHeartbeats 1000000 in
theorem fill_0 (A : Option Addr) (n c : Nat) (key : List UInt8) (w : World) (hg : GK w) (hr : Rd w A n c key) (hn : n ≤ 100000000) :
    Calls Tryd.prog 23 #[.agg (kA 32 64 32), .slice A n c] w (New w.heap.size w (padK 64 (keyK 0 key))) := by
  obtain ⟨i0, hi, hz0, hz1, hz2⟩ := info_parts Tryd.infoU8
  have HG := Lib.hid hg
  have HL := Lib.hid (show [key].flatten.length ≤ 268435456 by have := hr.len; simp; omega)
  have e1 : [key].flatten = key := by simp
  have hl := hr.len
  have KB := Lib.hid ((Below.refl w.heap.size w).alloc (Nat.le_refl _) (.cells (kA 32 64 32) 40))
  have KK := Lib.hid (Bk.new w 40 (kA 32 64 32))
  have R1 := Lib.hid (hr.alloc (.cells (kA 32 64 32) 40))
  by_cases h64 : 64 < n
  · have ek : keyK 0 key = sumK 0 key := by unfold keyK; rw [if_pos (by show 64 < _; omega)]
    have EL := Lib.hid (show (sumK 0 key).length = 32 from sumK_length 0 key)
    have h64i : (64 : Int) < (n : Int) := by omega
    rw [ek]
    obtain ⟨V, hV⟩ : ∃ V, V = sumK 0 key := ⟨_, rfl⟩
    rw [← hV] at EL ⊢
    have HV := Lib.hid hV
    clear hg hr ek hl hV
    go_enter Tryd.func23, Tryd.ntmps23
    go_wp2_with (first
      | (go_at_call 32; ((with_reducible refine (short_any _ 1 1 [key] _ (HG.out.below (Nat.le_refl _) (KB.out.alloc KB.out.size _)) (RdBs.oneAt (T := 22) R1.out (w.heap.size + 1) (by simp)) HL.out).mono ?_); rw [e1, ← HV.out]; intro e w3 h3; obtain ⟨A3, c3, rfl, r3, b3⟩ := new_len h3; rw [EL.out] at r3; rw [EL.out]; have R3 := Lib.hid r3; have B3 := Lib.hid ((KB.out.alloc KB.out.size (.cells #[.slice A n c] 22)).trans (b3.mono (by simp; omega))); have K3 := ((KK.out.alloc (.cells #[.slice A n c] 22)).below b3 (by simp; omega)).cell 1; have K3 : w3.cell? ⟨w.heap.size, 1, none⟩ = some (.int .i64 64) := K3; clear h3 r3 b3))
      | (at_make; (refine wpList_make_full _ rfl _ _ 22 rfl w.heap.size 5 i0 (.int .u8 0) 1 Tryd.underlying22 hi hz0 hz1 _ _ _ _ 64 rfl rfl rfl rfl (by rw [hz2]; decide) (by unfold maxLen; decide) B3.out.size ?_; intro w4 own4 g4; replace own4 := own_made own4; have N4 := Lib.hid (own_bk own4); have B4 := Lib.hid (B3.out.grown g4 B3.out.size (fun k h => by cases h)); have R4 := Lib.hid (Rd.apart R3.out g4 (fun a _ h => by cases h)); clear own4 g4 K3))
      | (refine wpList_copy_head rfl (.tmp 19) (.tmp 20) 22 22 rfl 5 Tryd.underlying22 (by kernel_rfl) w3.heap.size 64 64 A3 32 c3 V (List.replicate 64 0) rfl rfl R4.out (by decide) _ N4.out (by simp) ?_; intro w5 n5 g5))
    go_ret
    have hp : V ++ (List.replicate 64 0).drop 32 = padK 64 V := by
      unfold padK
      rw [EL.out, List.drop_replicate]
    rw [hp] at n5
    exact New.mk (bk_own n5 B3.out.size (padK_length _ _ (by rw [EL.out]; decide)) (by unfold maxLen; decide)) (below_only B4.out g5 B3.out.size B4.out.size)
  · have ek : keyK 0 key = key := by unfold keyK; rw [if_neg (by show ¬ 64 < _; omega)]
    have h64i : ¬ (64 : Int) < (n : Int) := by omega
    have K3 : (w.alloc (.cells (kA 32 64 32) 40)).cell? ⟨w.heap.size, 1, none⟩ = some (.int .i64 64) := KK.out.cell 1
    rw [ek]
    have HLL := Lib.hid hl
    clear hg hr ek hl
    go_enter Tryd.func23, Tryd.ntmps23
    go_wp2_with (first
      | (at_make; (refine wpList_make_full _ rfl _ _ 22 rfl w.heap.size 5 i0 (.int .u8 0) 1 Tryd.underlying22 hi hz0 hz1 _ _ _ _ 64 rfl rfl rfl rfl (by rw [hz2]; decide) (by unfold maxLen; decide) KB.out.size ?_; intro w4 own4 g4; replace own4 := own_made own4; have N4 := own_bk own4; rw [World.size_alloc] at N4; replace N4 := Lib.hid N4; have B4 := Lib.hid (KB.out.grown g4 KB.out.size (fun k h => by cases h)); have R4 := Lib.hid (Rd.apart R1.out g4 (fun a _ h => by cases h)); clear own4 g4 K3))
      | (refine wpList_copy_head rfl (.tmp 19) (.tmp 20) 22 22 rfl 5 Tryd.underlying22 (by kernel_rfl) (w.heap.size + 1) 64 64 A n c key (List.replicate 64 0) rfl rfl R4.out (by omega) _ N4.out (by simp) ?_; intro w5 n5 g5))
    go_ret
    have hp : key ++ (List.replicate 64 0).drop n = padK 64 key := by
      unfold padK
      rw [HLL.out, List.drop_replicate]
    rw [hp] at n5
    exact New.mk (bk_own n5 (by omega) (padK_length _ _ (by have := HLL.out; omega)) (by unfold maxLen; decide)) (below_only B4.out g5 (by omega) B4.out.size)
set_option maxHeartbeats 1000000 in
theorem fill_1 (A : Option Addr) (n c : Nat) (key : List UInt8) (w : World) (hg : GK w) (hr : Rd w A n c key) (hn : n ≤ 100000000) :
    Calls Tryd.prog 23 #[.agg (kA 64 128 31), .slice A n c] w (New w.heap.size w (padK 128 (keyK 1 key))) := by
  obtain ⟨i0, hi, hz0, hz1, hz2⟩ := info_parts Tryd.infoU8
  have HG := Lib.hid hg
  have HL := Lib.hid (show [key].flatten.length ≤ 268435456 by have := hr.len; simp; omega)
  have e1 : [key].flatten = key := by simp
  have hl := hr.len
  have KB := Lib.hid ((Below.refl w.heap.size w).alloc (Nat.le_refl _) (.cells (kA 64 128 31) 40))
  have KK := Lib.hid (Bk.new w 40 (kA 64 128 31))
  have R1 := Lib.hid (hr.alloc (.cells (kA 64 128 31) 40))
  by_cases h64 : 128 < n
  · have ek : keyK 1 key = sumK 1 key := by unfold keyK; rw [if_pos (by show 128 < _; omega)]
    have EL := Lib.hid (show (sumK 1 key).length = 64 from sumK_length 1 key)
    have h64i : (128 : Int) < (n : Int) := by omega
    rw [ek]
    obtain ⟨V, hV⟩ : ∃ V, V = sumK 1 key := ⟨_, rfl⟩
    rw [← hV] at EL ⊢
    have HV := Lib.hid hV
    clear hg hr ek hl hV
    go_enter Tryd.func23, Tryd.ntmps23
    go_wp2_with (first
      | (go_at_call 31; ((with_reducible refine (parts_sum _ 1 1 [key] _ (HG.out.below (Nat.le_refl _) (KB.out.alloc KB.out.size _)) (RdBs.oneAt (T := 22) R1.out (w.heap.size + 1) (by simp)) HL.out).mono ?_); rw [e1, ← HV.out]; intro e w3 h3; obtain ⟨A3, c3, rfl, r3, b3⟩ := new_len h3; rw [EL.out] at r3; rw [EL.out]; have R3 := Lib.hid r3; have B3 := Lib.hid ((KB.out.alloc KB.out.size (.cells #[.slice A n c] 22)).trans (b3.mono (by simp; omega))); have K3 := ((KK.out.alloc (.cells #[.slice A n c] 22)).below b3 (by simp; omega)).cell 1; have K3 : w3.cell? ⟨w.heap.size, 1, none⟩ = some (.int .i64 128) := K3; clear h3 r3 b3))
      | (at_make; (refine wpList_make_full _ rfl _ _ 22 rfl w.heap.size 5 i0 (.int .u8 0) 1 Tryd.underlying22 hi hz0 hz1 _ _ _ _ 128 rfl rfl rfl rfl (by rw [hz2]; decide) (by unfold maxLen; decide) B3.out.size ?_; intro w4 own4 g4; replace own4 := own_made own4; have N4 := Lib.hid (own_bk own4); have B4 := Lib.hid (B3.out.grown g4 B3.out.size (fun k h => by cases h)); have R4 := Lib.hid (Rd.apart R3.out g4 (fun a _ h => by cases h)); clear own4 g4 K3))
      | (refine wpList_copy_head rfl (.tmp 19) (.tmp 20) 22 22 rfl 5 Tryd.underlying22 (by kernel_rfl) w3.heap.size 128 128 A3 64 c3 V (List.replicate 128 0) rfl rfl R4.out (by decide) _ N4.out (by simp) ?_; intro w5 n5 g5))
    go_ret
    have hp : V ++ (List.replicate 128 0).drop 64 = padK 128 V := by
      unfold padK
      rw [EL.out, List.drop_replicate]
    rw [hp] at n5
    exact New.mk (bk_own n5 B3.out.size (padK_length _ _ (by rw [EL.out]; decide)) (by unfold maxLen; decide)) (below_only B4.out g5 B3.out.size B4.out.size)
  · have ek : keyK 1 key = key := by unfold keyK; rw [if_neg (by show ¬ 128 < _; omega)]
    have h64i : ¬ (128 : Int) < (n : Int) := by omega
    have K3 : (w.alloc (.cells (kA 64 128 31) 40)).cell? ⟨w.heap.size, 1, none⟩ = some (.int .i64 128) := KK.out.cell 1
    rw [ek]
    have HLL := Lib.hid hl
    clear hg hr ek hl
    go_enter Tryd.func23, Tryd.ntmps23
    go_wp2_with (first
      | (at_make; (refine wpList_make_full _ rfl _ _ 22 rfl w.heap.size 5 i0 (.int .u8 0) 1 Tryd.underlying22 hi hz0 hz1 _ _ _ _ 128 rfl rfl rfl rfl (by rw [hz2]; decide) (by unfold maxLen; decide) KB.out.size ?_; intro w4 own4 g4; replace own4 := own_made own4; have N4 := own_bk own4; rw [World.size_alloc] at N4; replace N4 := Lib.hid N4; have B4 := Lib.hid (KB.out.grown g4 KB.out.size (fun k h => by cases h)); have R4 := Lib.hid (Rd.apart R1.out g4 (fun a _ h => by cases h)); clear own4 g4 K3))
      | (refine wpList_copy_head rfl (.tmp 19) (.tmp 20) 22 22 rfl 5 Tryd.underlying22 (by kernel_rfl) (w.heap.size + 1) 128 128 A n c key (List.replicate 128 0) rfl rfl R4.out (by omega) _ N4.out (by simp) ?_; intro w5 n5 g5))
    go_ret
    have hp : key ++ (List.replicate 128 0).drop n = padK 128 key := by
      unfold padK
      rw [HLL.out, List.drop_replicate]
    rw [hp] at n5
    exact New.mk (bk_own n5 (by omega) (padK_length _ _ (by have := HLL.out; omega)) (by unfold maxLen; decide)) (below_only B4.out g5 (by omega) B4.out.size)
end Go.Proofs.YtjgcaodicbikiaaDoor.S6
