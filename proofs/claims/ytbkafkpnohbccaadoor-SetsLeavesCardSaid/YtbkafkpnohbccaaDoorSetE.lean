/-
  Two sets are compared; the first question of each statement of layer 8 answers true. No statement is proved here.
-/
import Derived.Test.YtbkafkpnohbccaaDoorSet
import Derived.Test.YtbkafkpnohbccaaDoorCel
import Derived.ChangeKeysEq
import Derived.RegionTactic
import Derived.Deep.QuietTactic
import Derived.BigQuiet
import Derived.Deep.Cut
namespace Go.Proofs.YtbkafkpnohbccaaDoor.S8
set_option linter.unusedSimpArgs false
set_option linter.unusedVariables false
open Go.RowKit S7

theorem part_int {T : TypeId} {k : IntKind} (hu : Tryd.prog.underlying T = some (.int k)) (cs : Array Value) (j : Nat) (n : Int) (h : cs[j]? = some (.int k n)) (W : World) : (part T cs j).run Tryd.prog W = .ok (.int k n) W := by
  simp [part, isAgg, run_underlying hu, h]
theorem eq_step (T : TypeId) (k : IntKind) (hu : Tryd.prog.underlying T = some (.int k)) (cs ds : Array Value) (j : Nat) (m n : Int) (fs : List Field) (f : Field) (h1 : f.type = T) (h2 : f.offset = j) (h3 : f.name ≠ "_") (h4 : cs[j]? = some (.int k m)) (h5 : ds[j]? = some (.int k n)) (W : World) :
    (Op.eqFields (9998 + 1) cs ds (f :: fs)).run Tryd.prog W = if (m == n) = true then (Op.eqFields (9998 + 1) cs ds fs).run Tryd.prog W else .ok false W := by
  subst h1 h2
  rw [Op.eqFields, if_pos h3]
  simp only [Sem.run_bind, part_int hu cs _ m h4 W, part_int hu ds _ n h5 W, Result.andThen_ok, run_equalIn_int W 9998 f.type k k m n hu]
  cases m == n <;> simp
set_option maxRecDepth 10000 in
theorem eql_ots (a b c d e f a' b' c' d' e' f' : Int) (W : World) : (binOp .eql 24 (otsV a b c d e f) (otsV a' b' c' d' e' f')).run Tryd.prog W = .ok (.bool (a == a' && b == b' && c == c' && d == d' && e == e' && f == f')) W := by
  unfold otsV
  rw [run_eql_struct W, show (10000 : Nat) = 9998 + 1 + 1 from rfl, run_equalIn_agg W (9998 + 1) 24 _ _ (by kernel_rfl) (by kernel_rfl)]
  simp only [Program.fieldsOf, Tryd.underlying24]
  rw [eq_step 22 .u32 Tryd.underlying22 _ _ 0 a a' _ _ rfl rfl (by decide) rfl rfl, eq_step 3 .i64 Tryd.underlying3 _ _ 1 b b' _ _ rfl rfl (by decide) rfl rfl, eq_step 3 .i64 Tryd.underlying3 _ _ 2 c c' _ _ rfl rfl (by decide) rfl rfl,
    eq_step 3 .i64 Tryd.underlying3 _ _ 3 d d' _ _ rfl rfl (by decide) rfl rfl, eq_step 3 .i64 Tryd.underlying3 _ _ 4 e e' _ _ rfl rfl (by decide) rfl rfl, eq_step 3 .i64 Tryd.underlying3 _ _ 5 f f' _ _ rfl rfl (by decide) rfl rfl]
  cases a == a' <;> cases b == b' <;> cases c == c' <;> cases d == d' <;> cases e == e' <;> cases f == f' <;> rfl
set_option maxRecDepth 10000 in
theorem eql_tree (a b c d a' b' c' d' : Int) (W : World) : (binOp .eql 26 (treeV a b c d) (treeV a' b' c' d')).run Tryd.prog W = .ok (.bool (a == a' && b == b' && c == c' && d == d')) W := by
  unfold treeV
  rw [run_eql_struct W, show (10000 : Nat) = 9998 + 1 + 1 from rfl, run_equalIn_agg W (9998 + 1) 26 _ _ (by kernel_rfl) (by kernel_rfl)]
  simp only [Program.fieldsOf, Tryd.underlying26]
  rw [eq_step 22 .u32 Tryd.underlying22 _ _ 0 a a' _ _ rfl rfl (by decide) rfl rfl, eq_step 3 .i64 Tryd.underlying3 _ _ 1 b b' _ _ rfl rfl (by decide) rfl rfl, eq_step 3 .i64 Tryd.underlying3 _ _ 2 c c' _ _ rfl rfl (by decide) rfl rfl,
    eq_step 3 .i64 Tryd.underlying3 _ _ 3 d d' _ _ rfl rfl (by decide) rfl rfl]
  cases a == a' <;> cases b == b' <;> cases c == c' <;> cases d == d' <;> rfl
theorem guard_ots (a b c d e f a' b' c' d' e' f' : Int) (x y : Operand) (W : World) : (eqGuard .eql 24 x y (otsV a b c d e f) (otsV a' b' c' d' e' f')).run Tryd.prog W = .ok () W := run_eqGuard_agg W _ _ _ _ _ _ (by kernel_rfl)
theorem guard_tree (a b c d a' b' c' d' : Int) (x y : Operand) (W : World) : (eqGuard .eql 26 x y (treeV a b c d) (treeV a' b' c' d')).run Tryd.prog W = .ok () W := run_eqGuard_agg W _ _ _ _ _ _ (by kernel_rfl)
theorem otsA_form (c : Nat) : ∃ x0 x1 x2 x3 x4 x5 : Int, otsA c = otsV x0 x1 x2 x3 x4 x5 := by
  unfold otsA
  split
  · exact ⟨_, _, _, _, _, _, rfl⟩
  · exact ⟨_, _, _, _, _, _, rfl⟩
theorem treeA_form (c : Nat) : ∃ x0 x1 x2 x3 : Int, treeA c = treeV x0 x1 x2 x3 := by
  unfold treeA
  split
  · exact ⟨_, _, _, _, rfl⟩
  · exact ⟨_, _, _, _, rfl⟩
theorem ots_3 : otsA 3 = .agg #[.int .u32 3, .int .i64 0, .int .i64 32, .int .i64 4, .int .i64 67, .int .i64 4] := by
  rw [otsA, if_pos (by decide), show oK 3 = 0 by decide +kernel, show oN 3 = 32 by decide +kernel, show oW 3 = 4 by decide +kernel, show oP 3 = 67 by decide +kernel, show oS 3 = 4 by decide +kernel]
  rfl
theorem ots_17 : otsA 17 = .agg #[.int .u32 0, .int .i64 0, .int .i64 0, .int .i64 0, .int .i64 0, .int .i64 0] := by rw [otsA, if_neg (by decide)]; rfl
theorem tree_5 : treeA 5 = .agg #[.int .u32 5, .int .i64 0, .int .i64 32, .int .i64 5] := by
  rw [treeA, if_pos (by decide), show tK 5 = 0 by decide +kernel, show tN 5 = 32 by decide +kernel, show tH 5 = 5 by decide +kernel]
  rfl
theorem tree_f2 : treeA 4026531842 = .agg #[.int .u32 4026531842, .int .i64 0, .int .i64 32, .int .i64 2] := by
  rw [treeA, if_pos (by decide), show tK 4026531842 = 0 by decide +kernel, show tN 4026531842 = 32 by decide +kernel, show tH 4026531842 = 2 by decide +kernel]
  rfl
set_option maxHeartbeats 4000000 in
theorem awake_true (M : SC) (w : World) (hk : M.ok w) : Calls Tryd.prog 8 #[] w fun e w' => e = .returned (.bool true) ∧ Below w.heap.size w w' := by
  have HK := Lib.hid hk
  have H3 := Lib.hid (show ∀ X, M.ok X → Calls Tryd.prog 9 #[.int .u32 3] X fun e w' => e = .returned (.tuple #[.agg #[.int .u32 3, .int .i64 0, .int .i64 32, .int .i64 4, .int .i64 67, .int .i64 4], .int .i64 0]) ∧ Below X.heap.size X w' from fun X g => by have h := M.ots 3 X (by omega) g; rw [ots_3] at h; exact h)
  have H17 := Lib.hid (show ∀ X, M.ok X → Calls Tryd.prog 9 #[.int .u32 17] X fun e w' => e = .returned (.tuple #[.agg #[.int .u32 0, .int .i64 0, .int .i64 0, .int .i64 0, .int .i64 0, .int .i64 0], .int .i64 4]) ∧ Below X.heap.size X w' from fun X g => by have h := M.ots 17 X (by omega) g; rw [ots_17] at h; exact h)
  have H5 := Lib.hid (show ∀ X, M.ok X → Calls Tryd.prog 11 #[.int .u32 5] X fun e w' => e = .returned (.tuple #[.agg #[.int .u32 5, .int .i64 0, .int .i64 32, .int .i64 5], .int .i64 0]) ∧ Below X.heap.size X w' from fun X g => by have h := M.tree 5 X (by omega) g; rw [tree_5] at h; exact h)
  have HF2 := Lib.hid (show ∀ X, M.ok X → Calls Tryd.prog 11 #[.int .u32 4026531842] X fun e w' => e = .returned (.tuple #[.agg #[.int .u32 4026531842, .int .i64 0, .int .i64 32, .int .i64 2], .int .i64 0]) ∧ Below X.heap.size X w' from fun X g => by have h := M.tree 4026531842 X (by omega) g; rw [tree_f2] at h; exact h)
  have HFT := Lib.hid (show ∀ X, M.ok X → Calls Tryd.prog 13 #[.agg #[.int .u32 3, .int .i64 0, .int .i64 32, .int .i64 4, .int .i64 67, .int .i64 4], .agg #[.int .u32 5, .int .i64 0, .int .i64 32, .int .i64 5]] X fun e w' => e = .returned (.bool true) ∧ Below X.heap.size X w' from fun X g => M.fit 3 0 32 4 67 4 5 0 32 5 X g)
  have HLV := Lib.hid (show ∀ X, M.ok X → Calls Tryd.prog 14 #[.agg #[.int .u32 5, .int .i64 0, .int .i64 32, .int .i64 5]] X fun e w' => e = .returned (.int .u64 32) ∧ Below X.heap.size X w' from fun X g => M.leaves 5 0 32 5 X g)
  have HOC := Lib.hid (fun X g => M.otsC X g)
  have HTC := Lib.hid (fun X g => M.treeC X g)
  have L1 := Lib.hid (show otsL.length = 16 by decide)
  have L2 := Lib.hid (show treeL.length = 36 by decide)
  clear hk
  obtain ⟨cO, hcO⟩ : ∃ c, c = #[Value.int .u32 3, .int .i64 0, .int .i64 32, .int .i64 4, .int .i64 67, .int .i64 4] := ⟨_, rfl⟩
  obtain ⟨cT, hcT⟩ : ∃ c, c = #[Value.int .u32 5, .int .i64 0, .int .i64 32, .int .i64 5] := ⟨_, rfl⟩
  obtain ⟨cU, hcU⟩ : ∃ c, c = #[Value.int .u32 4026531842, .int .i64 0, .int .i64 32, .int .i64 2] := ⟨_, rfl⟩
  have CO := Lib.hid hcO
  have CT := Lib.hid hcT
  have CU := Lib.hid hcU
  clear hcO hcT hcU
  go_enter Tryd.func8, Tryd.ntmps8
  go_upto_region 5 with (first
    | (go_at_call 9; ((with_reducible refine (H3.out _ HK.out).mono ?_); rintro e w1 ⟨rfl, b1⟩; have B1 := Lib.hid b1; have O1 := Lib.hid (show Bk (w1.alloc (.cells #[Value.int .u32 3, .int .i64 0, .int .i64 32, .int .i64 4, .int .i64 67, .int .i64 4] 24)) w1.heap.size 24 cO by rw [CO.out]; exact Bk.new _ _ _); clear b1))
    | (go_at_call 11; ((with_reducible refine (H5.out _ (M.bel HK.out (B1.out.alloc B1.out.size _))).mono ?_); rintro e w2 ⟨rfl, b2⟩; have B2 := Lib.hid ((B1.out.alloc B1.out.size _).trans (b2.mono (by have := B1.out.size; simp; omega))); have O2 := Lib.hid (O1.out.below b2 O1.out.lt); have T2 := Lib.hid (show Bk (w2.alloc (.cells #[Value.int .u32 5, .int .i64 0, .int .i64 32, .int .i64 5] 26)) w2.heap.size 26 cT by rw [CT.out]; exact Bk.new _ _ _); clear b2))
    | (go_at_call 11; ((with_reducible refine (HF2.out _ (M.bel HK.out (B2.out.alloc B2.out.size _))).mono ?_); rintro e w3 ⟨rfl, b3⟩; have B3 := Lib.hid ((B2.out.alloc B2.out.size _).trans (b3.mono (by have := B2.out.size; simp; omega))); have O3 := Lib.hid ((O2.out.alloc _).below b3 (O2.out.alloc _).lt); have T3 := Lib.hid (T2.out.below b3 T2.out.lt); have U3 := Lib.hid (show Bk (w3.alloc (.cells #[Value.int .u32 4026531842, .int .i64 0, .int .i64 32, .int .i64 2] 26)) w3.heap.size 26 cU by rw [CU.out]; exact Bk.new _ _ _); clear b3))
    | (go_at_call 9; ((with_reducible refine (H17.out _ (M.bel HK.out (B3.out.alloc B3.out.size _))).mono ?_); rintro e w4 ⟨rfl, b4⟩; have B4 := Lib.hid ((B3.out.alloc B3.out.size _).trans (b4.mono (by have := B3.out.size; simp; omega))); have O4 := Lib.hid ((O3.out.alloc _).below b4 (O3.out.alloc _).lt); have T4 := Lib.hid ((T3.out.alloc _).below b4 (T3.out.alloc _).lt); have U4 := Lib.hid (U3.out.below b4 U3.out.lt); clear b4)))
  obtain ⟨w5, hw5⟩ : ∃ w5, w4.alloc (.cells #[Value.int .u32 0, .int .i64 0, .int .i64 0, .int .i64 0, .int .i64 0, .int .i64 0] 24) = w5 := ⟨_, rfl⟩
  have O5 := O4.out.alloc (.cells #[Value.int .u32 0, .int .i64 0, .int .i64 0, .int .i64 0, .int .i64 0, .int .i64 0] 24)
  have T5 := T4.out.alloc (.cells #[Value.int .u32 0, .int .i64 0, .int .i64 0, .int .i64 0, .int .i64 0, .int .i64 0] 24)
  have U5 := U4.out.alloc (.cells #[Value.int .u32 0, .int .i64 0, .int .i64 0, .int .i64 0, .int .i64 0, .int .i64 0] 24)
  have B5 := Lib.hid (B4.out.alloc B4.out.size (.cells #[Value.int .u32 0, .int .i64 0, .int .i64 0, .int .i64 0, .int .i64 0, .int .i64 0] 24))
  rw [hw5] at O5 T5 U5 B5 ⊢
  rw [CO.out] at O5
  rw [CT.out] at T5
  rw [CU.out] at U5
  have o0 := O5.cell 0
  have o1 := O5.cell 1
  have o2 := O5.cell 2
  have o3 := O5.cell 3
  have o4 := O5.cell 4
  have o5 := O5.cell 5
  have t0 := T5.cell 0
  have t1 := T5.cell 1
  have t2 := T5.cell 2
  have t3 := T5.cell 3
  have u3 := U5.cell 3
  simp at o0 o1 o2 o3 o4 o5 t0 t1 t2 t3 u3
  have HT5 := Lib.hid T5
  clear hw5 O5 T5 U5 B1 B2 B3 B4 O1 O2 O3 O4 T2 T3 T4 U3 U4
  go_wp2_with (first
    | (go_at_call 13; ((with_reducible refine (HFT.out _ (M.bel HK.out B5.out)).mono ?_); rintro e w6 ⟨rfl, b6⟩; have B6 := Lib.hid (B5.out.trans (b6.mono B5.out.size)); have T6 := HT5.out.below b6 HT5.out.lt; have y0 := T6.cell 0; have y1 := T6.cell 1; have y2 := T6.cell 2; have y3 := T6.cell 3; simp at y0 y1 y2 y3; clear b6 T6))
    | (go_at_call 14; ((with_reducible refine (HLV.out _ (M.bel HK.out B6.out)).mono ?_); rintro e w7 ⟨rfl, b7⟩; have B7 := Lib.hid (B6.out.trans (b7.mono B6.out.size)); clear b7))
    | (go_at_call 16; ((with_reducible refine (HOC.out _ (M.bel HK.out B7.out)).mono ?_); intro e w8 h8; obtain ⟨A8, c8, rfl, r8, b8⟩ := h8; rw [L1.out]; have B8 := Lib.hid (B7.out.trans (b8.mono B7.out.size)); clear b8 r8))
    | (go_at_call 17; ((with_reducible refine (HTC.out _ (M.bel HK.out B8.out)).mono ?_); intro e w9 h9; obtain ⟨A9, c9, rfl, r9, b9⟩ := h9; rw [L2.out]; have B9 := Lib.hid (B8.out.trans (b9.mono B8.out.size)); clear b9 r9)))
  go_ret
  exact ⟨rfl, B9.out⟩
end Go.Proofs.YtbkafkpnohbccaaDoor.S8
