/-
  append of made bytes, 'append(s, make([]byte, k)...)', to a row of the call's own. No statement is proved here.
-/
import Derived.Test.YtjgcaodicbikiaaDoorRPut
import Derived.Lib.AppendZerosOnto
namespace Go.Proofs.YtjgcaodicbikiaaDoor
set_option linter.unusedSimpArgs false
set_option linter.unusedVariables false
open Go.RowKit

theorem zeros_list (k : Nat) : (Builtin.zeroCells (Value.cells (.int .u8 0)) k).toList = bv (List.replicate k 0) := by
  apply List.ext_getElem?
  intro i
  simp only [Builtin.zeroCells, Value.cells, bv, Array.toList_map, Array.toList_range, List.getElem?_map, List.map_replicate]
  by_cases h : i < k
  · simp [h, Nat.mod_one]
  · rw [List.getElem?_eq_none (by simp; omega), List.getElem?_eq_none (by simp; omega)]
    rfl
theorem zeros_one (k : Nat) : ∀ u ∈ bv (List.replicate k 0), u.oneCell' = true := bv_one _
theorem run_append_zeros (w : World) (base : Nat) (v : Value) (n : Nat) (xs : List UInt8) (ty : TypeId) (hown : w.ownsRow base 5 1 v n (bv xs)) (k : Nat) (hb : n + k ≤ 1000000) (hbase : base ≤ w.heap.size) :
    ∃ v' w', (Builtin.append_ #[22, 3] ty #[v, .int .i64 (k : Int)]).run Tryd.prog w = .ok v' w' ∧ w'.ownsRow base 5 1 v' (n + k) (bv (xs ++ List.replicate k 0)) ∧ w.grownBy w' v.ownBlock := by
  obtain ⟨i0, hi, hz0, hz1, hz2⟩ := info_parts Tryd.infoU8
  have ht := Tryd.underlying22
  have htn := Tryd.underlying3
  have hw : IntKind.i64.wrap (k : Int) = k := by rw [IntKind.wrap_i64]; omega
  have hxl := own_len hown
  have grown : ∀ old : Nat, old < n + k → ∀ row : Option Nat,
      (w.drew.alloc (.cells ((bv xs).toArray ++ Builtin.zeroCells (Value.cells (.int .u8 0)) k ++ Builtin.zeroCells (Value.cells (.int .u8 0)) (grownCap w (n + k) old 5 - (n + k))) 5)).ownsRow base 5 1
        (.slice (some ⟨w.heap.size, 0, none⟩) (n + k) (grownCap w (n + k) old 5)) (n + k) (bv (xs ++ List.replicate k 0)) ∧
      w.grownBy (w.drew.alloc (.cells ((bv xs).toArray ++ Builtin.zeroCells (Value.cells (.int .u8 0)) k ++ Builtin.zeroCells (Value.cells (.int .u8 0)) (grownCap w (n + k) old 5 - (n + k))) 5)) row := by
    intro old ho row
    have hge := grownCap_ge w (n + k) old 5
    have hcm : grownCap w (n + k) old 5 ≤ maxLen := grownCap_le_maxLen w (n + k) old _ (by simp only [maxLen]; omega)
    refine ⟨⟨by simp [bv_length, hxl], .inr ⟨w.heap.size, _, _, rfl, hbase, heap_alloc_new w.drew _, hge, hcm, ?_, ?_⟩⟩, ⟨rfl, rfl, rfl, by simp, fun j hj _ => heap_alloc_old w.drew _ hj⟩⟩
    · simp only [Array.size_append, List.size_toArray, size_zeroCells, bv_length, hxl, Value.cells, List.size_toArray, List.length_cons, List.length_nil]
      omega
    · simp only [Array.toList_append, zeros_list, List.append_assoc]
      rw [← List.append_assoc, ← bv_append]
      rw [List.take_append_of_le_length (by simp [bv_length, hxl])]
      exact List.take_of_length_le (by simp [bv_length, hxl])
  rcases hown.2 with ⟨rfl, rfl⟩ | ⟨g, cap, cur, rfl, hbg, hg, hnc, hcm, hcs, htake⟩
  · obtain rfl : xs = [] := List.eq_nil_of_length_eq_zero hxl
    by_cases hk : k = 0
    · subst hk
      refine ⟨.slice none 0 0, w, ?_, World.ownsRow_nil _ _ _ _, World.grownBy.refl _ _⟩
      simp [Builtin.append_, run_underlying ht, run_underlying htn, sizeOf, typeInfo, hi, asInt, asIntOf, hw, hz1, hz2, Builtin.firstCells, loadCells, loadCellsFrom, IntKind.wrap_i64]
    · have hr := Lib.run_append_grow_zeros (P := Tryd.prog) w 22 3 ty 5 i0 (.int .u8 0) .i64 _ ht htn hi hz0 none 0 0 [] (by simp [Builtin.firstCells]) k (by omega) (by rw [hz1]; omega) (by omega) (by omega) (by rw [hz2]; omega) (growslice_fits (by omega) (by rw [hz2]; omega))
      have hgr := grown 0 (by omega) (Value.ownBlock (.slice none 0 0))
      simp only [Nat.zero_add] at hgr ⊢
      exact ⟨_, _, by simpa using hr, by simpa [bv] using hgr.1, by simpa [bv] using hgr.2⟩
  · have holds : ∀ j u, (bv xs)[j]? = some u → w.cell? ((⟨g, 0, none⟩ : Addr).add j) = some u := hown.cells (g := g) rfl
    have hcs' : cur.size = cap := by simpa using hcs
    have htk : cur.toList.take n = bv xs := by simpa using htake
    by_cases hroom : n + k ≤ cap
    · by_cases hk : k = 0
      · subst hk
        refine ⟨.slice (some ⟨g, 0, none⟩) n cap, w, ?_, by simpa using hown, World.grownBy.refl _ _⟩
        simp [Builtin.append_, run_underlying ht, run_underlying htn, sizeOf, typeInfo, hi, asInt, asIntOf, hw, hz1, hz2, IntKind.wrap_i64, hnc, storeCells]
      · have hns : ¬ k * i0.size = 0 := by rw [hz1]; omega
        have hneg : ¬ ((k : Int) < 0) := by omega
        have h48i : ¬ (281474976710656 < (k : Int) * (i0.bytes : Int)) := by rw [hz2]; omega
        have hst := run_storeCells_at Tryd.prog g n 5 (bv (List.replicate k 0)) 0 cur w hg (by simp [bv_length, hcs']; omega) (zeros_one k)
        simp only [Nat.add_zero] at hst
        refine ⟨.slice (some ⟨g, 0, none⟩) (n + k) cap, w.setRow g (cur.toList.take n ++ bv (List.replicate k 0) ++ cur.toList.drop (n + (bv (List.replicate k 0)).length)).toArray, ?_, ⟨by simp [bv_length, hxl], .inr ⟨g, cap, _, rfl, hbg, setRow_heap w g cur _ 5 _ hg, hroom, hcm, ?_, ?_⟩⟩, ⟨rfl, rfl, rfl, by simp, fun j _ hj => setRow_other w g j _ (fun e => hj (by simp [Value.ownBlock, e]))⟩⟩
        · simp [Builtin.append_, run_underlying ht, run_underlying htn, sizeOf, typeInfo, zeroValue, hi, hz0, asInt, asIntOf, hw, hns, hneg, h48i, hroom, hz1, Addr.add_lit, zeros_list, hst]
          exact fun h => absurd h hk
        · simp [bv_length]
          omega
        · rw [htk, bv_append, Nat.mul_one]
          rw [List.take_append_of_le_length (by simp [bv_length, hxl])]
          exact List.take_of_length_le (by simp [bv_length, hxl])
    · have hr := Lib.run_append_grow_zeros (P := Tryd.prog) w 22 3 ty 5 i0 (.int .u8 0) .i64 _ ht htn hi hz0 (some ⟨g, 0, none⟩) n cap (bv xs) (run_firstCells_some (P := Tryd.prog) w.drew i0.size n ⟨g, 0, none⟩ n cap (bv xs) (by rw [hz1, bv_length, hxl, Nat.mul_one]) holds) k (by omega) (by rw [hz1]; omega) (by omega) (by omega) (by rw [hz2]; omega) (growslice_fits (by omega) (by rw [hz2]; omega))
      have hgr := grown cap (by omega) (Value.ownBlock (.slice (some ⟨g, 0, none⟩) n cap))
      exact ⟨_, _, hr, hgr.1, hgr.2⟩
/-- 'append(s, make([]byte, k)...)' in a walk. -/
theorem append_zr {w : World} {ops : Array Oper} {rest : List Oper} {o : Oper} {a : Act} {Q : Exit → Act → World → Prop} (hgd : o.guard = none) (s x : Operand)
    (ho : o.op = .call { callee := .builtin .append, args := #[s, x], argTypes := #[22, 3] })
    (base : Nat) (v : Value) (n : Nat) (xs : List UInt8) (hs : a.eval s = v) (hown : w.ownsRow base 5 1 v n (bv xs)) (k : Nat) (hx : a.eval x = .int .i64 (k : Int)) (hb : n + k ≤ 1000000) (hbase : base ≤ w.heap.size)
    (h : ∀ v' w', w'.ownsRow base 5 1 v' (n + k) (bv (xs ++ List.replicate k 0)) → w.grownBy w' v.ownBlock → wpList Tryd.prog ops Q rest (a.put o.dst v') w') : wpList Tryd.prog ops Q (o :: rest) a w := by
  obtain ⟨v', w', hr, h1, h2⟩ := run_append_zeros w base v n xs o.type hown k hb hbase
  exact Lib.wpList_append_run w hgd s x _ _ ho _ _ hs hx v' w' hr (h v' w' h1 h2)
end Go.Proofs.YtjgcaodicbikiaaDoor
