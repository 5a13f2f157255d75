/-
  What the landed digits' small calls do: May, greatest; the library's Len. No statement is proved here.
-/
import Derived.Test.YtccnbepccajdoaaDoorDigC
import Derived.Lib.BitFns
namespace Go.Proofs.YtccnbepccajdoaaDoor.S7
set_option linter.unusedSimpArgs false
set_option linter.unusedVariables false
set_option maxRecDepth 1024
open Go.RowKit

/-- The table of widths lies in its variable. -/
def WOk (w : World) : Prop := ∀ i, i < 4 → w.cell? ⟨4, i, none⟩ = some (.int .i64 (([1, 2, 4, 8] : List Int).getD i 0)) ∧ 4 < w.heap.size
theorem WOk.below {w w' : World} (h : WOk w) (hb : Below w.heap.size w w') : WOk w' := fun i hi => ⟨(hb.cell (h i hi).2).trans (h i hi).1, Nat.lt_of_lt_of_le (h i hi).2 hb.size⟩
theorem run_index_agg {P : Program} {T e : TypeId} {n : Nat} (hT : P.underlying T = some (.array n e)) (he : (P.info? e).map (·.size) = some 1) {ke : IntKind} (hu : P.underlying e = some (.int ke)) (cs : Array Value) (k : IntKind) (i : Int) (h0 : 0 ≤ i) (h1 : i < n) (v : Value) (hi : cs[i.toNat]? = some v)
    (h1v : v.oneCell' = true) (W : World) : (Instr.index T (.agg cs) (.int k i)).run P W = .ok v W := by
  cases hq : P.info? e with
  | none => simp [hq] at he
  | some i0 =>
    have hs : i0.size = 1 := by simpa [hq] using he
    simp [Instr.index, asIntOf, run_underlying hT, run_underlying hu, h0, h1, part, isAgg, sizeOf, typeInfo, hq, hs, hi]
theorem may_none {w : Int} (h : mayB w = false) : w ≠ 1 ∧ w ≠ 2 ∧ w ≠ 4 ∧ w ≠ 8 := by
  simp only [mayB, Bool.or_eq_false_iff, beq_eq_false_iff_ne] at h
  exact ⟨h.1.1.1, h.1.1.2, h.1.2, h.2⟩
theorem tab_mem (k : Nat) (hk : k < 4) : mayB (([1, 2, 4, 8] : List Int).getD k 0) = true := by
  obtain rfl | rfl | rfl | rfl : k = 0 ∨ k = 1 ∨ k = 2 ∨ k = 3 := by omega
  all_goals decide
theorem may_any (w : Int) (W : World) (h : WOk W) : Calls Tryd.prog 53 #[.int .i64 w] W fun e W' => e = .returned (.bool (mayB w)) ∧ W = W' := by
  have c0 := (h 0 (by omega)).1
  have c1 := (h 1 (by omega)).1
  have c2 := (h 2 (by omega)).1
  have c3 := (h 3 (by omega)).1
  have hd : ([1, 2, 4, 8] : List Int).getD 0 0 = 1 ∧ ([1, 2, 4, 8] : List Int).getD 1 0 = 2 ∧ ([1, 2, 4, 8] : List Int).getD 2 0 = 4 ∧ ([1, 2, 4, 8] : List Int).getD 3 0 = 8 := by decide
  rw [hd.1] at c0
  rw [hd.2.1] at c1
  rw [hd.2.2.1] at c2
  rw [hd.2.2.2] at c3
  obtain ⟨R, hR⟩ : ∃ R, R = mayB w := ⟨_, rfl⟩
  rw [← hR]
  have HR := Lib.hid hR
  clear hd h hR
  go_enter Tryd.func53, Tryd.ntmps53
  go_wp2
  go_loopw [6] (fun i wr => ∃ k : Nat, k ≤ 4 ∧ i = .int .i64 (k : Int) ∧ W = wr ∧ Hid (∀ j, j < k → w ≠ ([1, 2, 4, 8] : List Int).getD j 0)) (fun i _ => 4 - (intOf i).toNat)
  case atStart => exact ⟨0, Nat.zero_le _, rfl, rfl, Lib.hid (fun j hj => absurd hj (by omega))⟩
  case round =>
    obtain ⟨k, hk, rfl, rfl, hn⟩ := hrel
    by_cases hlt : k < 4
    · have i1 : (k : Int) < 4 := by omega
      obtain ⟨X, hX⟩ : ∃ X, X = ([1, 2, 4, 8] : List Int).getD k 0 := ⟨_, rfl⟩
      have HX := Lib.hid hX
      have hrun := fun W => run_index_agg (P := Tryd.prog) (T := 90) Tryd.underlying90 (by kernel_rfl) Tryd.underlying3 #[.int .i64 1, .int .i64 2, .int .i64 4, .int .i64 8] .i64 (k : Int) (by omega) (by omega) (.int .i64 X) (by
        rw [Int.toNat_natCast, hX]
        obtain rfl | rfl | rfl | rfl : k = 0 ∨ k = 1 ∨ k = 2 ∨ k = 3 := by omega
        all_goals rfl) rfl W
      clear hX
      by_cases he : w = X
      · subst he
        have HE := Lib.hid (show mayB w = true by rw [HX.out]; exact tab_mem k hlt)
        go_wp2
        go_ret
        exact ⟨by rw [HR.out, HE.out]; rfl, rfl⟩
      · go_wp2
        go_roundw
        case rel => exact ⟨k + 1, by omega, by go_num, trivial, Lib.hid (fun j hj => by
          by_cases hjk : j < k
          · exact hn.out j hjk
          · obtain rfl : j = k := by omega
            rw [← HX.out]; exact he)⟩
        case measure => simp [intOf]; omega
    · obtain rfl : k = 4 := by omega
      have i1 : ¬ (4 : Int) < 4 := by omega
      have HF := Lib.hid (show mayB w = false by
        have h9 := hn.out
        have e0 := h9 0 (by omega)
        have e1 := h9 1 (by omega)
        have e2 := h9 2 (by omega)
        have e3 := h9 3 (by omega)
        simp at e0 e1 e2 e3
        simp [mayB, e0, e1, e2, e3])
      go_wp2
      go_ret
      exact ⟨by rw [HR.out, HF.out]; rfl, rfl⟩
theorem great_any (v : Nat) (hv : wid v) (W : World) : Calls Tryd.prog 54 #[.int .i64 (v : Int)] W fun e W' => e = .returned (.int .i64 ((2 ^ v - 1 : Nat) : Int)) ∧ W = W' := by
  rcases hv with rfl | rfl | rfl | rfl <;>
  · go_enter Tryd.func54, Tryd.ntmps54
    go_wp2_with (simp only [↓fold8])
    go_ret
    exact ⟨rfl, rfl⟩
set_option maxRecDepth 100000 in
theorem fold8 : (⟨((([0, 1, 2, 2, 3, 3, 3, 3, 4, 4, 4, 4, 4, 4, 4, 4, 5, 5, 5, 5, 5, 5, 5, 5, 5, 5, 5, 5, 5, 5, 5, 5, 6, 6, 6, 6, 6, 6, 6, 6, 6, 6, 6, 6, 6, 6, 6, 6, 6, 6, 6, 6, 6, 6, 6, 6, 6, 6, 6, 6, 6, 6, 6, 6] : List UInt8).append [7, 7, 7, 7, 7, 7, 7, 7, 7, 7, 7, 7, 7, 7, 7, 7, 7, 7, 7, 7, 7, 7, 7, 7, 7, 7, 7, 7, 7, 7, 7, 7, 7, 7, 7, 7, 7, 7, 7, 7, 7, 7, 7, 7, 7, 7, 7, 7, 7, 7, 7, 7, 7, 7, 7, 7, 7, 7, 7, 7, 7, 7, 7, 7]).append (([8, 8, 8, 8, 8, 8, 8, 8, 8, 8, 8, 8, 8, 8, 8, 8, 8, 8, 8, 8, 8, 8, 8, 8, 8, 8, 8, 8, 8, 8, 8, 8, 8, 8, 8, 8, 8, 8, 8, 8, 8, 8, 8, 8, 8, 8, 8, 8, 8, 8, 8, 8, 8, 8, 8, 8, 8, 8, 8, 8, 8, 8, 8, 8] : List UInt8).append [8, 8, 8, 8, 8, 8, 8, 8, 8, 8, 8, 8, 8, 8, 8, 8, 8, 8, 8, 8, 8, 8, 8, 8, 8, 8, 8, 8, 8, 8, 8, 8, 8, 8, 8, 8, 8, 8, 8, 8, 8, 8, 8, 8, 8, 8, 8, 8, 8, 8, 8, 8, 8, 8, 8, 8, 8, 8, 8, 8, 8, 8, 8, 8])).toArray⟩ : ByteArray) = Lib.len8tab := rfl

set_option maxHeartbeats 4000000 in
set_option maxRecDepth 100000 in
theorem len64_any (X : Nat) (hX : X < 65536) (W : World) : Calls Tryd.prog 57 #[.int .u64 (X : Int)] W fun e W' => e = .returned (.int .i64 ((Lib.bitLen X : Nat) : Int)) ∧ W = W' := by
  have h1 : ¬ (4294967296 : Int) ≤ (X : Int) := by omega
  have h2 : ¬ (65536 : Int) ≤ (X : Int) := by omega
  by_cases h3 : X < 256
  · have h4 : ¬ (256 : Int) ≤ (X : Int) := by omega
    have hrun := fun W => Lib.run_index_len8tab (P := Tryd.prog) W 9 .u8 (X : Int) Tryd.underlying9 (by omega) (by omega)
    have e1 : Lib.len8 (X : Int) = ((Lib.bitLen X : Nat) : Int) := by rw [Lib.len8_of _ (by omega) (by omega), Int.toNat_natCast]
    have hB : Lib.bitLen X ≤ 8 := by
      have := Lib.bitLen_le8' (X : Int) (by omega) (by omega)
      rwa [Int.toNat_natCast] at this
    rw [e1] at hrun
    obtain ⟨B, hB0⟩ : ∃ B, B = Lib.bitLen X := ⟨_, rfl⟩
    rw [← hB0] at hrun hB ⊢
    clear e1 hB0
    refine calls_of_wp Tryd.func57 rfl ?_
    rw [fold8]
    obtain ⟨T, hT⟩ : ∃ T, T = Lib.len8tab := ⟨_, rfl⟩
    rw [← hT] at hrun ⊢
    clear hT
    simp only [Tryd.ntmps57, List.size_toArray, List.length_cons, List.length_nil, Nat.reduceAdd, Nat.reduceSub, Array.replicate_succ, Array.replicate_zero, List.push_toArray, List.append_toArray, List.nil_append, List.cons_append]
    go_wp2
    go_ret
    exact ⟨rfl, rfl⟩
  · have h4 : (256 : Int) ≤ (X : Int) := by omega
    obtain ⟨Y, hY⟩ : ∃ Y, Y = X / 256 := ⟨_, rfl⟩
    have hrun := fun W => Lib.run_index_len8tab (P := Tryd.prog) W 9 .u8 (Y : Int) Tryd.underlying9 (by omega) (by omega)
    have e1 : Lib.len8 (Y : Int) = ((Lib.bitLen Y : Nat) : Int) := by rw [Lib.len8_of _ (by omega) (by omega), Int.toNat_natCast]
    have e2 : Lib.bitLen X = 8 + Lib.bitLen Y := by rw [hY]; exact Lib.bitLen_shift8 X (by omega) (by omega)
    have hB : Lib.bitLen Y ≤ 8 := by
      have := Lib.bitLen_le8' (Y : Int) (by omega) (by omega)
      rwa [Int.toNat_natCast] at this
    rw [e1] at hrun
    rw [e2]
    obtain ⟨B, hB0⟩ : ∃ B, B = Lib.bitLen Y := ⟨_, rfl⟩
    rw [← hB0] at hrun hB ⊢
    have y1 : (X : Int) / 256 = (Y : Int) := by omega
    have y2 : Y < 256 := by omega
    clear e1 hB0 e2 hY
    refine calls_of_wp Tryd.func57 rfl ?_
    rw [fold8]
    obtain ⟨T, hT⟩ : ∃ T, T = Lib.len8tab := ⟨_, rfl⟩
    rw [← hT] at hrun ⊢
    clear hT
    simp only [Tryd.ntmps57, List.size_toArray, List.length_cons, List.length_nil, Nat.reduceAdd, Nat.reduceSub, Array.replicate_succ, Array.replicate_zero, List.push_toArray, List.append_toArray, List.nil_append, List.cons_append]
    go_wp2
    go_ret
    exact ⟨by go_num, rfl⟩
theorem len_any (X : Nat) (hX : X < 65536) (W : World) : Calls Tryd.prog 55 #[.int .u64 (X : Int)] W fun e W' => e = .returned (.int .i64 ((Lib.bitLen X : Nat) : Int)) ∧ W = W' := by
  obtain ⟨B, hB0⟩ : ∃ B, B = Lib.bitLen X := ⟨_, rfl⟩
  have HL := Lib.hid (fun W => len64_any X hX W)
  rw [← hB0] at HL ⊢
  clear hB0
  go_enter Tryd.func55, Tryd.ntmps55
  go_wp2_with (go_at_call 57; ((with_reducible refine (HL.out _).mono ?_); rintro e w1 ⟨rfl, rfl⟩))
  go_ret
  exact ⟨rfl, rfl⟩
end Go.Proofs.YtccnbepccajdoaaDoor.S7
