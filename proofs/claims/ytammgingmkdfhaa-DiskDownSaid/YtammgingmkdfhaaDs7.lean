/-
  What the landed disk.New does. No statement is proved here.
-/
import Derived.Test.YtammgingmkdfhaaDs6
import Derived.Test.YtammgingmkdfhaaDk8
import Derived.Deep.RegionHeld3
namespace Go.Proofs.Ytammgingmkdfhaa.S19
set_option linter.unusedSimpArgs false
set_option linter.unusedVariables false
set_option maxRecDepth 8192
open Go.RowKit

theorem Try.infoSec : (Try.prog.info? 68).map (fun i => (i.zero, i.size, i.bytes)) = some (some (.agg (Array.replicate 64 (.int .u8 0))), 64, 64) := by kernel_rfl
theorem made_sectors (n : Nat) : madeCells (Value.agg (Array.replicate 64 (.int .u8 0))).cells (n * 64) = (rowsV (List.replicate n (List.replicate 64 0))).toArray := by
  rw [rowsV_zero]
  apply Array.ext'
  simp only [madeCells, Value.cells]
  rw [List.eq_replicate_iff]
  refine ⟨by simp; omega, fun b hb => ?_⟩
  simp at hb
  obtain ⟨x, hx, rfl⟩ := hb
  have : x % 64 < 64 := Nat.mod_lt _ (by decide)
  simp [this]
theorem run_make_sec (n : Nat) (hn : n ≤ 256) (w : World) : (Instr.makeSlice 62 (.int .i64 (n : Int)) (.int .i64 (n : Int))).run Try.prog w =
    .ok (.slice (some ⟨w.heap.size, 0, none⟩) n n) (w.alloc (.cells (rowsV (List.replicate n (List.replicate 64 0))).toArray 68)) := by
  obtain ⟨i0, hi, hz0, hz1, hz2⟩ := info_parts Try.infoSec
  have hr := run_makeSlice (P := Try.prog) (w := w) 62 68 i0 _ Try.underlying62 hi hz0 .i64 .i64 (n : Int) (n : Int) (by omega) (Int.le_refl _) (by rw [hz1]; simp; omega) (by rw [hz2]; omega) (by omega)
  simp only [Int.toNat_natCast] at hr
  rw [hz1, made_sectors] at hr
  exact hr
theorem new_fin (N : Nat) (w X : World) (k sb nb g g3 : Nat) (hN : N ≤ w.heap.size) (h1 : 1 ≤ k) (h2 : k ≤ 256) (hb : Below w.heap.size w X) (b1 : w.heap.size ≤ g3) (b2 : g3 < sb) (b3 : g3 < nb) (b4 : sb ≠ nb) (b5 : sb < g) (b6 : nb < g)
    (hs : Bk X sb 68 (rowsV (List.replicate k (List.replicate 64 0))).toArray) (hn : Bk X nb 68 (rowsV (List.replicate k (List.replicate 64 0))).toArray)
    (hg : Bk X g 65 #[.slice (some ⟨sb, 0, none⟩) k k, .slice (some ⟨nb, 0, none⟩) k k, .slice none 0 0, .int .i64 0, .slice none 0 0, .int .i64 0, .bool false]) :
    ∃ g' F, Ending.returned (Value.tuple #[.pointer (some ⟨g, 0, none⟩), .int .i64 0]) = .returned (.tuple #[.pointer (some ⟨g', 0, none⟩), .int .i64 0]) ∧ Kn N (X.setCell ⟨g3, 0, none⟩ (.int .i64 0)) g' (Dk.new k) F ∧ (∀ b, F b → w.heap.size ≤ b) ∧ Below w.heap.size w (X.setCell ⟨g3, 0, none⟩ (.int .i64 0)) := by
  have g1 := hg.lt
  refine ⟨g, fun b => b = g ∨ b = sb ∨ b = nb, rfl, ⟨Dk.new_ok h1 h2, ⟨sb, nb, .slice none 0 0, none, 0, 0, []⟩, ?_, ?_⟩, ?_, hb.setCell b1 _⟩
  · have e : (Dk.new k).sure.length = k := by simp [Dk.new]
    rw [e]
    exact hg.far (show g ≠ g3 by omega) _
  · refine ⟨hs.far (show sb ≠ g3 by omega) _, hn.far (show nb ≠ g3 by omega) _, ⟨rfl, .inl ⟨rfl, rfl⟩⟩, RI.nil_ _ _, Nat.zero_le _, fun z => Iff.rfl, List.Pairwise.nil, .inl rfl, .inr (.inl rfl), .inr (.inr rfl), fun b h => absurd h (by simp [Value.ownBlock]), fun a h => absurd h (Nat.lt_irrefl 0), fun b h => ?_, (show g ≠ sb by omega), (show g ≠ nb by omega), b4, fun b h => absurd h (by simp [Value.ownBlock]), fun a h => absurd h (Nat.lt_irrefl 0)⟩
    have : (X.setCell ⟨g3, 0, none⟩ (.int .i64 0)).heap.size = X.heap.size := by simp
    rw [this]
    omega
  · intro b h
    omega
set_option maxHeartbeats 4000000 in
theorem new_any (N : Nat) (w : World) (k : Nat) (hN : N ≤ w.heap.size) (h1 : 1 ≤ k) (h2 : k ≤ 256) :
    Calls Try.prog 9 #[.int .i64 (k : Int)] w fun e w' => ∃ g F, e = .returned (.tuple #[.pointer (some ⟨g, 0, none⟩), .int .i64 0]) ∧ Kn N w' g (Dk.new k) F ∧ (∀ b, F b → w.heap.size ≤ b) ∧ Below w.heap.size w w' := by
  have hmf : ∀ (fn : Fn) (first cap : Array Value) (w : World), (Instr.makeFunc fn first cap).run Try.prog w = .ok (.func fn first cap) w := fun _ _ _ _ => rfl
  have HN := Lib.hid (fun X => LV.need_yes 1 X)
  have u1 : (1 : Int) ≤ (k : Int) := by omega
  have u2 : (k : Int) ≤ 256 := by omega
  have hmk := run_make_sec k h2
  obtain ⟨Z, hZ⟩ : ∃ Z, Z = (rowsV (List.replicate k (List.replicate 64 0))).toArray := ⟨_, rfl⟩
  rw [← hZ] at hmk
  have HZ := Lib.hid hZ
  clear hZ
  go_enter_defers Try.func9, Try.ntmps9
  go_upto_region 3 with (go_at_call 25; ((with_reducible refine (HN.out _).mono ?_); rintro e w1 ⟨rfl, rfl⟩))
  (go_region_held3 (fun _ => True) (trivial) (fail))
  all_goals
    go_wp2_with (fail)
    refine dnew_ret rfl (y := 0) (Bk.drew (((Bk.newAt _ _ _ w.heap.size rfl).alloc _).alloc _ |>.alloc _)) rfl ?_
    first
      | exact new_fin N w _ k (w.heap.size + 1) (w.heap.size + 1 + 1) (w.heap.size + 1 + 1 + 1) w.heap.size hN h1 h2 (((((Below.refl _ _).alloc (Nat.le_refl _) _).alloc (by simp) _).alloc (by simp; omega) _).alloc (by simp; omega) _).drew (Nat.le_refl _) (by omega) (by omega) (by omega) (by omega) (by omega) (by rw [← HZ.out]; exact Bk.drew (((Bk.newAt _ _ _ _ (by simp)).alloc _).alloc _)) (by rw [← HZ.out]; exact Bk.drew ((Bk.newAt _ _ _ _ (by simp)).alloc _)) (Bk.drew (Bk.newAt _ _ _ _ (by simp)))
      | exact new_fin N w _ k (w.heap.size + 1 + 1) (w.heap.size + 1) (w.heap.size + 1 + 1 + 1) w.heap.size hN h1 h2 (((((Below.refl _ _).alloc (Nat.le_refl _) _).alloc (by simp) _).alloc (by simp; omega) _).alloc (by simp; omega) _).drew (Nat.le_refl _) (by omega) (by omega) (by omega) (by omega) (by omega) (by rw [← HZ.out]; exact Bk.drew ((Bk.newAt _ _ _ _ (by simp)).alloc _)) (by rw [← HZ.out]; exact Bk.drew (((Bk.newAt _ _ _ _ (by simp)).alloc _).alloc _)) (Bk.drew (Bk.newAt _ _ _ _ (by simp)))
set_option maxHeartbeats 1000000 in
theorem newNot_any (w : World) (k : Int) (hk : k < 1 ∨ 256 < k) :
    Calls Try.prog 9 #[.int .i64 k] w fun e w' => ∃ v, e = .returned (.tuple #[v, .int .i64 1]) ∧ Below w.heap.size w w' := by
  have hmf : ∀ (fn : Fn) (first cap : Array Value) (w : World), (Instr.makeFunc fn first cap).run Try.prog w = .ok (.func fn first cap) w := fun _ _ _ _ => rfl
  have HN := Lib.hid (fun X => LV.need_no 1 X)
  by_cases u1 : 1 ≤ k
  · have u2 : ¬ k ≤ 256 := by omega
    clear hk
    go_enter_defers Try.func9, Try.ntmps9
    go_wp2_with (go_at_call 25; ((with_reducible refine (HN.out _).mono ?_); rintro e w1 ⟨rfl, rfl⟩))
    exact dnew_bad rfl (y := 0) (Bk.newAt _ _ _ w.heap.size rfl) rfl fun w1 hb => ⟨_, rfl, (((Below.refl _ _).alloc (Nat.le_refl _) _).trans (hb.mono (by simp))).setCell (Nat.le_refl _) _⟩
  · clear hk
    go_enter_defers Try.func9, Try.ntmps9
    go_wp2_with (go_at_call 25; ((with_reducible refine (HN.out _).mono ?_); rintro e w1 ⟨rfl, rfl⟩))
    exact dnew_bad rfl (y := 0) (Bk.newAt _ _ _ w.heap.size rfl) rfl fun w1 hb => ⟨_, rfl, (((Below.refl _ _).alloc (Nat.le_refl _) _).trans (hb.mono (by simp))).setCell (Nat.le_refl _) _⟩
end Go.Proofs.Ytammgingmkdfhaa.S19
