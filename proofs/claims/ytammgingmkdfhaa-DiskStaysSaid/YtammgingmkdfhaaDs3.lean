/-
  What the landed disk's small calls do: needPower, needSector, Stop, Count. No statement is proved here.
-/
import Derived.Test.YtammgingmkdfhaaDs2
namespace Go.Proofs.Ytammgingmkdfhaa.S19
set_option linter.unusedSimpArgs false
set_option linter.unusedVariables false
set_option maxRecDepth 4096
open Go.RowKit

theorem power_ok (g : Nat) (V : KnV) (k cnt : Nat) (st : Int) (w : World) (hb : Bk w g 65 (knA V k cnt st false)) :
    Calls Try.prog 32 #[.pointer (some ⟨g, 0, none⟩)] w fun e w' => e = .returned (.tuple #[]) ∧ w = w' := by
  have c6 : w.cell? ⟨g, 6, none⟩ = some (.bool false) := hb.cell 6
  have HN := Lib.hid (fun X => LV.need_yes 6 X)
  go_enter Try.func32, Try.ntmps32
  go_wp2_with (go_at_call 25; ((with_reducible refine (HN.out _).mono ?_); rintro e w1 ⟨rfl, rfl⟩))
  go_end0
  exact ⟨rfl, rfl⟩
theorem power_no (g : Nat) (V : KnV) (k cnt : Nat) (st : Int) (w : World) (hb : Bk w g 65 (knA V k cnt st true)) :
    Calls Try.prog 32 #[.pointer (some ⟨g, 0, none⟩)] w fun e w' => e = .panicked [LV.wrg 6] ∧ w = w' := by
  have c6 : w.cell? ⟨g, 6, none⟩ = some (.bool true) := hb.cell 6
  have HN := Lib.hid (fun X => LV.need_no 6 X)
  go_enter Try.func32, Try.ntmps32
  go_wp2_with (go_at_call 25; ((with_reducible refine (HN.out _).mono ?_); rintro e w1 ⟨rfl, rfl⟩))
  exact ⟨rfl, rfl, rfl⟩
theorem sector_ok (g : Nat) (V : KnV) (k cnt : Nat) (st : Int) (off : Bool) (i : Int) (h0 : 0 ≤ i) (h1 : i < (k : Int)) (w : World) (hb : Bk w g 65 (knA V k cnt st off)) :
    Calls Try.prog 33 #[.pointer (some ⟨g, 0, none⟩), .int .i64 i] w fun e w' => e = .returned (.tuple #[]) ∧ w = w' := by
  have c1 : w.cell? ⟨g, 1, none⟩ = some (.slice (some ⟨V.nb, 0, none⟩) k k) := hb.cell 1
  have HN := Lib.hid (fun X => LV.need_yes 1 X)
  go_enter Try.func33, Try.ntmps33
  go_wp2_with (go_at_call 25; ((with_reducible refine (HN.out _).mono ?_); rintro e w1 ⟨rfl, rfl⟩))
  go_end0
  exact ⟨rfl, rfl⟩
theorem sector_no (g : Nat) (V : KnV) (k cnt : Nat) (st : Int) (off : Bool) (i : Int) (hi : ¬ (0 ≤ i ∧ i < (k : Int))) (w : World) (hb : Bk w g 65 (knA V k cnt st off)) :
    Calls Try.prog 33 #[.pointer (some ⟨g, 0, none⟩), .int .i64 i] w fun e w' => e = .panicked [LV.wrg 1] ∧ w = w' := by
  have c1 : w.cell? ⟨g, 1, none⟩ = some (.slice (some ⟨V.nb, 0, none⟩) k k) := hb.cell 1
  have HN := Lib.hid (fun X => LV.need_no 1 X)
  by_cases h0 : 0 ≤ i
  · have h1 : ¬ i < (k : Int) := fun h => hi ⟨h0, h⟩
    clear hi
    go_enter Try.func33, Try.ntmps33
    go_wp2_with (go_at_call 25; ((with_reducible refine (HN.out _).mono ?_); rintro e w1 ⟨rfl, rfl⟩))
    exact ⟨rfl, rfl, rfl⟩
  · clear hi
    go_enter Try.func33, Try.ntmps33
    go_wp2_with (go_at_call 25; ((with_reducible refine (HN.out _).mono ?_); rintro e w1 ⟨rfl, rfl⟩))
    exact ⟨rfl, rfl, rfl⟩
theorem stopL (g : Nat) (V : KnV) (k cnt : Nat) (st : Int) (off : Bool) (w : World) (hb : Bk w g 65 (knA V k cnt st off)) :
    Calls Try.prog 20 #[.pointer (some ⟨g, 0, none⟩)] w fun e w' => e = .returned (.tuple #[]) ∧ w' = w.setCell ⟨g, 6, none⟩ (.bool true) := by
  have c6 : w.cell? ⟨g, 6, none⟩ = some (.bool off) := hb.cell 6
  have f6 := hb.frozen 6
  go_enter Try.func20, Try.ntmps20
  go_wp2
  go_end0
  exact ⟨rfl, rfl⟩
theorem stop_any (N : Nat) (w : World) (g : Nat) (D : Dk) (F : Nat → Prop) (t : Kn N w g D F) : Calls Try.prog 20 #[.pointer (some ⟨g, 0, none⟩)] w (Post Kn N F g w D.halt (.tuple #[])) := by
  obtain ⟨ok, V, hb, r⟩ := t
  refine (stopL g V _ _ _ _ w hb).mono ?_
  rintro e w' ⟨rfl, rfl⟩
  exact ⟨rfl, F, ⟨Dk.halt_ok ok, V, hb.put 6 (.bool true), r.poke 6 _⟩, fun b h => .inl h, Mv.pokeK r.fg (r.gN g r.fg).1 6 _⟩
theorem own_slice {w : World} {B e sz n : Nat} {v : Value} {xs : List Value} (h : w.ownsRow B e sz v n xs) : ∃ A c, v = .slice A n c := by
  rcases h.2 with ⟨rfl, rfl⟩ | ⟨g, cap, cur, rfl, _⟩
  · exact ⟨none, 0, rfl⟩
  · exact ⟨_, cap, rfl⟩
set_option maxHeartbeats 1000000 in
theorem count_any (N : Nat) (w : World) (g : Nat) (D : Dk) (F : Nat → Prop) (t : Kn N w g D F) : Calls Try.prog 14 #[.pointer (some ⟨g, 0, none⟩)] w (Post Kn N F g w D (.tuple #[.int .i64 (D.cnt : Int), .int .i64 (D.pend.length : Int)])) := by
  have t' := t
  obtain ⟨ok, V, hb, r⟩ := t
  obtain ⟨A, c, e2⟩ := own_slice r.pend
  have c2 : w.cell? ⟨g, 2, none⟩ = some (.slice A D.pend.length c) := by have := hb.cell 2; simpa [e2] using this
  have c3 : w.cell? ⟨g, 3, none⟩ = some (.int .i64 (D.cnt : Int)) := hb.cell 3
  have T := Lib.hid t'
  have HG := Lib.hid (r.gN g r.fg)
  clear t' hb r e2 ok
  go_enter Try.func14, Try.ntmps14
  go_wp2
  go_region
  all_goals
    go_wp2
    go_ret2
    refine ⟨rfl, F, T.out.below ?_, fun b h => .inl h, Mv.of (by have := HG.out; omega) ?_⟩
    · exact (Below.refl _ _).drew
    · exact (Below.refl _ _).drew
end Go.Proofs.Ytammgingmkdfhaa.S19
