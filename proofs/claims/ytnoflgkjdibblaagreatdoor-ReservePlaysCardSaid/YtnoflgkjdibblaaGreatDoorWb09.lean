/-
  Texts put together: DkE, DkF, DkG, OpenA, Open. No statement is proved here.
-/
import Derived.Test.YtnoflgkjdibblaaGreatDoorWb08
import Derived.Deep.CutRange
import Derived.Test.YtnoflgkjdibblaaGreatDoorRows
import Derived.ProofKit
import Derived.OpenShut
import Derived.ShutString
import Derived.ChangeOld
import Derived.Below
import Derived.Test.YtnoflgkjdibblaaGreatDoorWb01

/-
  The document's own disk: a new one. No statement is proved here. (Written by gendke.py.)
-/
namespace Go.Proofs.YtnoflgkjdibblaaGreatDoor.S19
set_option linter.unusedSimpArgs false
set_option linter.unusedVariables false
set_option maxRecDepth 4096
open Go.RowKit

set_option maxHeartbeats 8000000 in
theorem rnewD_any (N : Nat) (w : World) (k : Nat) (hN : N ≤ w.heap.size) (h1 : 1 ≤ k) (h2 : k ≤ 256) : Calls Tryz.prog 7 #[.int .i64 (k : Int)] w fun e w' => ∃ h G, e = .returned (.pointer (some ⟨h, 0, none⟩)) ∧ Rk N w' h (.slice none 0 0) (Dk.new k) G ∧ (∀ b, G b → w.heap.size ≤ b) ∧ Below w.heap.size w w' := by
  obtain ⟨i8, hi8, hz80, hz81, hz82⟩ := info_parts Tryz.infoU8
  have HI8 := Lib.hid hi8
  clear hi8
  obtain ⟨h, hh⟩ : ∃ h, w.heap.size = h := ⟨_, rfl⟩
  obtain ⟨w1, hw1⟩ : ∃ w1, w.alloc (.cells #[.slice none 0 0, .slice none 0 0, .slice none 0 0, .slice none 0 0, .slice none 0 0, .int .i64 0, .int .i64 0, .bool false] 62) = w1 := ⟨_, rfl⟩
  have T1 := Lib.hid (show Bk w1 h 62 #[.slice none 0 0, .slice none 0 0, .slice none 0 0, .slice none 0 0, .slice none 0 0, .int .i64 0, .int .i64 0, .bool false] by rw [← hw1]; exact Bk.newAt _ _ _ _ hh)
  have B1 := Lib.hid (show Below h w w1 by rw [← hw1, ← hh]; exact (Below.refl _ _).alloc (Nat.le_refl _) _)
  have E1 := Lib.hid (show Rest N w1 h [] [] [] [] (fun b => b = h) ⟨.slice none 0 0, [], .slice none 0 0, .slice none 0 0, [], none, 0, 0⟩ from Rest.start (by rw [← hh]; exact hN) T1.out.lt)
  have HH := Lib.hid hh
  have HNN := Lib.hid (show N ≤ h by rw [← hh]; exact hN)
  go_enter Tryz.func7, Tryz.ntmps7
  go_upto_region 2 with (fail)
  first
    | rw [hw1, hh]
    | rw [hw1]
    | rw [hh]
    | skip
  clear hw1 hh hN
  go_wp2_with (fail)
  go_loopw [4] (fun jv wi => ∃ (j : Nat) (vS : Value) (ss : List Value) (G : Nat → Prop), j ≤ k ∧ jv = .int .i64 (j : Int) ∧ Bk wi h 62 #[.slice none 0 0, vS, .slice none 0 0, .slice none 0 0, .slice none 0 0, .int .i64 0, .int .i64 0, .bool false] ∧ Rest N wi h (List.replicate j (List.replicate 64 0)) [] [] [] G ⟨vS, ss, .slice none 0 0, .slice none 0 0, [], none, 0, 0⟩ ∧ (∀ b, G b → h ≤ b) ∧ Below h w wi)
    (fun jv _ => k - (intOf jv).toNat)
  case atStart => exact ⟨0, .slice none 0 0, [], _, Nat.zero_le _, rfl, T1.out, E1.out, fun b e => Nat.le_of_eq e.symm, B1.out⟩
  case round =>
    obtain ⟨j, vS, ss, G, hj, rfl, hT, hE, hG, hB⟩ := hrel
    have TR := Lib.hid hT
    have ER := Lib.hid hE
    have GR := Lib.hid hG
    have BR := Lib.hid hB
    clear hT hE hG hB T1 E1 B1
    by_cases hlt : j < k
    · have t0 : (j : Int) < (k : Int) := by omega
      have HGH := Lib.hid (show G h from ER.out.inG h (.inl rfl))
      have HSZ := Lib.hid (show h < wr.heap.size from TR.out.lt)
      go_upto_region 5 with (fail)
      refine wp_region_any (by kernel_rfl) ?_
      rename_i K hK
      obtain ⟨wd, hwd⟩ : ∃ wd, wr.drew = wd := ⟨_, rfl⟩
      have D0 : Below wr.heap.size wr wd := by rw [← hwd]; exact (Below.refl _ _).drew
      change wpAny _ _ _ _ _ _ _ wr.drew
      rw [hwd]
      clear hwd
      have T4 := TR.out.below D0 TR.out.lt
      have MK := run_makeSlice_full (P := Tryz.prog) (w := wd) wr.heap.size 23 5 i8 (.int .u8 0) 1 Tryz.underlying23 HI8.out hz80 hz81 .i64 .i64 64 (by omega) (by rw [hz82]; omega) (by unfold maxLen; omega) D0.size
      obtain ⟨w5, m1, m2, m3⟩ := MK
      have m1' : (Instr.makeSlice 23 (.int .i64 64) (.int .i64 64)).run Tryz.prog wd = .ok (.slice (some ⟨wd.heap.size, 0, none⟩) 64 64) w5 := m1
      have O5 : w5.ownsRow wr.heap.size 5 1 (.slice (some ⟨wd.heap.size, 0, none⟩) 64 64) 64 (bv (List.replicate 64 0)) := by rw [← bv_zero]; exact m2
      have B5 : Below wr.heap.size wr w5 := D0.grown m3 D0.size (fun q e => by cases e)
      have T5 := TR.out.below B5 TR.out.lt
      have N5 := B5.size
      refine wpAny_of_held (S := fun _ => True) _ _ _ _ ?_
      refine RD.h_take 0 (.pointer (some ⟨h, 0, none⟩)) rfl (by kernel_rfl) (by kernel_rfl) (by kernel_rfl) (fun _ _ _ h => h) (by rfl) trivial (fun X hX => ?_) ?_
      · go_simp
      simp only [Act.put, List.setIfInBounds_toArray, List.set_cons_zero, List.set_cons_succ]
      refine RD.h_take 1 (.pointer (some ⟨h, 0, none⟩)) rfl (by kernel_rfl) (by kernel_rfl) (by kernel_rfl) (fun _ _ _ h => h) (by rfl) trivial (fun X hX => ?_) ?_
      · go_simp
      simp only [Act.put, List.setIfInBounds_toArray, List.set_cons_zero, List.set_cons_succ]
      refine RD.h_take 2 (.pointer (some ⟨h, 0, none⟩)) rfl (by kernel_rfl) (by kernel_rfl) (by kernel_rfl) (fun _ _ _ h => h) (by rfl) trivial (fun X hX => ?_) ?_
      · go_simp
      simp only [Act.put, List.setIfInBounds_toArray, List.set_cons_zero, List.set_cons_succ]
      refine RD.h_take 3 (.pointer (some ⟨h, 1, none⟩)) rfl (by kernel_rfl) (by kernel_rfl) (by kernel_rfl) (fun _ _ _ h => h) (by rfl) trivial (fun X hX => ?_) ?_
      · go_simp
      simp only [Act.put, List.setIfInBounds_toArray, List.set_cons_zero, List.set_cons_succ]
      refine RD.h_any [4, 5] (by kernel_rfl) (by simp) (RD.two_of ?_ ?_)
      · refine RD.h_run vS (wd) rfl (by rfl) (by have c3 := T4.cell 1; simp only [List.getElem?_toArray, List.getElem?_cons_zero, List.getElem?_cons_succ] at c3; go_simp) ⟨trivial, ?_⟩
        simp only [Act.put, List.setIfInBounds_toArray, List.set_cons_zero, List.set_cons_succ]
        refine RD.h_any [5] (by kernel_rfl) (by simp) (RD.one_of ?_)
        refine RD.h_run (.slice (some ⟨wd.heap.size, 0, none⟩) 64 64) w5 rfl (by rfl) (by go_simp) ⟨trivial, ?_⟩
        simp only [Act.put, List.setIfInBounds_toArray, List.set_cons_zero, List.set_cons_succ]
        refine RD.h_any [6] (by kernel_rfl) (by simp) (RD.one_of ?_)
        refine RD.h_run (.slice (some ⟨w5.heap.size, 0, none⟩) 1 1) (w5.alloc (.cells #[.slice (some ⟨wd.heap.size, 0, none⟩) 64 64] 23)) rfl (by rfl) (by go_simp) ⟨trivial, ?_⟩
        simp only [Act.put, List.setIfInBounds_toArray, List.set_cons_zero, List.set_cons_succ]
        have T6 := T5.alloc (.cells #[.slice (some ⟨wd.heap.size, 0, none⟩) 64 64] 23)
        refine RD.h_any [7] (by kernel_rfl) (by simp) (RD.one_of ?_)
        have BC : Below wr.heap.size wr (w5.alloc (.cells #[.slice (some ⟨wd.heap.size, 0, none⟩) 64 64] 23)) := B5.alloc B5.size _
        have OSS : wr.ownsRow N 23 1 vS j ss := by have := ER.out.oS; rwa [List.length_replicate] at this
        refine RD.h_op rfl (step_append_bs (by rfl) (.tmp 16) (.tmp 18) rfl N vS j ss rfl (own_below OSS BC) w5.heap.size (.slice (some ⟨wd.heap.size, 0, none⟩) 64 64) rfl rfl (by simp) (by omega) (Nat.le_trans ER.out.lo BC.size) (fun v8 w8 h1 h2 h3 => ⟨trivial, ?_⟩))
        obtain ⟨A8, c8, hv8⟩ := own_form h1
        obtain ⟨wl, hwl⟩ : ∃ wl, wl = w5.alloc (.cells #[.slice (some ⟨wd.heap.size, 0, none⟩) 64 64] 23) := ⟨_, rfl⟩
        have RL9 : Rd wl (some ⟨wd.heap.size, 0, none⟩) 64 64 (List.replicate 64 0) := by rw [hwl]; exact (Rd.own O5).alloc _
        have TL : Bk wl h 62 #[.slice none 0 0, vS, .slice none 0 0, .slice none 0 0, .slice none 0 0, .int .i64 0, .int .i64 0, .bool false] := by rw [hwl]; exact T6
        rw [← hwl] at BC h2 h3
        have PB := Lib.hid (Rest.pushS (w := wr) (wl := wl) (w' := w8) (v' := v8) (u := .slice (some ⟨wd.heap.size, 0, none⟩) 64 64) (xs := List.replicate 64 0) (A := some ⟨wd.heap.size, 0, none⟩) (n := 64) (c := 64) ER.out BC (by rw [List.length_append, List.length_singleton, List.length_replicate]; exact h1) h2 h3 (own_ltB h1) rfl RL9 (fun a _ e => by injection e with e; rw [← e]; exact D0.size))
        have T9 := TL.only h2 (fun e => (ER.out.dS h e.symm).1 rfl)
        have B9 : Below h w w8 := (BR.out.trans (BC.mono (Nat.le_of_lt HSZ.out))).grown h2 (Nat.le_trans (Nat.le_of_lt HSZ.out) BC.size) (fun q e => GR.out q (ER.out.inG q (.inr (.inl e))))
        subst hv8
        simp only [Act.put, List.setIfInBounds_toArray, List.set_cons_zero, List.set_cons_succ]
        refine RD.h_any [8] (by kernel_rfl) (by simp) (RD.one_of ?_)
        refine RD.h_run (.pointer (some ⟨h, 0, none⟩)) w8 rfl (by rfl) (by go_simp) ⟨trivial, ?_⟩
        simp only [Act.put, List.setIfInBounds_toArray, List.set_cons_zero, List.set_cons_succ]
        refine RD.h_any [9] (by kernel_rfl) (by simp) (RD.one_of ?_)
        refine RD.h_run (.pointer (some ⟨h, 1, none⟩)) w8 rfl (by rfl) (by go_simp) ⟨trivial, ?_⟩
        simp only [Act.put, List.setIfInBounds_toArray, List.set_cons_zero, List.set_cons_succ]
        refine RD.h_any [10] (by kernel_rfl) (by simp) (RD.one_of ?_)
        refine RD.h_skip (w8.setCell ⟨h, 1, none⟩ (.slice A8 (j + 1) c8)) rfl (by rfl) (by have c3 := T9.cell 1; have fz := T9.frozen 1; simp only [List.getElem?_toArray, List.getElem?_cons_zero, List.getElem?_cons_succ] at c3; go_simp) ⟨trivial, ?_⟩
        simp only [Act.put, List.setIfInBounds_toArray, List.set_cons_zero, List.set_cons_succ]
        refine RD.h_done (by kernel_rfl) ?_
        change K _ _
        apply hK
        have TF := Lib.hid (T9.put 1 (.slice A8 (j + 1) c8))
        have EF := Lib.hid (PB.out.1.poke 1 (.slice A8 (j + 1) c8))
        rw [show List.replicate j (List.replicate 64 (0 : UInt8)) ++ [List.replicate 64 0] = List.replicate (j + 1) (List.replicate 64 0) from List.replicate_succ'.symm] at EF
        have BF := Lib.hid (B9.setCell (p := ⟨h, 1, none⟩) (Nat.le_refl _) (.slice A8 (j + 1) c8))
        have GF := Lib.hid (show ∀ x, (plus G (Value.slice A8 (j + 1) c8) x ∨ ∃ a, 0 < 64 ∧ (some (⟨wd.heap.size, 0, none⟩ : Addr)) = some a ∧ a.block = x) → h ≤ x from fun x hx => by
          rcases PB.out.2.2 x hx with e | e
          · exact GR.out x e
          · have := HSZ.out; omega)
        generalize w8.setCell ⟨h, 1, none⟩ (.slice A8 (j + 1) c8) = w9 at *
        go_wp2_with (fail)
        go_roundw
        case rel => exact ⟨j + 1, _, _, _, by omega, by go_num, TF.out, EF.out, GF.out, BF.out⟩
        case measure => simp [intOf]; omega
      · refine RD.h_run (.slice (some ⟨wd.heap.size, 0, none⟩) 64 64) w5 rfl (by rfl) (by go_simp) ⟨trivial, ?_⟩
        simp only [Act.put, List.setIfInBounds_toArray, List.set_cons_zero, List.set_cons_succ]
        refine RD.h_any [4, 6] (by kernel_rfl) (by simp) (RD.two_of ?_ ?_)
        · refine RD.h_run vS (w5) rfl (by rfl) (by have c3 := T5.cell 1; simp only [List.getElem?_toArray, List.getElem?_cons_zero, List.getElem?_cons_succ] at c3; go_simp) ⟨trivial, ?_⟩
          simp only [Act.put, List.setIfInBounds_toArray, List.set_cons_zero, List.set_cons_succ]
          refine RD.h_any [6] (by kernel_rfl) (by simp) (RD.one_of ?_)
          refine RD.h_run (.slice (some ⟨w5.heap.size, 0, none⟩) 1 1) (w5.alloc (.cells #[.slice (some ⟨wd.heap.size, 0, none⟩) 64 64] 23)) rfl (by rfl) (by go_simp) ⟨trivial, ?_⟩
          simp only [Act.put, List.setIfInBounds_toArray, List.set_cons_zero, List.set_cons_succ]
          have T6 := T5.alloc (.cells #[.slice (some ⟨wd.heap.size, 0, none⟩) 64 64] 23)
          refine RD.h_any [7] (by kernel_rfl) (by simp) (RD.one_of ?_)
          have BC : Below wr.heap.size wr (w5.alloc (.cells #[.slice (some ⟨wd.heap.size, 0, none⟩) 64 64] 23)) := B5.alloc B5.size _
          have OSS : wr.ownsRow N 23 1 vS j ss := by have := ER.out.oS; rwa [List.length_replicate] at this
          refine RD.h_op rfl (step_append_bs (by rfl) (.tmp 16) (.tmp 18) rfl N vS j ss rfl (own_below OSS BC) w5.heap.size (.slice (some ⟨wd.heap.size, 0, none⟩) 64 64) rfl rfl (by simp) (by omega) (Nat.le_trans ER.out.lo BC.size) (fun v8 w8 h1 h2 h3 => ⟨trivial, ?_⟩))
          obtain ⟨A8, c8, hv8⟩ := own_form h1
          obtain ⟨wl, hwl⟩ : ∃ wl, wl = w5.alloc (.cells #[.slice (some ⟨wd.heap.size, 0, none⟩) 64 64] 23) := ⟨_, rfl⟩
          have RL9 : Rd wl (some ⟨wd.heap.size, 0, none⟩) 64 64 (List.replicate 64 0) := by rw [hwl]; exact (Rd.own O5).alloc _
          have TL : Bk wl h 62 #[.slice none 0 0, vS, .slice none 0 0, .slice none 0 0, .slice none 0 0, .int .i64 0, .int .i64 0, .bool false] := by rw [hwl]; exact T6
          rw [← hwl] at BC h2 h3
          have PB := Lib.hid (Rest.pushS (w := wr) (wl := wl) (w' := w8) (v' := v8) (u := .slice (some ⟨wd.heap.size, 0, none⟩) 64 64) (xs := List.replicate 64 0) (A := some ⟨wd.heap.size, 0, none⟩) (n := 64) (c := 64) ER.out BC (by rw [List.length_append, List.length_singleton, List.length_replicate]; exact h1) h2 h3 (own_ltB h1) rfl RL9 (fun a _ e => by injection e with e; rw [← e]; exact D0.size))
          have T9 := TL.only h2 (fun e => (ER.out.dS h e.symm).1 rfl)
          have B9 : Below h w w8 := (BR.out.trans (BC.mono (Nat.le_of_lt HSZ.out))).grown h2 (Nat.le_trans (Nat.le_of_lt HSZ.out) BC.size) (fun q e => GR.out q (ER.out.inG q (.inr (.inl e))))
          subst hv8
          simp only [Act.put, List.setIfInBounds_toArray, List.set_cons_zero, List.set_cons_succ]
          refine RD.h_any [8] (by kernel_rfl) (by simp) (RD.one_of ?_)
          refine RD.h_run (.pointer (some ⟨h, 0, none⟩)) w8 rfl (by rfl) (by go_simp) ⟨trivial, ?_⟩
          simp only [Act.put, List.setIfInBounds_toArray, List.set_cons_zero, List.set_cons_succ]
          refine RD.h_any [9] (by kernel_rfl) (by simp) (RD.one_of ?_)
          refine RD.h_run (.pointer (some ⟨h, 1, none⟩)) w8 rfl (by rfl) (by go_simp) ⟨trivial, ?_⟩
          simp only [Act.put, List.setIfInBounds_toArray, List.set_cons_zero, List.set_cons_succ]
          refine RD.h_any [10] (by kernel_rfl) (by simp) (RD.one_of ?_)
          refine RD.h_skip (w8.setCell ⟨h, 1, none⟩ (.slice A8 (j + 1) c8)) rfl (by rfl) (by have c3 := T9.cell 1; have fz := T9.frozen 1; simp only [List.getElem?_toArray, List.getElem?_cons_zero, List.getElem?_cons_succ] at c3; go_simp) ⟨trivial, ?_⟩
          simp only [Act.put, List.setIfInBounds_toArray, List.set_cons_zero, List.set_cons_succ]
          refine RD.h_done (by kernel_rfl) ?_
          change K _ _
          apply hK
          have TF := Lib.hid (T9.put 1 (.slice A8 (j + 1) c8))
          have EF := Lib.hid (PB.out.1.poke 1 (.slice A8 (j + 1) c8))
          rw [show List.replicate j (List.replicate 64 (0 : UInt8)) ++ [List.replicate 64 0] = List.replicate (j + 1) (List.replicate 64 0) from List.replicate_succ'.symm] at EF
          have BF := Lib.hid (B9.setCell (p := ⟨h, 1, none⟩) (Nat.le_refl _) (.slice A8 (j + 1) c8))
          have GF := Lib.hid (show ∀ x, (plus G (Value.slice A8 (j + 1) c8) x ∨ ∃ a, 0 < 64 ∧ (some (⟨wd.heap.size, 0, none⟩ : Addr)) = some a ∧ a.block = x) → h ≤ x from fun x hx => by
            rcases PB.out.2.2 x hx with e | e
            · exact GR.out x e
            · have := HSZ.out; omega)
          generalize w8.setCell ⟨h, 1, none⟩ (.slice A8 (j + 1) c8) = w9 at *
          go_wp2_with (fail)
          go_roundw
          case rel => exact ⟨j + 1, _, _, _, by omega, by go_num, TF.out, EF.out, GF.out, BF.out⟩
          case measure => simp [intOf]; omega
        · refine RD.h_run (.slice (some ⟨w5.heap.size, 0, none⟩) 1 1) (w5.alloc (.cells #[.slice (some ⟨wd.heap.size, 0, none⟩) 64 64] 23)) rfl (by rfl) (by go_simp) ⟨trivial, ?_⟩
          simp only [Act.put, List.setIfInBounds_toArray, List.set_cons_zero, List.set_cons_succ]
          have T6 := T5.alloc (.cells #[.slice (some ⟨wd.heap.size, 0, none⟩) 64 64] 23)
          refine RD.h_any [4] (by kernel_rfl) (by simp) (RD.one_of ?_)
          refine RD.h_run vS (w5.alloc (.cells #[.slice (some ⟨wd.heap.size, 0, none⟩) 64 64] 23)) rfl (by rfl) (by have c3 := T6.cell 1; simp only [List.getElem?_toArray, List.getElem?_cons_zero, List.getElem?_cons_succ] at c3; go_simp) ⟨trivial, ?_⟩
          simp only [Act.put, List.setIfInBounds_toArray, List.set_cons_zero, List.set_cons_succ]
          refine RD.h_any [7] (by kernel_rfl) (by simp) (RD.one_of ?_)
          have BC : Below wr.heap.size wr (w5.alloc (.cells #[.slice (some ⟨wd.heap.size, 0, none⟩) 64 64] 23)) := B5.alloc B5.size _
          have OSS : wr.ownsRow N 23 1 vS j ss := by have := ER.out.oS; rwa [List.length_replicate] at this
          refine RD.h_op rfl (step_append_bs (by rfl) (.tmp 16) (.tmp 18) rfl N vS j ss rfl (own_below OSS BC) w5.heap.size (.slice (some ⟨wd.heap.size, 0, none⟩) 64 64) rfl rfl (by simp) (by omega) (Nat.le_trans ER.out.lo BC.size) (fun v8 w8 h1 h2 h3 => ⟨trivial, ?_⟩))
          obtain ⟨A8, c8, hv8⟩ := own_form h1
          obtain ⟨wl, hwl⟩ : ∃ wl, wl = w5.alloc (.cells #[.slice (some ⟨wd.heap.size, 0, none⟩) 64 64] 23) := ⟨_, rfl⟩
          have RL9 : Rd wl (some ⟨wd.heap.size, 0, none⟩) 64 64 (List.replicate 64 0) := by rw [hwl]; exact (Rd.own O5).alloc _
          have TL : Bk wl h 62 #[.slice none 0 0, vS, .slice none 0 0, .slice none 0 0, .slice none 0 0, .int .i64 0, .int .i64 0, .bool false] := by rw [hwl]; exact T6
          rw [← hwl] at BC h2 h3
          have PB := Lib.hid (Rest.pushS (w := wr) (wl := wl) (w' := w8) (v' := v8) (u := .slice (some ⟨wd.heap.size, 0, none⟩) 64 64) (xs := List.replicate 64 0) (A := some ⟨wd.heap.size, 0, none⟩) (n := 64) (c := 64) ER.out BC (by rw [List.length_append, List.length_singleton, List.length_replicate]; exact h1) h2 h3 (own_ltB h1) rfl RL9 (fun a _ e => by injection e with e; rw [← e]; exact D0.size))
          have T9 := TL.only h2 (fun e => (ER.out.dS h e.symm).1 rfl)
          have B9 : Below h w w8 := (BR.out.trans (BC.mono (Nat.le_of_lt HSZ.out))).grown h2 (Nat.le_trans (Nat.le_of_lt HSZ.out) BC.size) (fun q e => GR.out q (ER.out.inG q (.inr (.inl e))))
          subst hv8
          simp only [Act.put, List.setIfInBounds_toArray, List.set_cons_zero, List.set_cons_succ]
          refine RD.h_any [8] (by kernel_rfl) (by simp) (RD.one_of ?_)
          refine RD.h_run (.pointer (some ⟨h, 0, none⟩)) w8 rfl (by rfl) (by go_simp) ⟨trivial, ?_⟩
          simp only [Act.put, List.setIfInBounds_toArray, List.set_cons_zero, List.set_cons_succ]
          refine RD.h_any [9] (by kernel_rfl) (by simp) (RD.one_of ?_)
          refine RD.h_run (.pointer (some ⟨h, 1, none⟩)) w8 rfl (by rfl) (by go_simp) ⟨trivial, ?_⟩
          simp only [Act.put, List.setIfInBounds_toArray, List.set_cons_zero, List.set_cons_succ]
          refine RD.h_any [10] (by kernel_rfl) (by simp) (RD.one_of ?_)
          refine RD.h_skip (w8.setCell ⟨h, 1, none⟩ (.slice A8 (j + 1) c8)) rfl (by rfl) (by have c3 := T9.cell 1; have fz := T9.frozen 1; simp only [List.getElem?_toArray, List.getElem?_cons_zero, List.getElem?_cons_succ] at c3; go_simp) ⟨trivial, ?_⟩
          simp only [Act.put, List.setIfInBounds_toArray, List.set_cons_zero, List.set_cons_succ]
          refine RD.h_done (by kernel_rfl) ?_
          change K _ _
          apply hK
          have TF := Lib.hid (T9.put 1 (.slice A8 (j + 1) c8))
          have EF := Lib.hid (PB.out.1.poke 1 (.slice A8 (j + 1) c8))
          rw [show List.replicate j (List.replicate 64 (0 : UInt8)) ++ [List.replicate 64 0] = List.replicate (j + 1) (List.replicate 64 0) from List.replicate_succ'.symm] at EF
          have BF := Lib.hid (B9.setCell (p := ⟨h, 1, none⟩) (Nat.le_refl _) (.slice A8 (j + 1) c8))
          have GF := Lib.hid (show ∀ x, (plus G (Value.slice A8 (j + 1) c8) x ∨ ∃ a, 0 < 64 ∧ (some (⟨wd.heap.size, 0, none⟩ : Addr)) = some a ∧ a.block = x) → h ≤ x from fun x hx => by
            rcases PB.out.2.2 x hx with e | e
            · exact GR.out x e
            · have := HSZ.out; omega)
          generalize w8.setCell ⟨h, 1, none⟩ (.slice A8 (j + 1) c8) = w9 at *
          go_wp2_with (fail)
          go_roundw
          case rel => exact ⟨j + 1, _, _, _, by omega, by go_num, TF.out, EF.out, GF.out, BF.out⟩
          case measure => simp [intOf]; omega
    · obtain rfl : k = j := by omega
      have t0 : ¬ (k : Int) < (k : Int) := by omega
      go_wp2_with (fail)
      go_ret
      have F1 : Rk N wr h (.slice none 0 0) (Dk.new k) G := ⟨Dk.new_ok h1 h2, _, TR.out, ER.out⟩
      have F2 : ∀ b, G b → w.heap.size ≤ b := fun b hb => by have := GR.out b hb; have := HH.out; omega
      have F3 : Below w.heap.size w wr := by rw [HH.out]; exact BR.out
      first
        | exact ⟨h, G, rfl, F1, F2, F3⟩
        | exact ⟨h, rfl, G, F1, F2, F3⟩
        | exact ⟨h, rfl, G, F1, F2, BR.out⟩
        | (refine ⟨h, rfl, G, F1, ?_, ?_⟩ <;> first | exact F2 | exact F3 | exact BR.out | exact GR.out)
end Go.Proofs.YtnoflgkjdibblaaGreatDoor.S19

/-
  The document's own disk: what is torn, byte by byte; another plan; a row that has come. No statement is proved here.
-/
namespace Go.Proofs.YtnoflgkjdibblaaGreatDoor.S19
set_option linter.unusedSimpArgs false
set_option linter.unusedVariables false
set_option maxRecDepth 4096
open Go.RowKit

/-- Is the byte j of a torn row that which was to be written? -/
def tears (c j : Nat) : Prop := c % 4 = 1 ∨ (c % 4 = 2 ∧ j < c / 4) ∨ (c % 4 = 3 ∧ c / 4 ≤ j)
instance (c j : Nat) : Decidable (tears c j) := by unfold tears; exact inferInstance
/-- The first k bytes have been gone through. -/
def tornP (c : Nat) (old now : List UInt8) (k : Nat) : List UInt8 := (List.range 64).map fun j => if j < k ∧ tears c j then now.getD j 0 else old.getD j 0
theorem tornP_len (c : Nat) (old now : List UInt8) (k : Nat) : (tornP c old now k).length = 64 := by simp [tornP]
theorem tornP_zero (c : Nat) (old now : List UInt8) (h : old.length = 64) : tornP c old now 0 = old := by
  apply List.ext_getElem (by simp [tornP, h])
  intro i h1 h2
  simp [tornP, List.getD, h2]
theorem tornP_full (c : Nat) (old now : List UInt8) : tornP c old now 64 = Dk.torn c old now := by
  unfold tornP Dk.torn
  apply List.map_congr_left
  intro j hj
  rw [List.mem_range] at hj
  simp only [hj, true_and, tears]
theorem tornP_miss {c k : Nat} (old now : List UInt8) (h : ¬ tears c k) : tornP c old now (k + 1) = tornP c old now k := by
  unfold tornP
  apply List.map_congr_left
  intro j hj
  by_cases e : j = k
  · subst e
    rw [if_neg (fun q => h q.2), if_neg (fun q => h q.2)]
  · have : (j < k + 1) = (j < k) := propext (by omega)
    simp only [this]
theorem tornP_hit {c k : Nat} (old now : List UInt8) (hk : k < 64) (h : tears c k) : tornP c old now (k + 1) = (tornP c old now k).set k (now.getD k 0) := by
  apply List.ext_getElem (by simp [tornP])
  intro i h1 h2
  have h3 : i < 64 := by simpa [tornP] using h1
  by_cases e : k = i
  · subst e
    rw [List.getElem_set_self]
    simp [tornP, h]
  · rw [List.getElem_set_ne e]
    have : (i < k + 1) = (i < k) := propext (by omega)
    simp only [tornP, List.getElem_map, List.getElem_range, this]
theorem tear_snoc (ch : List UInt8) (q : Nat × List UInt8) : ∀ (ps : List (Nat × List UInt8)) (k : Nat) (s : List (List UInt8)), Dk.tear ch k (ps ++ [q]) s = (Dk.tear ch k ps s).set q.1 (Dk.torn (Dk.choice ch (k + ps.length)) ((Dk.tear ch k ps s).getD q.1 []) q.2)
  | [], k, s => rfl
  | p :: ps, k, s => by
    rw [List.cons_append, Dk.tear, tear_snoc ch q ps, Dk.tear, List.length_cons]
    rw [show k + 1 + ps.length = k + (ps.length + 1) by omega]
theorem tear_take (ch : List UInt8) (ps : List (Nat × List UInt8)) (s : List (List UInt8)) (k : Nat) (hk : k < ps.length) : Dk.tear ch 0 (ps.take (k + 1)) s = (Dk.tear ch 0 (ps.take k) s).set (ps.getD k (0, [])).1 (Dk.torn (Dk.choice ch k) ((Dk.tear ch 0 (ps.take k) s).getD (ps.getD k (0, [])).1 []) (ps.getD k (0, [])).2) := by
  have e : ps.take (k + 1) = ps.take k ++ [ps.getD k (0, [])] := by
    have e0 : ps.getD k (0, []) = ps[k] := by simp [List.getD, hk]
    rw [e0, List.take_add_one, List.getElem?_eq_getElem hk]
    rfl
  rw [e, tear_snoc, List.length_take, Nat.min_eq_left (Nat.le_of_lt hk), Nat.zero_add]
section
variable {N : Nat} {w w' : World} {h : Nat} {G : Nat → Prop} {V : RkV} {sure : List (List UInt8)} {zs : List Int} {rs : List (List UInt8)} {fails : List Int}
/-- Another plan. -/
theorem Rest.plan (r : Rest N w h sure zs rs fails G V) {A : Option Addr} {n c : Nat} {fs : List Int} (hf : RI w .i64 A n c fs) (hA : ∀ a, 0 < n → A = some a → (a.block < N ∨ G a.block) ∧ ¬ spine h V a.block) : Rest N w h sure zs rs fs G { V with AF := A, nF := n, cF := c } :=
  ⟨r.oS, r.rS, r.oW, r.oB, r.rB, hf, hA, r.inG, r.gN, r.dS, r.dW, r.dB⟩
theorem Rest.notSpine (r : Rest N w h sure zs rs fails G V) {b : Nat} (hb : b < N) : ¬ spine h V b := fun e => by
  have := (r.gN b (r.inG b e)).1
  omega
/-- A row in a new block may be the disk's. -/
theorem Rest.fresh (r : Rest N w h sure zs rs fails G V) (hb : Below w.heap.size w w') {A : Option Addr} {n c : Nat} {xs : List UInt8} (hr : Rd w' A n c xs) (hA : ∀ a, 0 < n → A = some a → w.heap.size ≤ a.block) :
    Rest N w' h sure zs rs fails (fun b => G b ∨ ∃ a, 0 < n ∧ A = some a ∧ a.block = b) V ∧ Rr w' (fun b => G b ∨ ∃ a, 0 < n ∧ A = some a ∧ a.block = b) h V (some (.slice A n c)) xs ∧ (∀ b, (G b ∨ ∃ a, 0 < n ∧ A = some a ∧ a.block = b) → G b ∨ w.heap.size ≤ b) := by
  have hN := r.lo
  have hlt : ∀ a, 0 < n → A = some a → a.block < w'.heap.size := fun a h1 h2 => by
    obtain ⟨b, off, e, hbb, _⟩ := hr.at_ h1
    rw [h2] at e
    injection e with e
    subst e
    exact hbb
  refine ⟨(r.keep hb.size fun b _ hl => hb.block b hl).more (fun b e => .inl e) ?_, ⟨A, n, c, rfl, hr, fun a h1 h2 => ⟨.inr ⟨a, h1, h2, rfl⟩, fun e => ?_⟩⟩, ?_⟩
  · rintro b (e | ⟨a, h1, h2, rfl⟩)
    · exact ⟨(r.gN b e).1, Nat.lt_of_lt_of_le (r.gN b e).2 hb.size⟩
    · exact ⟨Nat.le_trans hN (hA a h1 h2), hlt a h1 h2⟩
  · have q1 := (r.gN _ (r.inG _ e)).2
    have q2 := hA a h1 h2
    omega
  · rintro b (e | ⟨a, h1, h2, rfl⟩)
    · exact .inl e
    · exact .inr (hA a h1 h2)
end
end Go.Proofs.YtnoflgkjdibblaaGreatDoor.S19

/-
  The document's own disk: the power comes again. No statement is proved here. (Written by gendkg.py.)
-/
namespace Go.Proofs.YtnoflgkjdibblaaGreatDoor.S19
set_option linter.unusedSimpArgs false
set_option linter.unusedVariables false
set_option maxRecDepth 4096
open Go.RowKit

set_option maxHeartbeats 16000000 in
theorem rupD_any {L : Value} (N : Nat) (w : World) (h : Nat) (D : Dk) (G : Nat → Prop) (r : Rk N w h L D G) (A' : Option Addr) (n' c' : Nat) (ch : List UInt8) (hch : Rd w A' n' c' ch) (hA' : ∀ a, 0 < n' → A' = some a → a.block < N) (A : Option Addr) (n c : Nat) (fs : List Int) (st : Int) (hfs : RI w .i64 A n c fs) (hA : ∀ a, 0 < n → A = some a → a.block < N) : Calls Tryz.prog 20 #[.pointer (some ⟨h, 0, none⟩), .slice A' n' c', .agg #[.slice A n c, .int .i64 st]] w (PostR N G h L w (D.up ch fs st) (.tuple #[])) := by
  obtain ⟨V, hb, hrs⟩ := r.ex
  have hok := r.ok
  have HOK := Lib.hid (Dk.up_ok hok ch fs st)
  have HPB := Lib.hid hok.pend
  have HRW := Lib.hid hok.rows
  obtain ⟨pl, hpl⟩ : ∃ pl, pl = D.pend.length := ⟨_, rfl⟩
  obtain ⟨sl, hsl⟩ : ∃ sl, sl = D.sure.length := ⟨_, rfl⟩
  obtain ⟨AW, cW, eW⟩ := own_form hrs.oW
  obtain ⟨AB, cB, eB⟩ := own_form hrs.oB
  obtain ⟨AS, cS, eS⟩ := own_form hrs.oS
  have HMX := Lib.hid (show pl ≤ 9223372036854775807 from by
    have OW := hrs.oW
    rw [eW] at OW
    have h1 := (RI.own OW).cap
    have h2 := (RI.own OW).max
    rw [pendZ_len, ← hpl] at h1
    unfold maxLen at h2
    omega)
  rw [pendZ_len, ← hpl] at eW
  rw [pendR_len, ← hpl] at eB
  rw [← hsl] at eS
  have HPP := Lib.hid hpl
  have HSL := Lib.hid hsl
  have HEW := Lib.hid eW
  have HEB := Lib.hid eB
  have HES := Lib.hid eS
  rw [eW, eB, eS] at hb
  have GN := Lib.hid (show N ≤ h ∧ G h ∧ N ≤ w.heap.size from ⟨(hrs.gN h (hrs.inG h (.inl rfl))).1, hrs.inG h (.inl rfl), hrs.lo⟩)
  have HFS := Lib.hid (show ∀ X, Below N w X → RI X .i64 A n c fs from fun X hX => hfs.keep hX.size (fun a h1 h2 _ => hX.block _ (hA a h1 h2)))
  have HAN := Lib.hid hA
  obtain ⟨P, hP⟩ : ∃ P, P = w.heap.size := ⟨_, rfl⟩
  have HP := Lib.hid hP
  have GP := Lib.hid (show ¬ G P from fun e => by have := (hrs.gN _ e).2; omega)
  obtain ⟨w0, hw0⟩ : ∃ w0, w.alloc (.cells #[.slice A n c, .int .i64 st] 51) = w0 := ⟨_, rfl⟩
  have B0 := Lib.hid (show Below w.heap.size w w0 by rw [← hw0]; exact (Below.refl _ _).alloc (Nat.le_refl _) _)
  have P0 := Lib.hid (show Bk w0 P 51 #[.slice A n c, .int .i64 st] by rw [← hw0]; exact Bk.newAt _ _ _ _ hP.symm)
  have T0 := Lib.hid (hb.below B0.out hb.lt)
  have E0 := Lib.hid (hrs.keep B0.out.size (fun b _ hl => B0.out.block b hl))
  have HCH := Lib.hid (show ∀ X, Below N w0 X → Rd X A' n' c' ch from fun X hX => by
    have h0 := hch.below B0.out
    refine ⟨h0.len, h0.cap, h0.max, h0.nil, fun hn => ?_⟩
    obtain ⟨b, off, e, hbb, hc⟩ := h0.at_ hn
    exact ⟨b, off, e, Nat.lt_of_lt_of_le hbb hX.size, fun j hj => (World.cell?_of_block (a := ⟨b, off + j, none⟩) (hX.block b (hA' ⟨b, off, none⟩ hn e))).trans (hc j hj)⟩)
  clear r hb hrs hok hch hfs hA hA' eW eB eS hpl hsl
  go_enter Tryz.func20, Tryz.ntmps20
  go_upto_region 1 with (fail)
  first
    | rw [hw0]
    | skip
  rw [← hP]
  clear hw0 hP
  go_wp2_with (fail)
  go_loopg [6, 7, 8, 9] (pl + 1) (fun f kv s7 s8 s9 wi => ∃ (k : Nat) (ss : List Value) (Gi : Nat → Prop), k + f = pl + 1 ∧ k ≤ pl ∧ kv = .int .i64 (k : Int) ∧ Bk wi h 62 #[L, .slice AS sl cS, .slice AW pl cW, .slice AB pl cB, .slice V.AF V.nF V.cF, .int .i64 D.stop, .int .i64 (D.cnt : Int), .bool D.off] ∧ Rest N wi h (Dk.tear ch 0 (D.pend.take k) D.sure) (pendZ D.pend) (pendR D.pend) D.fails Gi { V with ss := ss } ∧ Mv N G w0 wi ∧ (∀ b, Gi b → G b ∨ w0.heap.size ≤ b))
  case atStart => exact ⟨0, V.ss, G, by omega, Nat.zero_le _, rfl, T0.out, by rw [List.take_zero]; exact E0.out, Mv.refl _ _ _, fun b hb => .inl hb⟩
  case round =>
    obtain ⟨k, ss, Gi, hkf, hk, rfl, hT, hE, hM, hS⟩ := hrel
    have TR := Lib.hid hT
    have ER := Lib.hid hE
    have MR := Lib.hid hM
    have SR := Lib.hid hS
    have k1 : wr.cell? ⟨h, 1, none⟩ = some (.slice AS sl cS) := hT.cell 1
    have k2 : wr.cell? ⟨h, 2, none⟩ = some (.slice AW pl cW) := hT.cell 2
    have k3 : wr.cell? ⟨h, 3, none⟩ = some (.slice AB pl cB) := hT.cell 3
    clear hT hE hM hS T0 E0
    by_cases hlt : k < pl
    · have t0 : (k : Int) < (pl : Int) := by omega
      have hlk : k < D.pend.length := by have := HPP.out; omega
      have OW := ER.out.oW
      have OB := ER.out.oB
      have OS := ER.out.oS
      rw [pendZ_len, ← HPP.out] at OW
      rw [pendR_len, ← HPP.out] at OB
      rw [Dk.tear_len, ← HSL.out] at OS
      have eW : V.vW = .slice AW pl cW := HEW.out
      have eB : V.vB = .slice AB pl cB := HEB.out
      have eS : V.vS = .slice AS sl cS := HES.out
      have OW : wr.ownsRow N 3 1 (.slice AW pl cW) pl (zv (pendZ D.pend)) := by rw [← eW]; exact OW
      have OB : wr.ownsRow N 23 1 (.slice AB pl cB) pl V.bs := by rw [← eB]; exact OB
      have OS : wr.ownsRow N 23 1 (.slice AS sl cS) sl ss := by rw [← eS]; exact OS
      obtain ⟨bW, hbW, hlW, hcW, _⟩ := own_cellB OW hlt
      obtain ⟨bB, hbB, hlB, hcB, _⟩ := own_cellB OB hlt
      obtain ⟨pw, hpw⟩ : ∃ pw, pw = (D.pend.getD k (0, [])).1 := ⟨_, rfl⟩
      obtain ⟨now, hnow⟩ : ∃ now, now = (D.pend.getD k (0, [])).2 := ⟨_, rfl⟩
      have hmem : D.pend.getD k (0, []) ∈ D.pend := by rw [List.getD_eq_getElem?_getD, List.getElem?_eq_getElem hlk]; exact List.getElem_mem _
      have hpwl : pw < sl := by rw [hpw, HSL.out]; exact (HPB.out _ hmem).1
      have hn64 : now.length = 64 := by rw [hnow]; exact (HPB.out _ hmem).2
      obtain ⟨bS, hbS, hlS, hcS, hfS⟩ := own_cellB OS hpwl
      rw [pendZ_at _ _ hlk, ← hpw] at hcW
      obtain ⟨A1, n1, c1, e1, r1, g1⟩ := ER.out.rB k (by rw [pendR_len]; exact hlk)
      have e1' : V.bs[k]? = some (.slice A1 n1 c1) := e1
      rw [e1'] at hcB
      rw [pendR_at, ← hnow] at r1
      obtain rfl : n1 = 64 := r1.len.symm.trans hn64
      obtain ⟨old, hold⟩ : ∃ old, old = (Dk.tear ch 0 (D.pend.take k) D.sure).getD pw [] := ⟨_, rfl⟩
      have hplt : pw < (Dk.tear ch 0 (D.pend.take k) D.sure).length := by rw [Dk.tear_len, ← HSL.out]; exact hpwl
      have ho64 : old.length = 64 := by
        rw [hold, List.getD_eq_getElem?_getD, List.getElem?_eq_getElem hplt]
        exact Dk.tear_rows ch _ _ _ HRW.out _ (List.getElem_mem _)
      obtain ⟨A2, n2, c2, e2, r2, g2⟩ := ER.out.rS pw hplt
      have e2' : ss[pw]? = some (.slice A2 n2 c2) := e2
      rw [e2'] at hcS
      rw [← hold] at r2
      obtain rfl : n2 = 64 := r2.len.symm.trans ho64
      obtain ⟨C, hC⟩ : ∃ C, C = Dk.choice ch k := ⟨_, rfl⟩
      have C256 : C < 256 := by
        rw [hC, Dk.choice]
        split
        · omega
        · exact UInt8.toNat_lt _
      have HC := Lib.hid hC
      have HO64 := Lib.hid ho64
      have HN64 := Lib.hid hn64
      have STEP := Lib.hid (show (Dk.tear ch 0 (D.pend.take k) D.sure).set pw (Dk.torn C old now) = Dk.tear ch 0 (D.pend.take (k + 1)) D.sure by rw [tear_take _ _ _ _ hlk, ← hpw, ← hnow, ← hold, ← hC])
      have HPW := Lib.hid (show pw < sl ∧ pw < (Dk.tear ch 0 (D.pend.take k) D.sure).length from ⟨hpwl, hplt⟩)
      have HVS := Lib.hid (show V.vS = .slice (some ⟨bS, 0, none⟩) (Dk.tear ch 0 (D.pend.take k) D.sure).length cS by rw [eS, hbS, Dk.tear_len, HSL.out])
      have hneH : h ≠ bS := Ne.symm (ER.out.dS bS (by show V.vS.ownBlock = _; rw [eS, hbS]; rfl)).1
      have hneW : bW ≠ bS := by
        have := ER.out.dW bW (by show V.vW.ownBlock = _; rw [eW, hbW]; rfl)
        exact fun e => this.2.1 (by show V.vS.ownBlock = _; rw [eS, hbS, e]; rfl)
      rw [hbW] at k2
      rw [hbB] at k3
      rw [hbS] at k1
      have KS := Lib.hid (show ∀ X : World, (∀ b, b < wr.heap.size → b ≠ bS → X.heap[b]? = wr.heap[b]?) → X.cell? ⟨h, 1, none⟩ = some (.slice (some ⟨bS, 0, none⟩) sl cS) ∧ X.cell? ⟨h, 2, none⟩ = some (.slice (some ⟨bW, 0, none⟩) pl cW) ∧ X.cell? ⟨bW, k, none⟩ = some (.int .i64 (pw : Int)) from fun X hX =>
        ⟨(World.cell?_of_block (a := ⟨h, 1, none⟩) (hX h TR.out.lt hneH)).trans k1, (World.cell?_of_block (a := ⟨h, 2, none⟩) (hX h TR.out.lt hneH)).trans k2, (World.cell?_of_block (a := ⟨bW, k, none⟩) (hX bW hlW hneW)).trans hcW⟩)
      have KB := Lib.hid (show ∀ X : World, (∀ b, b < wr.heap.size → X.heap[b]? = wr.heap[b]?) → X.cell? ⟨h, 1, none⟩ = some (.slice (some ⟨bS, 0, none⟩) sl cS) ∧ X.cell? ⟨h, 2, none⟩ = some (.slice (some ⟨bW, 0, none⟩) pl cW) ∧ X.cell? ⟨bW, k, none⟩ = some (.int .i64 (pw : Int)) ∧ X.cell? ⟨bS, pw, none⟩ = some (.slice A2 64 c2) from fun X hX =>
        ⟨(World.cell?_of_block (a := ⟨h, 1, none⟩) (hX h TR.out.lt)).trans k1, (World.cell?_of_block (a := ⟨h, 2, none⟩) (hX h TR.out.lt)).trans k2, (World.cell?_of_block (a := ⟨bW, k, none⟩) (hX bW hlW)).trans hcW, (World.cell?_of_block (a := ⟨bS, pw, none⟩) (hX bS hlS)).trans hcS⟩)
      have KN := Lib.hid (show ∀ X : World, (∀ b, b < wr.heap.size → X.heap[b]? = wr.heap[b]?) → X.cell? ⟨h, 3, none⟩ = some (.slice (some ⟨bB, 0, none⟩) pl cB) ∧ X.cell? ⟨bB, k, none⟩ = some (.slice A1 64 c1) from fun X hX =>
        ⟨(World.cell?_of_block (a := ⟨h, 3, none⟩) (hX h TR.out.lt)).trans k3, (World.cell?_of_block (a := ⟨bB, k, none⟩) (hX bB hlB)).trans hcB⟩)
      have KF := Lib.hid (show ∀ X : World, (∀ b, b < wr.heap.size → X.heap[b]? = wr.heap[b]?) → X.frozen? ⟨bS, pw, none⟩ = false ∧ ∃ u, X.cell? ⟨bS, pw, none⟩ = some u from fun X hX => ⟨(World.frozen?_of_block (a := ⟨bS, pw, none⟩) (hX bS hlS)).trans hfS, _, (World.cell?_of_block (a := ⟨bS, pw, none⟩) (hX bS hlS)).trans hcS⟩)
      have R1 := Lib.hid r1
      have R2 := Lib.hid r2
      have HIF := Lib.hid hkf
      have p0 : (pw : Int) < (sl : Int) := by omega
      have RC := Lib.hid (HCH.out _ MR.out.bel)
      have HNH := Lib.hid hneH
      have HLS := Lib.hid hlS
      clear hcW hcB hcS hfS hneW e1 e1' e2 e2' r1 r2 g1 g2 OW OB OS eW eB eS hbW hbB hbS hlW hlB hpw hnow hold hlk hpwl hplt ho64 hn64 hmem hC hneH hlS k1 k2 k3 hkf
      have K2 := (KB.out wr (fun b _ => rfl)).2.1
      go_upto_if 21 with (fail)
      clear K2
      go_cut [7] from 10 to 99 (fun s7 wx => s7 = .int .i64 (C : Int) ∧ wx = wr)
      case first =>
        by_cases hn0 : n' = 0
        · subst hn0
          have ech : ch = [] := List.eq_nil_of_length_eq_zero RC.out.len
          have eC : C = 0 := by rw [HC.out, Dk.choice, if_pos ech]
          go_wp2_with (fail)
          go_meet
          exact ⟨by rw [eC]; rfl, rfl⟩
        · have hn1 : 0 < n' := by omega
          obtain ⟨ba, oa, hea, hba, hat⟩ := RC.out.at_ hn1
          have hm : k % n' < n' := Nat.mod_lt _ hn1
          have hcell := hat (k % n') hm
          have eC : (ch.getD (k % n') 0).toNat = C := by
            rw [HC.out, Dk.choice, if_neg (by intro e; have := RC.out.len; rw [e] at this; simp at this; omega), RC.out.len]
          rw [eC] at hcell
          subst hea
          obtain ⟨m, em⟩ : ∃ m, m = k % n' := ⟨_, rfl⟩
          rw [← em] at hm hcell
          have y1 : (k : Int).tmod (n' : Int) = (m : Int) := by rw [Int.tmod_eq_emod_of_nonneg (Int.natCast_nonneg _), em]; rfl
          have y2 : (k : Int) % (n' : Int) = (m : Int) := by rw [em]; rfl
          have y3 : (0 : Int) < (n' : Int) := by omega
          have y4 : ¬ (n' : Int) = 0 := by omega
          have y5 : (m : Int) < (n' : Int) := by omega
          clear hat eC em
          go_wp2_with (fail)
          go_meet
          exact ⟨rfl, rfl⟩
      case rest =>
        obtain ⟨rfl, hwc⟩ := hcut
        replace hwc := hwc.symm
        subst hwc
        obtain ⟨wq, rfl⟩ : ∃ wq : World, wq = wr := ⟨_, rfl⟩
        have H256 := Lib.hid C256
        clear C256
        have GD := Lib.hid (Below.refl wq.heap.size wq).drew
        have KD := Lib.hid (show ∀ X : World, Below wq.heap.size wq X → X.cell? ⟨h, 1, none⟩ = some (.slice (some ⟨bS, 0, none⟩) sl cS) ∧ X.cell? ⟨h, 2, none⟩ = some (.slice (some ⟨bW, 0, none⟩) pl cW) ∧ X.cell? ⟨bW, k, none⟩ = some (.int .i64 (pw : Int)) ∧ X.cell? ⟨bS, pw, none⟩ = some (.slice A2 64 c2) from fun X hX => KB.out X (fun b hb => hX.block b hb))
        go_upto_region 7 with (fail)
        (go_region_held3 (fun X => X.cell? ⟨h, 1, none⟩ = some (.slice (some ⟨bS, 0, none⟩) sl cS) ∧ X.cell? ⟨h, 2, none⟩ = some (.slice (some ⟨bW, 0, none⟩) pl cW) ∧ X.cell? ⟨bW, k, none⟩ = some (.int .i64 (pw : Int)) ∧ X.cell? ⟨bS, pw, none⟩ = some (.slice A2 64 c2)) (first
          | exact KD.out _ GD.out
          | exact KD.out _ (GD.out.alloc GD.out.size _)
          | exact KD.out _ B8.out) (first
          | (refine step_append_rd (by rfl) (.tmp 30) (.tmp 43) (by rfl) wq.heap.size _ 0 [] (by rfl) (World.ownsRow_lit (base := wq.heap.size) (e := 5) (size := 1) wq.drew #[] 0 GD.out.size (by simp [maxLen]) rfl) A2 64 c2 _ (by rfl) ((R2.out.below GD.out).alloc _) (by omega) (GD.out.alloc GD.out.size _).size ?_; intro v8 x8 o8 g8 at8; obtain ⟨A8, c8, rfl⟩ := own_form o8; have O8 := Lib.hid (own_n o8); have B8 := Lib.hid ((GD.out.alloc GD.out.size _).grown g8 (GD.out.alloc GD.out.size _).size (fun k hk => Nat.le_of_eq (Option.some.inj hk))); clear o8 g8 at8)
          | fail))
        obtain ⟨b8, rfl, hl8, _, _⟩ := own_cellB O8.out (j := 0) (by omega)
        have G8 := Lib.hid (show wq.heap.size ≤ b8 from (O8.out.lt b8 rfl).1)
        have KD2 := KD.out _ B8.out
        clear hl8
        go_wp2_with (fail)
        go_loopg [9] 65 (fun f jv wi => ∃ (j : Nat), j + f = 65 ∧ j ≤ 64 ∧ jv = .int .i64 (j : Int) ∧ wi.ownsRow wq.heap.size 5 1 (.slice (some ⟨b8, 0, none⟩) 64 c8) 64 (bv (tornP C old now j)) ∧ Below wq.heap.size wq wi)
        case atStart => exact ⟨0, by omega, by omega, rfl, by rw [tornP_zero _ _ _ HO64.out]; exact O8.out, B8.out⟩
        case round =>
          clear KD2 O8 B8
          obtain ⟨j, hjf, hj64, rfl, hO, hB⟩ := hrel
          by_cases hj : j < 64
          · have t5 : (j : Int) < 64 := by omega
            have KN2 := KN.out wr (fun b hb => hB.block b hb)
            obtain ⟨kn3, knB⟩ := KN2
            have j2 : ¬ (j : Int) < 0 := by omega
            have hm4 : C % 4 = 0 ∨ C % 4 = 1 ∨ C % 4 = 2 ∨ C % 4 = 3 := by omega
            rcases hm4 with cm | cm | cm | cm
            · have y1 : (C : Int).tmod 4 = 0 := by rw [Int.tmod_eq_emod_of_nonneg (Int.natCast_nonneg _)]; omega
              have y2 : (C : Int) % 4 = 0 := by omega
              have TJ := Lib.hid (tornP_miss (c := C) (k := j) old now (show ¬ tears C j by unfold tears; omega))
              have OX := Lib.hid hO
              rw [← TJ.out] at OX
              have BX := Lib.hid hB
              clear hO hB
              have HJ := Lib.hid (show j + gk = 65 ∧ j < 64 from ⟨hjf, hj⟩)
              clear cm hjf hj64 hj
              go_wp2_with (fail)
              go_roundg (gk - 1)
              case rel => have := HJ.out; exact ⟨j + 1, by omega, by omega, by go_num, OX.out, BX.out⟩
              case measure => have := HJ.out; omega
            · have y1 : (C : Int).tmod 4 = 1 := by rw [Int.tmod_eq_emod_of_nonneg (Int.natCast_nonneg _)]; omega
              have y2 : (C : Int) % 4 = 1 := by omega
              have TJ := Lib.hid (tornP_hit old now hj (show tears C j by unfold tears; omega))
              have hs := hO.stored j
              have hf := hO.frozenAt j
              obtain ⟨uo, hc⟩ : ∃ uo, wr.cell? ⟨b8, j, none⟩ = some uo := ⟨_, by have hc := hO.cellAt j (by omega); rw [bv_at _ _ (by rw [tornP_len]; omega)] at hc; exact hc⟩
              have BX := Lib.hid (hB.setCell (p := ⟨b8, j, none⟩) G8.out (.int .u8 ((now.getD j 0).toNat : Int)))
              have OX := Lib.hid (show (wr.setCell ⟨b8, j, none⟩ (.int .u8 ((now.getD j 0).toNat : Int))).ownsRow wq.heap.size 5 1 (.slice (some ⟨b8, 0, none⟩) 64 c8) 64 (bv (tornP C old now (j + 1))) by rw [TJ.out, ← bv_set]; exact (hs _).1)
              obtain ⟨A9, e9, n9⟩ : ∃ bx ox, A1 = some ⟨bx, ox, none⟩ ∧ wr.cell? ⟨bx, ox + j, none⟩ = some (.int .u8 ((now.getD j 0).toNat : Int)) := by
                obtain ⟨bx, ox, q1, q2, q3⟩ := (R1.out.below hB).at_ (by omega)
                exact ⟨bx, ox, q1, q3 j hj⟩
              obtain ⟨rfl, n9⟩ := n9
              obtain ⟨nj, hnj⟩ : ∃ nj, nj = (now.getD j 0).toNat := ⟨_, rfl⟩
              rw [← hnj] at n9 BX OX
              clear hs hO hB hnj
              have HJ := Lib.hid (show j + gk = 65 ∧ j < 64 from ⟨hjf, hj⟩)
              clear cm hjf hj64 hj
              go_wp2_with (fail)
              go_roundg (gk - 1)
              case rel => have := HJ.out; exact ⟨j + 1, by omega, by omega, by go_num, OX.out, BX.out⟩
              case measure => have := HJ.out; omega
            · have y1 : (C : Int).tmod 4 = 2 := by rw [Int.tmod_eq_emod_of_nonneg (Int.natCast_nonneg _)]; omega
              have y2 : (C : Int) % 4 = 2 := by omega
              obtain ⟨q, hq⟩ : ∃ q, q = C / 4 := ⟨_, rfl⟩
              have y3 : (C : Int).tdiv 4 = (q : Int) := by rw [Int.tdiv_eq_ediv_of_nonneg (Int.natCast_nonneg _), hq]; rfl
              have y4 : (C : Int) / 4 = (q : Int) := by rw [hq]; rfl
              have q64 : q < 64 := by have := H256.out; omega
              by_cases hjq : j < q
              · have y5 : (j : Int) < (q : Int) := by omega
                have y6 : ¬ (q : Int) ≤ (j : Int) := by omega
                have TJ := Lib.hid (tornP_hit old now hj (show tears C j by unfold tears; omega))
                have hs := hO.stored j
                have hf := hO.frozenAt j
                obtain ⟨uo, hc⟩ : ∃ uo, wr.cell? ⟨b8, j, none⟩ = some uo := ⟨_, by have hc := hO.cellAt j (by omega); rw [bv_at _ _ (by rw [tornP_len]; omega)] at hc; exact hc⟩
                have BX := Lib.hid (hB.setCell (p := ⟨b8, j, none⟩) G8.out (.int .u8 ((now.getD j 0).toNat : Int)))
                have OX := Lib.hid (show (wr.setCell ⟨b8, j, none⟩ (.int .u8 ((now.getD j 0).toNat : Int))).ownsRow wq.heap.size 5 1 (.slice (some ⟨b8, 0, none⟩) 64 c8) 64 (bv (tornP C old now (j + 1))) by rw [TJ.out, ← bv_set]; exact (hs _).1)
                obtain ⟨A9, e9, n9⟩ : ∃ bx ox, A1 = some ⟨bx, ox, none⟩ ∧ wr.cell? ⟨bx, ox + j, none⟩ = some (.int .u8 ((now.getD j 0).toNat : Int)) := by
                  obtain ⟨bx, ox, q1, q2, q3⟩ := (R1.out.below hB).at_ (by omega)
                  exact ⟨bx, ox, q1, q3 j hj⟩
                obtain ⟨rfl, n9⟩ := n9
                obtain ⟨nj, hnj⟩ : ∃ nj, nj = (now.getD j 0).toNat := ⟨_, rfl⟩
                rw [← hnj] at n9 BX OX
                clear hs hO hB hnj
                have HJ := Lib.hid (show j + gk = 65 ∧ j < 64 from ⟨hjf, hj⟩)
                clear cm hjf hj64 hj hjq hq
                go_wp2_with (fail)
                go_roundg (gk - 1)
                case rel => have := HJ.out; exact ⟨j + 1, by omega, by omega, by go_num, OX.out, BX.out⟩
                case measure => have := HJ.out; omega
              · have y5 : ¬ (j : Int) < (q : Int) := by omega
                have y6 : (q : Int) ≤ (j : Int) := by omega
                have TJ := Lib.hid (tornP_miss (c := C) (k := j) old now (show ¬ tears C j by unfold tears; omega))
                have OX := Lib.hid hO
                rw [← TJ.out] at OX
                have BX := Lib.hid hB
                clear hO hB
                have HJ := Lib.hid (show j + gk = 65 ∧ j < 64 from ⟨hjf, hj⟩)
                clear cm hjf hj64 hj hjq hq
                go_wp2_with (fail)
                go_roundg (gk - 1)
                case rel => have := HJ.out; exact ⟨j + 1, by omega, by omega, by go_num, OX.out, BX.out⟩
                case measure => have := HJ.out; omega
            · have y1 : (C : Int).tmod 4 = 3 := by rw [Int.tmod_eq_emod_of_nonneg (Int.natCast_nonneg _)]; omega
              have y2 : (C : Int) % 4 = 3 := by omega
              obtain ⟨q, hq⟩ : ∃ q, q = C / 4 := ⟨_, rfl⟩
              have y3 : (C : Int).tdiv 4 = (q : Int) := by rw [Int.tdiv_eq_ediv_of_nonneg (Int.natCast_nonneg _), hq]; rfl
              have y4 : (C : Int) / 4 = (q : Int) := by rw [hq]; rfl
              have q64 : q < 64 := by have := H256.out; omega
              by_cases hjq : j < q
              · have y5 : (j : Int) < (q : Int) := by omega
                have y6 : ¬ (q : Int) ≤ (j : Int) := by omega
                have TJ := Lib.hid (tornP_miss (c := C) (k := j) old now (show ¬ tears C j by unfold tears; omega))
                have OX := Lib.hid hO
                rw [← TJ.out] at OX
                have BX := Lib.hid hB
                clear hO hB
                have HJ := Lib.hid (show j + gk = 65 ∧ j < 64 from ⟨hjf, hj⟩)
                clear cm hjf hj64 hj hjq hq
                go_wp2_with (fail)
                go_roundg (gk - 1)
                case rel => have := HJ.out; exact ⟨j + 1, by omega, by omega, by go_num, OX.out, BX.out⟩
                case measure => have := HJ.out; omega
              · have y5 : ¬ (j : Int) < (q : Int) := by omega
                have y6 : (q : Int) ≤ (j : Int) := by omega
                have TJ := Lib.hid (tornP_hit old now hj (show tears C j by unfold tears; omega))
                have hs := hO.stored j
                have hf := hO.frozenAt j
                obtain ⟨uo, hc⟩ : ∃ uo, wr.cell? ⟨b8, j, none⟩ = some uo := ⟨_, by have hc := hO.cellAt j (by omega); rw [bv_at _ _ (by rw [tornP_len]; omega)] at hc; exact hc⟩
                have BX := Lib.hid (hB.setCell (p := ⟨b8, j, none⟩) G8.out (.int .u8 ((now.getD j 0).toNat : Int)))
                have OX := Lib.hid (show (wr.setCell ⟨b8, j, none⟩ (.int .u8 ((now.getD j 0).toNat : Int))).ownsRow wq.heap.size 5 1 (.slice (some ⟨b8, 0, none⟩) 64 c8) 64 (bv (tornP C old now (j + 1))) by rw [TJ.out, ← bv_set]; exact (hs _).1)
                obtain ⟨A9, e9, n9⟩ : ∃ bx ox, A1 = some ⟨bx, ox, none⟩ ∧ wr.cell? ⟨bx, ox + j, none⟩ = some (.int .u8 ((now.getD j 0).toNat : Int)) := by
                  obtain ⟨bx, ox, q1, q2, q3⟩ := (R1.out.below hB).at_ (by omega)
                  exact ⟨bx, ox, q1, q3 j hj⟩
                obtain ⟨rfl, n9⟩ := n9
                obtain ⟨nj, hnj⟩ : ∃ nj, nj = (now.getD j 0).toNat := ⟨_, rfl⟩
                rw [← hnj] at n9 BX OX
                clear hs hO hB hnj
                have HJ := Lib.hid (show j + gk = 65 ∧ j < 64 from ⟨hjf, hj⟩)
                clear cm hjf hj64 hj hjq hq
                go_wp2_with (fail)
                go_roundg (gk - 1)
                case rel => have := HJ.out; exact ⟨j + 1, by omega, by omega, by go_num, OX.out, BX.out⟩
                case measure => have := HJ.out; omega
          · have t5 : ¬ (j : Int) < 64 := by omega
            obtain rfl : j = 64 := by omega
            rw [tornP_full] at hO
            have GW := Lib.hid (Below.drew hB)
            have RX := Lib.hid ((Rd.own hO).drew)
            have FR := Lib.hid (Rest.fresh ER.out GW.out RX.out (fun a _ e => by injection e with e; rw [← e]; exact G8.out))
            have SET := Lib.hid (Rest.setS (bS := bS) (cS := cS) (i := pw) (u := .slice (some ⟨b8, 0, none⟩) 64 c8) (xs := Dk.torn C old now) FR.out.1 HVS.out HPW.out.2 FR.out.2.1)
            have KS1 := KS.out wr (fun b hb _ => hB.block b hb)
            obtain ⟨ks1, ks2, ksW⟩ := KS1
            obtain ⟨f9, u9, c9⟩ := KF.out wr.drew (fun b hb => GW.out.block b hb)
            have T3 := Lib.hid ((TR.out.below GW.out TR.out.lt).far (p := ⟨bS, pw, none⟩) HNH.out (.slice (some ⟨b8, 0, none⟩) 64 c8))
            have M3 := Lib.hid (MR.out.trans ((Mv.of (N := N) (F := Gi) (Nat.le_trans (Nat.le_trans GN.out.2.2 B0.out.size) MR.out.size) GW.out).trans SET.out.2 FR.out.2.2) SR.out)
            have S3 := Lib.hid (show ∀ b, (Gi b ∨ ∃ a, 0 < 64 ∧ some (⟨b8, 0, none⟩ : Addr) = some a ∧ a.block = b) → G b ∨ w0.heap.size ≤ b from fun b hb => by
              rcases FR.out.2.2 b hb with q | q
              · exact SR.out b q
              · exact .inr (Nat.le_trans MR.out.size q))
            have E3 := Lib.hid SET.out.1
            rw [STEP.out] at E3
            have HB := Lib.hid hB
            clear hO hB hjf hj64 hj SET FR
            go_upto_region 13 with (fail)
            clear ks1 ks2 ksW
            (go_region_held3 (fun X => X.cell? ⟨h, 1, none⟩ = some (.slice (some ⟨bS, 0, none⟩) sl cS) ∧ X.cell? ⟨h, 2, none⟩ = some (.slice (some ⟨bW, 0, none⟩) pl cW) ∧ X.cell? ⟨bW, k, none⟩ = some (.int .i64 (pw : Int))) (first
              | exact KS.out _ (fun b hb hne => (Below.heap_setCell _ ⟨bS, pw, none⟩ _ b hne).trans (GW.out.block b hb))
              | exact KS.out _ (fun b hb _ => GW.out.block b hb)) (fail))
            obtain ⟨w5, hw5⟩ : ∃ w5, w5 = (wr.setCell ⟨bS, pw, none⟩ (.slice (some ⟨b8, 0, none⟩) 64 c8)).drew := ⟨_, rfl⟩
            have conv : wr.drew.setCell ⟨bS, pw, none⟩ (.slice (some ⟨b8, 0, none⟩) 64 c8) = w5 := by rw [hw5]; rfl
            rw [conv] at T3 E3 M3
            first
              | rw [← hw5]
              | rw [conv]
              | skip
            clear conv hw5 c9 f9
            have hkm : k + 1 ≤ 9223372036854775807 := by have := HMX.out; omega
            go_wp2_with (fail)
            go_roundg (pl - k)
            case rel => have := HIF.out; exact ⟨k + 1, _, _, by omega, by omega, by go_num, T3.out, E3.out, M3.out, S3.out⟩
            case measure => have := HIF.out; omega
    · have t0 : ¬ (k : Int) < (pl : Int) := by omega
      obtain rfl : k = pl := by omega
      clear hlt
      have f2 := TR.out.frozen 2
      have f3 := TR.out.frozen 3
      have f4 := TR.out.frozen 4
      have f5 := TR.out.frozen 5
      have f6 := TR.out.frozen 6
      have f7 := TR.out.frozen 7
      have k4 : wr.cell? ⟨h, 4, none⟩ = some (.slice V.AF V.nF V.cF) := TR.out.cell 4
      have k5 : wr.cell? ⟨h, 5, none⟩ = some (.int .i64 D.stop) := TR.out.cell 5
      have k6 : wr.cell? ⟨h, 6, none⟩ = some (.int .i64 (D.cnt : Int)) := TR.out.cell 6
      have k7 : wr.cell? ⟨h, 7, none⟩ = some (.bool D.off) := TR.out.cell 7
      have PR := Lib.hid (MR.out.bk P0.out GP.out)
      have hPh : P ≠ h := fun e => GP.out (e ▸ GN.out.2.1)
      have p0 : wr.cell? ⟨P, 0, none⟩ = some (.slice A n c) := PR.out.cell 0
      have p1 : wr.cell? ⟨P, 1, none⟩ = some (.int .i64 st) := PR.out.cell 1
      have TF := Lib.hid ((((((TR.out.put 2 (.slice none 0 0)).put 3 (.slice none 0 0)).put 4 (.slice A n c)).put 5 (.int .i64 st)).put 6 (.int .i64 0)).put 7 (.bool false))
      have EF := Lib.hid ((((((ER.out.nil.poke 2 (.slice none 0 0)).poke 3 (.slice none 0 0)).poke 4 (.slice A n c)).poke 5 (.int .i64 st)).poke 6 (.int .i64 0)).poke 7 (.bool false))
      rw [show D.pend.take k = D.pend by rw [HPP.out, List.take_length]] at EF
      have GI := Lib.hid (show Gi h from ER.out.inG h (.inl rfl))
      have MF := Lib.hid (show Mv N Gi wr _ from ((((((Mv.poke (G := Gi) GN.out.1 GI.out wr 2 (.slice none 0 0)).trans (Mv.poke (G := Gi) GN.out.1 GI.out _ 3 (.slice none 0 0)) (fun b hb => .inl hb)).trans (Mv.poke (G := Gi) GN.out.1 GI.out _ 4 (.slice A n c)) (fun b hb => .inl hb)).trans (Mv.poke (G := Gi) GN.out.1 GI.out _ 5 (.int .i64 st)) (fun b hb => .inl hb)).trans (Mv.poke (G := Gi) GN.out.1 GI.out _ 6 (.int .i64 0)) (fun b hb => .inl hb)).trans (Mv.poke (G := Gi) GN.out.1 GI.out _ 7 (.bool false)) (fun b hb => .inl hb)))
      go_wp2_with (fail)
      refine bodyPost_end (results_none rfl _ _ _) rfl ?_
      have MA := (Mv.of (N := N) (F := G) GN.out.2.2 B0.out).trans (MR.out.trans MF.out SR.out) (fun b hb => .inl hb)
      refine ⟨rfl, Gi, ⟨HOK.out, { V with ss := ss, vW := .slice none 0 0, vB := .slice none 0 0, bs := [], AF := A, nF := n, cF := c }, ?_, ?_⟩, fun b hb => ?_, MA⟩
      · have q := TF.out
        rw [← HES.out] at q
        exact q
      · exact Rest.plan EF.out (HFS.out _ MA.bel) (fun a h1 h2 => ⟨.inl (HAN.out a h1 h2), EF.out.notSpine (HAN.out a h1 h2)⟩)
      · rcases SR.out b hb with q | q
        · exact .inl q
        · exact .inr (Nat.le_trans B0.out.size q)
end Go.Proofs.YtnoflgkjdibblaaGreatDoor.S19

/-
  How an argument that came in reads: an array of numbers.
-/
namespace Go.Proofs.YtnoflgkjdibblaaGreatDoor
set_option linter.unusedSimpArgs false
set_option linter.unusedVariables false
open Go.ChangeShapes Go.WideShapes Go.ChangeAt Go.RowKit

def numOf (v : Value) : Int := match v with
  | .int _ z => z
  | _ => 0
theorem own_ : ownKnob Tryz.prog.godebug = none := by kernel_rfl
theorem laid_ : laidOutB Tryz.prog = true := by kernel_rfl
theorem places_lt {H : Type} {enc : TypeId × Value → H} {W : World} {t : TypeId} {v : Value} {d : DataW H} {p : List MemPlace}
    (h : DataW.Trod enc Tryz.prog W 0 (fun _ => true) true t v d p) : ∀ x ∈ p, x.block < W.heap.size := by
  obtain ⟨m, hm⟩ := h
  exact DataW.trod_lt m _ _ _ hm
end Go.Proofs.YtnoflgkjdibblaaGreatDoor

/-
  How an argument that came in reads: a row of bytes.
-/
namespace Go.Proofs.YtnoflgkjdibblaaGreatDoor
set_option linter.unusedSimpArgs false
set_option linter.unusedVariables false
set_option maxRecDepth 4096
open Go.ChangeShapes Go.WideShapes Go.ChangeAt Go.RowKit

theorem rd_of_cells {w : World} {x : Addr} {len cap : Nat} {zs : List Int} (hl : len ≤ cap) (hm : cap ≤ maxLen) (hz : zs.length = cap)
    (hc : ∀ i, i < zs.length → w.cell? (x.add i) = some (.int .u8 (zs.getD i 0))) (hwf : ∀ n ∈ zs, (Lit.int .u8 n).wf = true) : ∃ xs, Rd w (some x) len cap xs := by
  refine ⟨(zs.take len).map fun z => UInt8.ofNat z.toNat, by simp; omega, hl, hm, (fun h => by cases h), fun hn => ?_⟩
  obtain ⟨b, off, rfl, hcell⟩ := ints_at hc (by omega)
  refine ⟨b, off, rfl, ?_, fun j hj => ?_⟩
  · have := hcell 0 (by omega)
    exact World.block_lt_of_cell? w _ this
  · rw [hcell j (by omega)]
    have hj' : j < zs.length := by omega
    have hw := hwf zs[j] (List.getElem_mem hj')
    have hb := bounds_u8 hw
    simp only [List.getD_eq_getElem?_getD, List.getElem?_eq_getElem hj', List.getElem?_map, List.getElem?_take, if_pos hj, Option.map_some, Option.getD_some, UInt8.toNat_ofNat']
    congr 2
    omega

end Go.Proofs.YtnoflgkjdibblaaGreatDoor
