/-
  Texts put together: DkE, DkF. No statement is proved here.
-/
import Derived.Test.YtdbamdbdogdpjaaGreatDoorWa12

/-
  The document's own disk: a new one. No statement is proved here. (Written by gendke.py.)
-/
namespace Go.Proofs.YtdbamdbdogdpjaaGreatDoor.S19
set_option linter.unusedSimpArgs false
set_option linter.unusedVariables false
set_option maxRecDepth 4096
open Go.RowKit

set_option maxHeartbeats 8000000 in
theorem rnewD_any (N : Nat) (w : World) (k : Nat) (hN : N ≤ w.heap.size) (h1 : 1 ≤ k) (h2 : k ≤ 256) : Calls Tryz.prog 6 #[.int .i64 (k : Int)] w fun e w' => ∃ h G, e = .returned (.pointer (some ⟨h, 0, none⟩)) ∧ Rk N w' h (.slice none 0 0) (Dk.new k) G ∧ (∀ b, G b → w.heap.size ≤ b) ∧ Below w.heap.size w w' := by
  obtain ⟨i8, hi8, hz80, hz81, hz82⟩ := info_parts Tryz.infoU8
  have HI8 := Lib.hid hi8
  clear hi8
  obtain ⟨h, hh⟩ : ∃ h, w.heap.size = h := ⟨_, rfl⟩
  obtain ⟨w1, hw1⟩ : ∃ w1, w.alloc (.cells #[.slice none 0 0, .slice none 0 0, .slice none 0 0, .slice none 0 0, .slice none 0 0, .int .i64 0, .int .i64 0, .bool false] 52) = w1 := ⟨_, rfl⟩
  have T1 := Lib.hid (show Bk w1 h 52 #[.slice none 0 0, .slice none 0 0, .slice none 0 0, .slice none 0 0, .slice none 0 0, .int .i64 0, .int .i64 0, .bool false] by rw [← hw1]; exact Bk.newAt _ _ _ _ hh)
  have B1 := Lib.hid (show Below h w w1 by rw [← hw1, ← hh]; exact (Below.refl _ _).alloc (Nat.le_refl _) _)
  have E1 := Lib.hid (show Rest N w1 h [] [] [] [] (fun b => b = h) ⟨.slice none 0 0, [], .slice none 0 0, .slice none 0 0, [], none, 0, 0⟩ from Rest.start (by rw [← hh]; exact hN) T1.out.lt)
  have HH := Lib.hid hh
  have HNN := Lib.hid (show N ≤ h by rw [← hh]; exact hN)
  go_enter Tryz.func6, Tryz.ntmps6
  go_upto_region 2 with (fail)
  first
    | rw [hw1, hh]
    | rw [hw1]
    | rw [hh]
    | skip
  clear hw1 hh hN
  go_wp2_with (fail)
  go_loopw [4] (fun jv wi => ∃ (j : Nat) (vS : Value) (ss : List Value) (G : Nat → Prop), j ≤ k ∧ jv = .int .i64 (j : Int) ∧ Bk wi h 52 #[.slice none 0 0, vS, .slice none 0 0, .slice none 0 0, .slice none 0 0, .int .i64 0, .int .i64 0, .bool false] ∧ Rest N wi h (List.replicate j (List.replicate 64 0)) [] [] [] G ⟨vS, ss, .slice none 0 0, .slice none 0 0, [], none, 0, 0⟩ ∧ (∀ b, G b → h ≤ b) ∧ Below h w wi)
    (fun jv _ => k - (intOf jv).toNat)
  case atStart => exact ⟨0, .slice none 0 0, [], _, Nat.zero_le _, rfl, T1.out, E1.out, fun b e => Nat.le_of_eq e.symm, B1.out⟩
  case round =>
    obtain ⟨j, vS, ss, G, hj, rfl, hT, hE, hG, hB⟩ := hrel
    have TR := Lib.hid hT
    have ER := Lib.hid hE
    have GR := Lib.hid hG
    have BR := Lib.hid hB
    clear hT hE hG hB T1 E1 B1
    by_cases hlt : j < k
    · have t0 : (j : Int) < (k : Int) := by omega
      have HGH := Lib.hid (show G h from ER.out.inG h (.inl rfl))
      have HSZ := Lib.hid (show h < wr.heap.size from TR.out.lt)
      go_upto_region 5 with (fail)
      refine wp_region_any (by kernel_rfl) ?_
      rename_i K hK
      obtain ⟨wd, hwd⟩ : ∃ wd, wr.drew = wd := ⟨_, rfl⟩
      have D0 : Below wr.heap.size wr wd := by rw [← hwd]; exact (Below.refl _ _).drew
      change wpAny _ _ _ _ _ _ _ wr.drew
      rw [hwd]
      clear hwd
      have T4 := TR.out.below D0 TR.out.lt
      have MK := run_makeSlice_full (P := Tryz.prog) (w := wd) wr.heap.size 35 5 i8 (.int .u8 0) 1 Tryz.underlying35 HI8.out hz80 hz81 .i64 .i64 64 (by omega) (by rw [hz82]; omega) (by unfold maxLen; omega) D0.size
      obtain ⟨w5, m1, m2, m3⟩ := MK
      have m1' : (Instr.makeSlice 35 (.int .i64 64) (.int .i64 64)).run Tryz.prog wd = .ok (.slice (some ⟨wd.heap.size, 0, none⟩) 64 64) w5 := m1
      have O5 : w5.ownsRow wr.heap.size 5 1 (.slice (some ⟨wd.heap.size, 0, none⟩) 64 64) 64 (bv (List.replicate 64 0)) := by rw [← bv_zero]; exact m2
      have B5 : Below wr.heap.size wr w5 := D0.grown m3 D0.size (fun q e => by cases e)
      have T5 := TR.out.below B5 TR.out.lt
      have N5 := B5.size
      refine wpAny_of_held (S := fun _ => True) _ _ _ _ ?_
      refine RD.h_take 0 (.pointer (some ⟨h, 0, none⟩)) rfl (by kernel_rfl) (by kernel_rfl) (by kernel_rfl) (fun _ _ _ h => h) (by rfl) trivial (fun X hX => ?_) ?_
      · go_simp
      simp only [Act.put, List.setIfInBounds_toArray, List.set_cons_zero, List.set_cons_succ]
      refine RD.h_take 1 (.pointer (some ⟨h, 0, none⟩)) rfl (by kernel_rfl) (by kernel_rfl) (by kernel_rfl) (fun _ _ _ h => h) (by rfl) trivial (fun X hX => ?_) ?_
      · go_simp
      simp only [Act.put, List.setIfInBounds_toArray, List.set_cons_zero, List.set_cons_succ]
      refine RD.h_take 2 (.pointer (some ⟨h, 0, none⟩)) rfl (by kernel_rfl) (by kernel_rfl) (by kernel_rfl) (fun _ _ _ h => h) (by rfl) trivial (fun X hX => ?_) ?_
      · go_simp
      simp only [Act.put, List.setIfInBounds_toArray, List.set_cons_zero, List.set_cons_succ]
      refine RD.h_take 3 (.pointer (some ⟨h, 1, none⟩)) rfl (by kernel_rfl) (by kernel_rfl) (by kernel_rfl) (fun _ _ _ h => h) (by rfl) trivial (fun X hX => ?_) ?_
      · go_simp
      simp only [Act.put, List.setIfInBounds_toArray, List.set_cons_zero, List.set_cons_succ]
      refine RD.h_any [4, 5] (by kernel_rfl) (by simp) (RD.two_of ?_ ?_)
      · refine RD.h_run vS (wd) rfl (by rfl) (by have c3 := T4.cell 1; simp only [List.getElem?_toArray, List.getElem?_cons_zero, List.getElem?_cons_succ] at c3; go_simp) ⟨trivial, ?_⟩
        simp only [Act.put, List.setIfInBounds_toArray, List.set_cons_zero, List.set_cons_succ]
        refine RD.h_any [5] (by kernel_rfl) (by simp) (RD.one_of ?_)
        refine RD.h_run (.slice (some ⟨wd.heap.size, 0, none⟩) 64 64) w5 rfl (by rfl) (by go_simp) ⟨trivial, ?_⟩
        simp only [Act.put, List.setIfInBounds_toArray, List.set_cons_zero, List.set_cons_succ]
        refine RD.h_any [6] (by kernel_rfl) (by simp) (RD.one_of ?_)
        refine RD.h_run (.slice (some ⟨w5.heap.size, 0, none⟩) 1 1) (w5.alloc (.cells #[.slice (some ⟨wd.heap.size, 0, none⟩) 64 64] 35)) rfl (by rfl) (by go_simp) ⟨trivial, ?_⟩
        simp only [Act.put, List.setIfInBounds_toArray, List.set_cons_zero, List.set_cons_succ]
        have T6 := T5.alloc (.cells #[.slice (some ⟨wd.heap.size, 0, none⟩) 64 64] 35)
        refine RD.h_any [7] (by kernel_rfl) (by simp) (RD.one_of ?_)
        have BC : Below wr.heap.size wr (w5.alloc (.cells #[.slice (some ⟨wd.heap.size, 0, none⟩) 64 64] 35)) := B5.alloc B5.size _
        have OSS : wr.ownsRow N 35 1 vS j ss := by have := ER.out.oS; rwa [List.length_replicate] at this
        refine RD.h_op rfl (step_append_bs (by rfl) (.tmp 16) (.tmp 18) rfl N vS j ss rfl (own_below OSS BC) w5.heap.size (.slice (some ⟨wd.heap.size, 0, none⟩) 64 64) rfl rfl (by simp) (by omega) (Nat.le_trans ER.out.lo BC.size) (fun v8 w8 h1 h2 h3 => ⟨trivial, ?_⟩))
        obtain ⟨A8, c8, hv8⟩ := own_form h1
        obtain ⟨wl, hwl⟩ : ∃ wl, wl = w5.alloc (.cells #[.slice (some ⟨wd.heap.size, 0, none⟩) 64 64] 35) := ⟨_, rfl⟩
        have RL9 : Rd wl (some ⟨wd.heap.size, 0, none⟩) 64 64 (List.replicate 64 0) := by rw [hwl]; exact (Rd.own O5).alloc _
        have TL : Bk wl h 52 #[.slice none 0 0, vS, .slice none 0 0, .slice none 0 0, .slice none 0 0, .int .i64 0, .int .i64 0, .bool false] := by rw [hwl]; exact T6
        rw [← hwl] at BC h2 h3
        have PB := Lib.hid (Rest.pushS (w := wr) (wl := wl) (w' := w8) (v' := v8) (u := .slice (some ⟨wd.heap.size, 0, none⟩) 64 64) (xs := List.replicate 64 0) (A := some ⟨wd.heap.size, 0, none⟩) (n := 64) (c := 64) ER.out BC (by rw [List.length_append, List.length_singleton, List.length_replicate]; exact h1) h2 h3 (own_ltB h1) rfl RL9 (fun a _ e => by injection e with e; rw [← e]; exact D0.size))
        have T9 := TL.only h2 (fun e => (ER.out.dS h e.symm).1 rfl)
        have B9 : Below h w w8 := (BR.out.trans (BC.mono (Nat.le_of_lt HSZ.out))).grown h2 (Nat.le_trans (Nat.le_of_lt HSZ.out) BC.size) (fun q e => GR.out q (ER.out.inG q (.inr (.inl e))))
        subst hv8
        simp only [Act.put, List.setIfInBounds_toArray, List.set_cons_zero, List.set_cons_succ]
        refine RD.h_any [8] (by kernel_rfl) (by simp) (RD.one_of ?_)
        refine RD.h_run (.pointer (some ⟨h, 0, none⟩)) w8 rfl (by rfl) (by go_simp) ⟨trivial, ?_⟩
        simp only [Act.put, List.setIfInBounds_toArray, List.set_cons_zero, List.set_cons_succ]
        refine RD.h_any [9] (by kernel_rfl) (by simp) (RD.one_of ?_)
        refine RD.h_run (.pointer (some ⟨h, 1, none⟩)) w8 rfl (by rfl) (by go_simp) ⟨trivial, ?_⟩
        simp only [Act.put, List.setIfInBounds_toArray, List.set_cons_zero, List.set_cons_succ]
        refine RD.h_any [10] (by kernel_rfl) (by simp) (RD.one_of ?_)
        refine RD.h_skip (w8.setCell ⟨h, 1, none⟩ (.slice A8 (j + 1) c8)) rfl (by rfl) (by have c3 := T9.cell 1; have fz := T9.frozen 1; simp only [List.getElem?_toArray, List.getElem?_cons_zero, List.getElem?_cons_succ] at c3; go_simp) ⟨trivial, ?_⟩
        simp only [Act.put, List.setIfInBounds_toArray, List.set_cons_zero, List.set_cons_succ]
        refine RD.h_done (by kernel_rfl) ?_
        change K _ _
        apply hK
        have TF := Lib.hid (T9.put 1 (.slice A8 (j + 1) c8))
        have EF := Lib.hid (PB.out.1.poke 1 (.slice A8 (j + 1) c8))
        rw [show List.replicate j (List.replicate 64 (0 : UInt8)) ++ [List.replicate 64 0] = List.replicate (j + 1) (List.replicate 64 0) from List.replicate_succ'.symm] at EF
        have BF := Lib.hid (B9.setCell (p := ⟨h, 1, none⟩) (Nat.le_refl _) (.slice A8 (j + 1) c8))
        have GF := Lib.hid (show ∀ x, (plus G (Value.slice A8 (j + 1) c8) x ∨ ∃ a, 0 < 64 ∧ (some (⟨wd.heap.size, 0, none⟩ : Addr)) = some a ∧ a.block = x) → h ≤ x from fun x hx => by
          rcases PB.out.2.2 x hx with e | e
          · exact GR.out x e
          · have := HSZ.out; omega)
        generalize w8.setCell ⟨h, 1, none⟩ (.slice A8 (j + 1) c8) = w9 at *
        go_wp2_with (fail)
        go_roundw
        case rel => exact ⟨j + 1, _, _, _, by omega, by go_num, TF.out, EF.out, GF.out, BF.out⟩
        case measure => simp [intOf]; omega
      · refine RD.h_run (.slice (some ⟨wd.heap.size, 0, none⟩) 64 64) w5 rfl (by rfl) (by go_simp) ⟨trivial, ?_⟩
        simp only [Act.put, List.setIfInBounds_toArray, List.set_cons_zero, List.set_cons_succ]
        refine RD.h_any [4, 6] (by kernel_rfl) (by simp) (RD.two_of ?_ ?_)
        · refine RD.h_run vS (w5) rfl (by rfl) (by have c3 := T5.cell 1; simp only [List.getElem?_toArray, List.getElem?_cons_zero, List.getElem?_cons_succ] at c3; go_simp) ⟨trivial, ?_⟩
          simp only [Act.put, List.setIfInBounds_toArray, List.set_cons_zero, List.set_cons_succ]
          refine RD.h_any [6] (by kernel_rfl) (by simp) (RD.one_of ?_)
          refine RD.h_run (.slice (some ⟨w5.heap.size, 0, none⟩) 1 1) (w5.alloc (.cells #[.slice (some ⟨wd.heap.size, 0, none⟩) 64 64] 35)) rfl (by rfl) (by go_simp) ⟨trivial, ?_⟩
          simp only [Act.put, List.setIfInBounds_toArray, List.set_cons_zero, List.set_cons_succ]
          have T6 := T5.alloc (.cells #[.slice (some ⟨wd.heap.size, 0, none⟩) 64 64] 35)
          refine RD.h_any [7] (by kernel_rfl) (by simp) (RD.one_of ?_)
          have BC : Below wr.heap.size wr (w5.alloc (.cells #[.slice (some ⟨wd.heap.size, 0, none⟩) 64 64] 35)) := B5.alloc B5.size _
          have OSS : wr.ownsRow N 35 1 vS j ss := by have := ER.out.oS; rwa [List.length_replicate] at this
          refine RD.h_op rfl (step_append_bs (by rfl) (.tmp 16) (.tmp 18) rfl N vS j ss rfl (own_below OSS BC) w5.heap.size (.slice (some ⟨wd.heap.size, 0, none⟩) 64 64) rfl rfl (by simp) (by omega) (Nat.le_trans ER.out.lo BC.size) (fun v8 w8 h1 h2 h3 => ⟨trivial, ?_⟩))
          obtain ⟨A8, c8, hv8⟩ := own_form h1
          obtain ⟨wl, hwl⟩ : ∃ wl, wl = w5.alloc (.cells #[.slice (some ⟨wd.heap.size, 0, none⟩) 64 64] 35) := ⟨_, rfl⟩
          have RL9 : Rd wl (some ⟨wd.heap.size, 0, none⟩) 64 64 (List.replicate 64 0) := by rw [hwl]; exact (Rd.own O5).alloc _
          have TL : Bk wl h 52 #[.slice none 0 0, vS, .slice none 0 0, .slice none 0 0, .slice none 0 0, .int .i64 0, .int .i64 0, .bool false] := by rw [hwl]; exact T6
          rw [← hwl] at BC h2 h3
          have PB := Lib.hid (Rest.pushS (w := wr) (wl := wl) (w' := w8) (v' := v8) (u := .slice (some ⟨wd.heap.size, 0, none⟩) 64 64) (xs := List.replicate 64 0) (A := some ⟨wd.heap.size, 0, none⟩) (n := 64) (c := 64) ER.out BC (by rw [List.length_append, List.length_singleton, List.length_replicate]; exact h1) h2 h3 (own_ltB h1) rfl RL9 (fun a _ e => by injection e with e; rw [← e]; exact D0.size))
          have T9 := TL.only h2 (fun e => (ER.out.dS h e.symm).1 rfl)
          have B9 : Below h w w8 := (BR.out.trans (BC.mono (Nat.le_of_lt HSZ.out))).grown h2 (Nat.le_trans (Nat.le_of_lt HSZ.out) BC.size) (fun q e => GR.out q (ER.out.inG q (.inr (.inl e))))
          subst hv8
          simp only [Act.put, List.setIfInBounds_toArray, List.set_cons_zero, List.set_cons_succ]
          refine RD.h_any [8] (by kernel_rfl) (by simp) (RD.one_of ?_)
          refine RD.h_run (.pointer (some ⟨h, 0, none⟩)) w8 rfl (by rfl) (by go_simp) ⟨trivial, ?_⟩
          simp only [Act.put, List.setIfInBounds_toArray, List.set_cons_zero, List.set_cons_succ]
          refine RD.h_any [9] (by kernel_rfl) (by simp) (RD.one_of ?_)
          refine RD.h_run (.pointer (some ⟨h, 1, none⟩)) w8 rfl (by rfl) (by go_simp) ⟨trivial, ?_⟩
          simp only [Act.put, List.setIfInBounds_toArray, List.set_cons_zero, List.set_cons_succ]
          refine RD.h_any [10] (by kernel_rfl) (by simp) (RD.one_of ?_)
          refine RD.h_skip (w8.setCell ⟨h, 1, none⟩ (.slice A8 (j + 1) c8)) rfl (by rfl) (by have c3 := T9.cell 1; have fz := T9.frozen 1; simp only [List.getElem?_toArray, List.getElem?_cons_zero, List.getElem?_cons_succ] at c3; go_simp) ⟨trivial, ?_⟩
          simp only [Act.put, List.setIfInBounds_toArray, List.set_cons_zero, List.set_cons_succ]
          refine RD.h_done (by kernel_rfl) ?_
          change K _ _
          apply hK
          have TF := Lib.hid (T9.put 1 (.slice A8 (j + 1) c8))
          have EF := Lib.hid (PB.out.1.poke 1 (.slice A8 (j + 1) c8))
          rw [show List.replicate j (List.replicate 64 (0 : UInt8)) ++ [List.replicate 64 0] = List.replicate (j + 1) (List.replicate 64 0) from List.replicate_succ'.symm] at EF
          have BF := Lib.hid (B9.setCell (p := ⟨h, 1, none⟩) (Nat.le_refl _) (.slice A8 (j + 1) c8))
          have GF := Lib.hid (show ∀ x, (plus G (Value.slice A8 (j + 1) c8) x ∨ ∃ a, 0 < 64 ∧ (some (⟨wd.heap.size, 0, none⟩ : Addr)) = some a ∧ a.block = x) → h ≤ x from fun x hx => by
            rcases PB.out.2.2 x hx with e | e
            · exact GR.out x e
            · have := HSZ.out; omega)
          generalize w8.setCell ⟨h, 1, none⟩ (.slice A8 (j + 1) c8) = w9 at *
          go_wp2_with (fail)
          go_roundw
          case rel => exact ⟨j + 1, _, _, _, by omega, by go_num, TF.out, EF.out, GF.out, BF.out⟩
          case measure => simp [intOf]; omega
        · refine RD.h_run (.slice (some ⟨w5.heap.size, 0, none⟩) 1 1) (w5.alloc (.cells #[.slice (some ⟨wd.heap.size, 0, none⟩) 64 64] 35)) rfl (by rfl) (by go_simp) ⟨trivial, ?_⟩
          simp only [Act.put, List.setIfInBounds_toArray, List.set_cons_zero, List.set_cons_succ]
          have T6 := T5.alloc (.cells #[.slice (some ⟨wd.heap.size, 0, none⟩) 64 64] 35)
          refine RD.h_any [4] (by kernel_rfl) (by simp) (RD.one_of ?_)
          refine RD.h_run vS (w5.alloc (.cells #[.slice (some ⟨wd.heap.size, 0, none⟩) 64 64] 35)) rfl (by rfl) (by have c3 := T6.cell 1; simp only [List.getElem?_toArray, List.getElem?_cons_zero, List.getElem?_cons_succ] at c3; go_simp) ⟨trivial, ?_⟩
          simp only [Act.put, List.setIfInBounds_toArray, List.set_cons_zero, List.set_cons_succ]
          refine RD.h_any [7] (by kernel_rfl) (by simp) (RD.one_of ?_)
          have BC : Below wr.heap.size wr (w5.alloc (.cells #[.slice (some ⟨wd.heap.size, 0, none⟩) 64 64] 35)) := B5.alloc B5.size _
          have OSS : wr.ownsRow N 35 1 vS j ss := by have := ER.out.oS; rwa [List.length_replicate] at this
          refine RD.h_op rfl (step_append_bs (by rfl) (.tmp 16) (.tmp 18) rfl N vS j ss rfl (own_below OSS BC) w5.heap.size (.slice (some ⟨wd.heap.size, 0, none⟩) 64 64) rfl rfl (by simp) (by omega) (Nat.le_trans ER.out.lo BC.size) (fun v8 w8 h1 h2 h3 => ⟨trivial, ?_⟩))
          obtain ⟨A8, c8, hv8⟩ := own_form h1
          obtain ⟨wl, hwl⟩ : ∃ wl, wl = w5.alloc (.cells #[.slice (some ⟨wd.heap.size, 0, none⟩) 64 64] 35) := ⟨_, rfl⟩
          have RL9 : Rd wl (some ⟨wd.heap.size, 0, none⟩) 64 64 (List.replicate 64 0) := by rw [hwl]; exact (Rd.own O5).alloc _
          have TL : Bk wl h 52 #[.slice none 0 0, vS, .slice none 0 0, .slice none 0 0, .slice none 0 0, .int .i64 0, .int .i64 0, .bool false] := by rw [hwl]; exact T6
          rw [← hwl] at BC h2 h3
          have PB := Lib.hid (Rest.pushS (w := wr) (wl := wl) (w' := w8) (v' := v8) (u := .slice (some ⟨wd.heap.size, 0, none⟩) 64 64) (xs := List.replicate 64 0) (A := some ⟨wd.heap.size, 0, none⟩) (n := 64) (c := 64) ER.out BC (by rw [List.length_append, List.length_singleton, List.length_replicate]; exact h1) h2 h3 (own_ltB h1) rfl RL9 (fun a _ e => by injection e with e; rw [← e]; exact D0.size))
          have T9 := TL.only h2 (fun e => (ER.out.dS h e.symm).1 rfl)
          have B9 : Below h w w8 := (BR.out.trans (BC.mono (Nat.le_of_lt HSZ.out))).grown h2 (Nat.le_trans (Nat.le_of_lt HSZ.out) BC.size) (fun q e => GR.out q (ER.out.inG q (.inr (.inl e))))
          subst hv8
          simp only [Act.put, List.setIfInBounds_toArray, List.set_cons_zero, List.set_cons_succ]
          refine RD.h_any [8] (by kernel_rfl) (by simp) (RD.one_of ?_)
          refine RD.h_run (.pointer (some ⟨h, 0, none⟩)) w8 rfl (by rfl) (by go_simp) ⟨trivial, ?_⟩
          simp only [Act.put, List.setIfInBounds_toArray, List.set_cons_zero, List.set_cons_succ]
          refine RD.h_any [9] (by kernel_rfl) (by simp) (RD.one_of ?_)
          refine RD.h_run (.pointer (some ⟨h, 1, none⟩)) w8 rfl (by rfl) (by go_simp) ⟨trivial, ?_⟩
          simp only [Act.put, List.setIfInBounds_toArray, List.set_cons_zero, List.set_cons_succ]
          refine RD.h_any [10] (by kernel_rfl) (by simp) (RD.one_of ?_)
          refine RD.h_skip (w8.setCell ⟨h, 1, none⟩ (.slice A8 (j + 1) c8)) rfl (by rfl) (by have c3 := T9.cell 1; have fz := T9.frozen 1; simp only [List.getElem?_toArray, List.getElem?_cons_zero, List.getElem?_cons_succ] at c3; go_simp) ⟨trivial, ?_⟩
          simp only [Act.put, List.setIfInBounds_toArray, List.set_cons_zero, List.set_cons_succ]
          refine RD.h_done (by kernel_rfl) ?_
          change K _ _
          apply hK
          have TF := Lib.hid (T9.put 1 (.slice A8 (j + 1) c8))
          have EF := Lib.hid (PB.out.1.poke 1 (.slice A8 (j + 1) c8))
          rw [show List.replicate j (List.replicate 64 (0 : UInt8)) ++ [List.replicate 64 0] = List.replicate (j + 1) (List.replicate 64 0) from List.replicate_succ'.symm] at EF
          have BF := Lib.hid (B9.setCell (p := ⟨h, 1, none⟩) (Nat.le_refl _) (.slice A8 (j + 1) c8))
          have GF := Lib.hid (show ∀ x, (plus G (Value.slice A8 (j + 1) c8) x ∨ ∃ a, 0 < 64 ∧ (some (⟨wd.heap.size, 0, none⟩ : Addr)) = some a ∧ a.block = x) → h ≤ x from fun x hx => by
            rcases PB.out.2.2 x hx with e | e
            · exact GR.out x e
            · have := HSZ.out; omega)
          generalize w8.setCell ⟨h, 1, none⟩ (.slice A8 (j + 1) c8) = w9 at *
          go_wp2_with (fail)
          go_roundw
          case rel => exact ⟨j + 1, _, _, _, by omega, by go_num, TF.out, EF.out, GF.out, BF.out⟩
          case measure => simp [intOf]; omega
    · obtain rfl : k = j := by omega
      have t0 : ¬ (k : Int) < (k : Int) := by omega
      go_wp2_with (fail)
      go_ret
      have F1 : Rk N wr h (.slice none 0 0) (Dk.new k) G := ⟨Dk.new_ok h1 h2, _, TR.out, ER.out⟩
      have F2 : ∀ b, G b → w.heap.size ≤ b := fun b hb => by have := GR.out b hb; have := HH.out; omega
      have F3 : Below w.heap.size w wr := by rw [HH.out]; exact BR.out
      first
        | exact ⟨h, G, rfl, F1, F2, F3⟩
        | exact ⟨h, rfl, G, F1, F2, F3⟩
        | exact ⟨h, rfl, G, F1, F2, BR.out⟩
        | (refine ⟨h, rfl, G, F1, ?_, ?_⟩ <;> first | exact F2 | exact F3 | exact BR.out | exact GR.out)
end Go.Proofs.YtdbamdbdogdpjaaGreatDoor.S19

/-
  The document's own disk: what is torn, byte by byte; another plan; a row that has come. No statement is proved here.
-/
namespace Go.Proofs.YtdbamdbdogdpjaaGreatDoor.S19
set_option linter.unusedSimpArgs false
set_option linter.unusedVariables false
set_option maxRecDepth 4096
open Go.RowKit

/-- Is the byte j of a torn row that which was to be written? -/
def tears (c j : Nat) : Prop := c % 4 = 1 ∨ (c % 4 = 2 ∧ j < c / 4) ∨ (c % 4 = 3 ∧ c / 4 ≤ j)
instance (c j : Nat) : Decidable (tears c j) := by unfold tears; exact inferInstance
/-- The first k bytes have been gone through. -/
def tornP (c : Nat) (old now : List UInt8) (k : Nat) : List UInt8 := (List.range 64).map fun j => if j < k ∧ tears c j then now.getD j 0 else old.getD j 0
theorem tornP_len (c : Nat) (old now : List UInt8) (k : Nat) : (tornP c old now k).length = 64 := by simp [tornP]
theorem tornP_zero (c : Nat) (old now : List UInt8) (h : old.length = 64) : tornP c old now 0 = old := by
  apply List.ext_getElem (by simp [tornP, h])
  intro i h1 h2
  simp [tornP, List.getD, h2]
theorem tornP_full (c : Nat) (old now : List UInt8) : tornP c old now 64 = Dk.torn c old now := by
  unfold tornP Dk.torn
  apply List.map_congr_left
  intro j hj
  rw [List.mem_range] at hj
  simp only [hj, true_and, tears]
theorem tornP_miss {c k : Nat} (old now : List UInt8) (h : ¬ tears c k) : tornP c old now (k + 1) = tornP c old now k := by
  unfold tornP
  apply List.map_congr_left
  intro j hj
  by_cases e : j = k
  · subst e
    rw [if_neg (fun q => h q.2), if_neg (fun q => h q.2)]
  · have : (j < k + 1) = (j < k) := propext (by omega)
    simp only [this]
theorem tornP_hit {c k : Nat} (old now : List UInt8) (hk : k < 64) (h : tears c k) : tornP c old now (k + 1) = (tornP c old now k).set k (now.getD k 0) := by
  apply List.ext_getElem (by simp [tornP])
  intro i h1 h2
  have h3 : i < 64 := by simpa [tornP] using h1
  by_cases e : k = i
  · subst e
    rw [List.getElem_set_self]
    simp [tornP, h]
  · rw [List.getElem_set_ne e]
    have : (i < k + 1) = (i < k) := propext (by omega)
    simp only [tornP, List.getElem_map, List.getElem_range, this]
theorem tear_snoc (ch : List UInt8) (q : Nat × List UInt8) : ∀ (ps : List (Nat × List UInt8)) (k : Nat) (s : List (List UInt8)), Dk.tear ch k (ps ++ [q]) s = (Dk.tear ch k ps s).set q.1 (Dk.torn (Dk.choice ch (k + ps.length)) ((Dk.tear ch k ps s).getD q.1 []) q.2)
  | [], k, s => rfl
  | p :: ps, k, s => by
    rw [List.cons_append, Dk.tear, tear_snoc ch q ps, Dk.tear, List.length_cons]
    rw [show k + 1 + ps.length = k + (ps.length + 1) by omega]
theorem tear_take (ch : List UInt8) (ps : List (Nat × List UInt8)) (s : List (List UInt8)) (k : Nat) (hk : k < ps.length) : Dk.tear ch 0 (ps.take (k + 1)) s = (Dk.tear ch 0 (ps.take k) s).set (ps.getD k (0, [])).1 (Dk.torn (Dk.choice ch k) ((Dk.tear ch 0 (ps.take k) s).getD (ps.getD k (0, [])).1 []) (ps.getD k (0, [])).2) := by
  have e : ps.take (k + 1) = ps.take k ++ [ps.getD k (0, [])] := by
    have e0 : ps.getD k (0, []) = ps[k] := by simp [List.getD, hk]
    rw [e0, List.take_add_one, List.getElem?_eq_getElem hk]
    rfl
  rw [e, tear_snoc, List.length_take, Nat.min_eq_left (Nat.le_of_lt hk), Nat.zero_add]
section
variable {N : Nat} {w w' : World} {h : Nat} {G : Nat → Prop} {V : RkV} {sure : List (List UInt8)} {zs : List Int} {rs : List (List UInt8)} {fails : List Int}
/-- Another plan. -/
theorem Rest.plan (r : Rest N w h sure zs rs fails G V) {A : Option Addr} {n c : Nat} {fs : List Int} (hf : RI w .i64 A n c fs) (hA : ∀ a, 0 < n → A = some a → (a.block < N ∨ G a.block) ∧ ¬ spine h V a.block) : Rest N w h sure zs rs fs G { V with AF := A, nF := n, cF := c } :=
  ⟨r.oS, r.rS, r.oW, r.oB, r.rB, hf, hA, r.inG, r.gN, r.dS, r.dW, r.dB⟩
theorem Rest.notSpine (r : Rest N w h sure zs rs fails G V) {b : Nat} (hb : b < N) : ¬ spine h V b := fun e => by
  have := (r.gN b (r.inG b e)).1
  omega
/-- A row in a new block may be the disk's. -/
theorem Rest.fresh (r : Rest N w h sure zs rs fails G V) (hb : Below w.heap.size w w') {A : Option Addr} {n c : Nat} {xs : List UInt8} (hr : Rd w' A n c xs) (hA : ∀ a, 0 < n → A = some a → w.heap.size ≤ a.block) :
    Rest N w' h sure zs rs fails (fun b => G b ∨ ∃ a, 0 < n ∧ A = some a ∧ a.block = b) V ∧ Rr w' (fun b => G b ∨ ∃ a, 0 < n ∧ A = some a ∧ a.block = b) h V (some (.slice A n c)) xs ∧ (∀ b, (G b ∨ ∃ a, 0 < n ∧ A = some a ∧ a.block = b) → G b ∨ w.heap.size ≤ b) := by
  have hN := r.lo
  have hlt : ∀ a, 0 < n → A = some a → a.block < w'.heap.size := fun a h1 h2 => by
    obtain ⟨b, off, e, hbb, _⟩ := hr.at_ h1
    rw [h2] at e
    injection e with e
    subst e
    exact hbb
  refine ⟨(r.keep hb.size fun b _ hl => hb.block b hl).more (fun b e => .inl e) ?_, ⟨A, n, c, rfl, hr, fun a h1 h2 => ⟨.inr ⟨a, h1, h2, rfl⟩, fun e => ?_⟩⟩, ?_⟩
  · rintro b (e | ⟨a, h1, h2, rfl⟩)
    · exact ⟨(r.gN b e).1, Nat.lt_of_lt_of_le (r.gN b e).2 hb.size⟩
    · exact ⟨Nat.le_trans hN (hA a h1 h2), hlt a h1 h2⟩
  · have q1 := (r.gN _ (r.inG _ e)).2
    have q2 := hA a h1 h2
    omega
  · rintro b (e | ⟨a, h1, h2, rfl⟩)
    · exact .inl e
    · exact .inr (hA a h1 h2)
end
end Go.Proofs.YtdbamdbdogdpjaaGreatDoor.S19
