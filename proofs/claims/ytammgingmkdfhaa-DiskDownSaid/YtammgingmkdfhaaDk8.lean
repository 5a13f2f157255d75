/-
  The document's own disk: what is counted. No statement is proved here.
-/
import Derived.Test.YtammgingmkdfhaaDk7
import Derived.Deep.Cut
import Derived.Deep.RegionHeld3
namespace Go.Proofs.Ytammgingmkdfhaa.S19
set_option linter.unusedSimpArgs false
set_option linter.unusedVariables false
set_option maxRecDepth 4096
open Go.RowKit

theorem take_mem_succ (fs : List Int) (j : Nat) (k : Int) (hj : j < fs.length) (h1 : k ∉ fs.take j) (h2 : fs.getD j 0 ≠ k) : k ∉ fs.take (j + 1) := by
  have e : fs.take (j + 1) = fs.take j ++ [fs.getD j 0] := by
    rw [List.take_add_one, List.getElem?_eq_getElem hj]
    simp [List.getD, hj]
  rw [e, List.mem_append, List.mem_singleton]
  rintro (h | h)
  · exact h1 h
  · exact h2 h.symm
theorem Bk.mv {N : Nat} {G : Nat → Prop} {w w' : World} {h : Nat} {T : TypeId} {cs : Array Value} (hb : Bk w h T cs) (k : Below w.heap.size w w') : Bk w' h T cs := hb.below k hb.lt
set_option maxHeartbeats 4000000 in
theorem counted_any {L : Value} (N : Nat) (w : World) (h : Nat) (D : Dk) (G : Nat → Prop) (r : Rk N w h L D G) (hc : D.cnt < 1099511627776) : Calls Try.prog 41 #[.pointer (some ⟨h, 0, none⟩)] w (PostR N G h L w (if D.off = true then D else D.step) (.int .i64 (D.stepC : Int))) := by
  obtain ⟨V, hb, hr⟩ := r.ex
  have hok := r.ok
  have c6 : w.cell? ⟨h, 6, none⟩ = some (.int .i64 (D.cnt : Int)) := hb.cell 6
  have c7 : w.cell? ⟨h, 7, none⟩ = some (.bool D.off) := hb.cell 7
  have f6 := hb.frozen 6
  cases ho : D.off
  case true =>
    rw [ho] at c7
    have hs : D.stepC = 6 := by rw [Dk.stepC, if_pos ho]
    rw [if_pos rfl, hs]
    have RR := Lib.hid r
    clear hb hr hok r hc hs c6 f6
    go_enter Try.func41, Try.ntmps41
    go_wp2_with (fail)
    go_ret
    exact ⟨rfl, G, RR.out, fun b hb => .inl hb, Mv.refl _ _ _⟩
  case false =>
    rw [ho] at c7
    rw [if_neg (by simp)]
    obtain ⟨q, hq⟩ : ∃ q, q = D.cnt + 1 := ⟨_, rfl⟩
    have e1 : IntKind.i64.wrap ((D.cnt : Int) + 1) = (q : Int) := by rw [IntKind.wrap_i64]; omega
    have e2 : wrap64 ((D.cnt : Int) + 1) = (q : Int) := by unfold wrap64; omega
    have HGN := Lib.hid (show N ≤ h ∧ G h from ⟨(hr.gN h (hr.inG h (.inl rfl))).1, hr.inG h (.inl rfl)⟩)
    obtain ⟨w1, hw1⟩ : ∃ w1, w.setCell ⟨h, 6, none⟩ (.int .i64 (q : Int)) = w1 := ⟨_, rfl⟩
    have T1 := Lib.hid (show Bk w1 h 42 #[L, V.vS, V.vW, V.vB, .slice V.AF V.nF V.cF, .int .i64 D.stop, .int .i64 (q : Int), .bool false] by
      rw [← hw1]
      have := hb.put 6 (.int .i64 (q : Int))
      rw [ho] at this
      exact this)
    have R1 := Lib.hid (show Rest N w1 h D.sure (pendZ D.pend) (pendR D.pend) D.fails G V by rw [← hw1]; exact hr.poke 6 _)
    have M1 := Lib.hid (show Mv N G w w1 by rw [← hw1]; exact Mv.poke HGN.out.1 HGN.out.2 w 6 _)
    have HOK := Lib.hid (Dk.step_ok hok)
    have HQ := Lib.hid hq
    clear hb hr hok r hc hq
    by_cases hst : (D.cnt : Int) + 1 = D.stop
    · have hs : D.stepC = 6 := by rw [Dk.stepC, ho, if_neg (by simp), if_pos hst]
      have hD : D.step = { D with cnt := D.cnt + 1, off := true } := by rw [Dk.step, if_pos hst]
      rw [hs]
      have HOKS := HOK.out
      rw [hD] at HOKS ⊢
      have HK := Lib.hid HOKS
      obtain ⟨st, hst'⟩ : ∃ st, st = D.stop := ⟨_, rfl⟩
      have e3 : (q : Int) = st := by rw [hst', ← hst, HQ.out]; simp
      have e4 : ((q : Int) == st) = true := by rw [e3]; simp
      rw [← hst'] at T1
      have HST := Lib.hid hst'
      clear hs hD HOKS hst hst' HOK e3
      go_enter Try.func41, Try.ntmps41
      go_upto_region 4 with (fail)
      first
        | rw [hw1]
        | skip
      clear hw1 c6 c7 f6
      have KS := Lib.hid (show ∀ X, Below w1.heap.size w1 X → X.cell? ⟨h, 6, none⟩ = some (.int .i64 (q : Int)) ∧ X.cell? ⟨h, 5, none⟩ = some (.int .i64 st) from fun X hX => ⟨(T1.out.below hX T1.out.lt).cell 6, (T1.out.below hX T1.out.lt).cell 5⟩)
      have GD := Lib.hid (Below.refl w1.heap.size w1).drew
      (go_region_held3 (fun X => X.cell? ⟨h, 6, none⟩ = some (.int .i64 (q : Int)) ∧ X.cell? ⟨h, 5, none⟩ = some (.int .i64 st)) (exact KS.out _ GD.out) (fail))
      have T2 := Lib.hid (T1.out.below GD.out T1.out.lt)
      have c7 := T2.out.cell 7
      have f7 := T2.out.frozen 7
      simp only [List.getElem?_toArray, List.getElem?_cons_zero, List.getElem?_cons_succ] at c7
      go_wp2_with (fail)
      go_ret
      refine ⟨rfl, G, ⟨HK.out, V, ?_, (R1.out.keep GD.out.size fun b _ hlt => GD.out.block b hlt).poke 7 _⟩, fun b hb => .inl hb, M1.out.trans ((Mv.of (by have := M1.out.size; have := HGN.out.1; have := T1.out.lt; omega) GD.out).trans (Mv.poke HGN.out.1 HGN.out.2 _ 7 _) (fun b hb => .inl hb)) (fun b hb => .inl hb)⟩
      have := T2.out.put 7 (.bool true)
      rw [HST.out, HQ.out] at this
      exact this
    · have hD : D.step = { D with cnt := D.cnt + 1 } := by rw [Dk.step, if_neg hst]
      have hs : D.stepC = if ((D.cnt : Int) + 1) ∈ D.fails then 7 else 0 := by rw [Dk.stepC, ho, if_neg (by simp), if_neg hst]
      have hq1 : (D.cnt : Int) + 1 = (q : Int) := by have := HQ.out; omega
      rw [hq1] at hs hst
      have HOKS := HOK.out
      rw [hD] at HOKS ⊢
      rw [hs]
      have HK := Lib.hid HOKS
      obtain ⟨st, hst'⟩ : ∃ st, st = D.stop := ⟨_, rfl⟩
      rw [← hst'] at hst T1
      have e4 : ((q : Int) == st) = false := by simpa using hst
      have HST := Lib.hid hst'
      clear hs hD HOKS hst' HOK hq1
      have END := Lib.hid (show ∀ X, Below w1.heap.size w1 X → ∀ v, PostR N G h L w { D with cnt := D.cnt + 1 } v (.returned v) X from fun X hX v => by
        have T2 := T1.out.below hX T1.out.lt
        rw [HST.out, HQ.out, ← ho] at T2
        refine ⟨rfl, G, ⟨HK.out, V, T2, R1.out.keep hX.size fun b _ hlt => hX.block b hlt⟩, fun b hb => .inl hb, M1.out.trans (Mv.of (by have := M1.out.size; have := HGN.out.1; have := T1.out.lt; omega) hX) (fun b hb => .inl hb)⟩)
      obtain ⟨fs, hfs⟩ : ∃ fs, fs = D.fails := ⟨_, rfl⟩
      rw [← hfs] at R1
      obtain ⟨cd, hcd⟩ : ∃ cd : Nat, cd = if (q : Int) ∈ D.fails then 7 else 0 := ⟨_, rfl⟩
      rw [← hcd]
      rw [← hfs] at hcd
      have HCD := Lib.hid hcd
      obtain ⟨D', hD'⟩ : ∃ D' : Dk, D' = { D with cnt := D.cnt + 1 } := ⟨_, rfl⟩
      rw [← hD'] at END ⊢
      clear hcd hD'
      have KS := Lib.hid (show ∀ X, Below w1.heap.size w1 X → X.cell? ⟨h, 6, none⟩ = some (.int .i64 (q : Int)) ∧ X.cell? ⟨h, 5, none⟩ = some (.int .i64 st) ∧ X.cell? ⟨h, 4, none⟩ = some (.slice V.AF V.nF V.cF) from fun X hX => ⟨(T1.out.below hX T1.out.lt).cell 6, (T1.out.below hX T1.out.lt).cell 5, (T1.out.below hX T1.out.lt).cell 4⟩)
      have RF := Lib.hid (show ∀ X, Below w1.heap.size w1 X → RI X .i64 V.AF V.nF V.cF fs from fun X hX => R1.out.rF.below hX)
      go_enter Try.func41, Try.ntmps41
      go_upto_region 4 with (fail)
      first
        | rw [hw1]
        | skip
      clear hw1 c6 c7 f6 hfs
      have GD := Lib.hid (Below.refl w1.heap.size w1).drew
      (go_region_held3 (fun X => X.cell? ⟨h, 6, none⟩ = some (.int .i64 (q : Int)) ∧ X.cell? ⟨h, 5, none⟩ = some (.int .i64 st) ∧ X.cell? ⟨h, 4, none⟩ = some (.slice V.AF V.nF V.cF)) (exact KS.out _ GD.out) (fail))
      go_wp2_with (fail)
      obtain ⟨nF, hnF⟩ : ∃ nF, V.nF = nF := ⟨_, rfl⟩
      rw [hnF] at KS RF
      have HNF := Lib.hid (show fs.length = nF from (RF.out _ (Below.refl _ _)).len)
      have hmx : nF ≤ 9223372036854775807 := by have h1 := (RF.out _ (Below.refl _ _)).cap; have h2 := (RF.out _ (Below.refl _ _)).max; unfold maxLen at h2; omega
      go_loopw [3] (fun iv wi => ∃ (i : Nat), i ≤ nF ∧ iv = .int .i64 (i : Int) ∧ (q : Int) ∉ fs.take i ∧ Below w1.heap.size w1 wi)
        (fun iv _ => nF - (intOf iv).toNat)
      case atStart => exact ⟨0, Nat.zero_le _, rfl, by simp, GD.out⟩
      case round =>
        clear GD
        obtain ⟨i, hi, rfl, hni, hB⟩ := hrel
        have BR := Lib.hid hB
        have HNI := Lib.hid hni
        obtain ⟨k6, k5, k4⟩ := KS.out _ hB
        clear hB hni
        by_cases hlt : i < nF
        · have t0 : (i : Int) < (nF : Int) := by omega
          obtain ⟨b, off, hA, hb, hcell⟩ := (RF.out _ BR.out).cell hlt
          rw [hA] at k4
          obtain ⟨z, hz⟩ : ∃ z, z = fs.getD i 0 := ⟨_, rfl⟩
          rw [← hz] at hcell
          have HZ := Lib.hid hz
          have KZ := Lib.hid (show ∀ X, Below wr.heap.size wr X → X.cell? ⟨h, 6, none⟩ = some (.int .i64 (q : Int)) ∧ X.cell? ⟨h, 4, none⟩ = some (.slice (some ⟨b, off, none⟩) nF V.cF) ∧ X.cell? ⟨b, off + i, none⟩ = some (.int .i64 z) from fun X hX => by
            have q1 := KS.out X (BR.out.trans (hX.mono BR.out.size))
            exact ⟨q1.1, by rw [q1.2.2, hA], (hX.cell (p := ⟨b, off + i, none⟩) hb).trans hcell⟩)
          have GD := Lib.hid (Below.refl wr.heap.size wr).drew
          clear hA hcell hz hb
          by_cases hzq : z = (q : Int)
          · have y1 : (z == (q : Int)) = true := by simp [hzq]
            have HIN := Lib.hid (show (q : Int) ∈ fs by
              rw [← hzq, HZ.out]
              rw [List.getD_eq_getElem?_getD, List.getElem?_eq_getElem (by rw [HNF.out]; exact hlt)]
              exact List.getElem_mem _)
            clear hzq
            go_upto_region 10 with (fail)
            (go_region_held3 (fun X => X.cell? ⟨h, 6, none⟩ = some (.int .i64 (q : Int)) ∧ X.cell? ⟨h, 4, none⟩ = some (.slice (some ⟨b, off, none⟩) nF V.cF) ∧ X.cell? ⟨b, off + i, none⟩ = some (.int .i64 z)) (exact KZ.out _ GD.out) (fail))
            go_wp2_with (fail)
            go_ret
            have e7 : cd = 7 := by rw [HCD.out, if_pos HIN.out]
            rw [e7]
            exact END.out _ (BR.out.trans (GD.out.mono BR.out.size)) _
          · have y1 : (z == (q : Int)) = false := by simp [hzq]
            have HN2 := Lib.hid (take_mem_succ fs i (q : Int) (by rw [HNF.out]; exact hlt) HNI.out (by rw [← HZ.out]; exact hzq))
            clear hzq
            go_upto_region 10 with (fail)
            (go_region_held3 (fun X => X.cell? ⟨h, 6, none⟩ = some (.int .i64 (q : Int)) ∧ X.cell? ⟨h, 4, none⟩ = some (.slice (some ⟨b, off, none⟩) nF V.cF) ∧ X.cell? ⟨b, off + i, none⟩ = some (.int .i64 z)) (exact KZ.out _ GD.out) (fail))
            go_wp2_with (fail)
            go_roundw
            case rel => exact ⟨i + 1, by omega, by go_num, HN2.out, BR.out.trans (GD.out.mono BR.out.size)⟩
            case measure => simp [intOf]; omega
        · have t0 : ¬ (i : Int) < (nF : Int) := by omega
          obtain rfl : i = nF := by omega
          have HIN := Lib.hid (show ¬ (q : Int) ∈ fs by
            have := HNI.out
            rwa [List.take_of_length_le (by rw [HNF.out]; exact Nat.le_refl _)] at this)
          go_wp2_with (fail)
          go_ret
          have e7 : cd = 0 := by rw [HCD.out, if_neg HIN.out]
          rw [e7]
          exact END.out _ BR.out _
end Go.Proofs.Ytammgingmkdfhaa.S19
