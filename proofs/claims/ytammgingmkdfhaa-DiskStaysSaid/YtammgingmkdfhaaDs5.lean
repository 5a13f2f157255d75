/-
  What the landed disk's step does: it counts, and leaves where by the plan the power goes or nothing is done. No statement is proved here.
-/
import Derived.Test.YtammgingmkdfhaaDs3
import Derived.Test.YtammgingmkdfhaaDs4
import Derived.Deep.RegionHeld3
namespace Go.Proofs.Ytammgingmkdfhaa.S19
set_option linter.unusedSimpArgs false
set_option linter.unusedVariables false
set_option maxRecDepth 4096
open Go.RowKit

/-- How a step ends. -/
def stepE (c : Nat) : Ending := if c = 0 then .returned (.tuple #[]) else .panicked [LV.wrg (c : Int)]
set_option maxHeartbeats 4000000 in
theorem step_any (N : Nat) (w : World) (g : Nat) (D : Dk) (F : Nat → Prop) (t : Kn N w g D F) (hoff : D.off = false) (hc : D.cnt < 1099511627776) :
    Calls Try.prog 34 #[.pointer (some ⟨g, 0, none⟩)] w fun e w' => e = stepE D.stepC ∧ Kn N w' g D.step F ∧ Mv N F w w' := by
  obtain ⟨ok, V, hb, r⟩ := t
  rw [hoff] at hb
  obtain ⟨q, hq⟩ : ∃ q, q = D.cnt + 1 := ⟨_, rfl⟩
  have e1 : wrap64 ((D.cnt : Int) + 1) = (q : Int) := by rw [hq]; unfold wrap64; omega
  have hqi : (D.cnt : Int) + 1 = (q : Int) := by omega
  have c3 : w.cell? ⟨g, 3, none⟩ = some (.int .i64 (D.cnt : Int)) := hb.cell 3
  have f3 := hb.frozen 3
  obtain ⟨w1, hw1⟩ : ∃ w1, w1 = w.setCell ⟨g, 3, none⟩ (.int .i64 (q : Int)) := ⟨_, rfl⟩
  have B1 : Bk w1 g 65 (knA V D.sure.length q D.stop false) := by rw [hw1]; exact hb.put 3 _
  have r1 : In N w1 g D.sure (Dk.laid D.pend D.sure) D.pend D.fails F V := by rw [hw1]; exact r.poke 3 _
  have M1 : Mv N F w w1 := by rw [hw1]; exact Mv.pokeK r.fg (r.gN g r.fg).1 3 _
  have hN1 : N ≤ w1.heap.size := by have := (r1.gN g r1.fg); omega
  have HE := Lib.hid (show D.stepC = if (q : Int) = D.stop then 6 else if (q : Int) ∈ D.fails then 7 else 0 by unfold Dk.stepC; rw [hoff, hqi]; simp)
  have HS := Lib.hid (show D.step = if (q : Int) = D.stop then { D with cnt := q, off := true } else { D with cnt := q } by unfold Dk.step; rw [hqi, ← hq])
  have OK' := Lib.hid (Dk.step_ok ok)
  have k3 : w1.drew.cell? ⟨g, 3, none⟩ = some (.int .i64 (q : Int)) := B1.drew.cell 3
  have k5 : w1.drew.cell? ⟨g, 5, none⟩ = some (.int .i64 D.stop) := B1.drew.cell 5
  obtain ⟨st, hst⟩ : ∃ st, st = D.stop := ⟨_, rfl⟩
  rw [← hst] at k5 B1 HE HS
  have B1H := Lib.hid B1
  have R1 := Lib.hid r1
  have M1H := Lib.hid M1
  have N1 := Lib.hid hN1
  have HST := Lib.hid hst
  clear hb r hq hqi B1 r1 M1 hN1 ok hc hst
  have HW1 := Lib.hid hw1
  clear hw1
  have HOFF := Lib.hid hoff
  clear hoff
  go_enter Try.func34, Try.ntmps34
  go_upto_region 1 with (fail)
  rw [← HW1.out]
  clear c3 f3 e1
  (go_region_held3 (fun X => X.cell? ⟨g, 3, none⟩ = some (.int .i64 (q : Int)) ∧ X.cell? ⟨g, 5, none⟩ = some (.int .i64 st)) (exact ⟨B1H.out.drew.cell 3, B1H.out.drew.cell 5⟩) (fail))
  by_cases hs : (q : Int) = st
  · rw [if_pos hs] at HE HS
    have y1 : ((q : Int) == st) = true := by simpa using hs
    have C1 := Lib.hid (fun X h => stopL g V D.sure.length q st false X h)
    have C2 := Lib.hid (fun X h => power_no g V D.sure.length q st X h)
    clear hs
    go_wp2_with (first
      | (go_at_call 20; ((with_reducible refine (C1.out _ B1H.out.drew).mono ?_); rintro e w3 ⟨rfl, rfl⟩))
      | (go_at_call 32; ((with_reducible refine (C2.out _ (B1H.out.drew.put 6 (.bool true))).mono ?_); rintro e w4 ⟨rfl, rfl⟩)))
    refine ⟨rfl, by rw [HE.out]; rfl, ⟨OK'.out, V, ?_, ?_⟩, ?_⟩
    · rw [HS.out]
      simp only
      exact B1H.out.drew.put 6 (.bool true)
    · rw [HS.out]
      exact R1.out.drew.poke 6 _
    · exact M1H.out.trans ((Mv.of N1.out (Below.refl _ _).drew).trans (Mv.pokeK R1.out.fg (R1.out.gN g R1.out.fg).1 6 _) (fun b h => .inl h)) (fun b h => .inl h)
  · rw [if_neg hs] at HE HS
    have y1 : ((q : Int) == st) = false := by simpa using hs
    have C2 := Lib.hid (fun X h => power_ok g V D.sure.length q st X h)
    have C3 := Lib.hid (fun X h => search_zi V.fa V.fn V.fc V.zs (q : Int) X h R1.out.few R1.out.srt)
    have C4 := Lib.hid (fun X => LV.need_yes 7 X)
    have C5 := Lib.hid (fun X => LV.need_no 7 X)
    have B2 := Lib.hid (B1H.out.drew)
    clear hs k3 k5
    go_upto_region 4 with (first
      | (go_at_call 32; ((with_reducible refine (C2.out _ B2.out).mono ?_); rintro e w4 ⟨rfl, rfl⟩)))
    (go_region_held3 (fun X => X.cell? ⟨g, 3, none⟩ = some (.int .i64 (q : Int)) ∧ X.cell? ⟨g, 4, none⟩ = some (.slice V.fa V.fn V.fc)) (first
      | exact ⟨(B2.out.drew.below B5.out B2.out.lt).cell 3, (B2.out.drew.below B5.out B2.out.lt).cell 4⟩
      | exact ⟨B2.out.drew.cell 3, B2.out.drew.cell 4⟩) (first
      | (go_at_call 42; ((with_reducible refine (C3.out _ (R1.out.fl.below (Below.refl _ _).drew.drew)).mono ?_); rintro e w5 ⟨p5, rfl, b5⟩; have B5 := Lib.hid b5; clear b5))))
    have G5 := Lib.hid (show Below w1.heap.size w1 w5 from (Below.refl _ _).drew.drew.trans B5.out)
    by_cases hm : (q : Int) ∈ V.zs
    · have hm' : (q : Int) ∈ D.fails := (R1.out.mem _).1 hm
      rw [if_pos hm'] at HE
      rw [show decide ((q : Int) ∈ V.zs) = true from decide_eq_true hm]
      clear hm hm'
      go_wp2_with (first
        | (go_at_call 25; ((with_reducible refine (C5.out _).mono ?_); rintro e w6 ⟨rfl, rfl⟩)))
      refine ⟨rfl, by rw [HE.out]; rfl, ⟨OK'.out, V, ?_, ?_⟩, ?_⟩
      · rw [HS.out]
        simp only
        rw [HOFF.out]
        exact B1H.out.below G5.out B1H.out.lt
      · rw [HS.out]
        exact R1.out.below G5.out
      · exact M1H.out.trans (Mv.of (F := F) N1.out G5.out) (fun b h => .inl h)
    · have hm' : ¬ (q : Int) ∈ D.fails := fun h => hm ((R1.out.mem _).2 h)
      rw [if_neg hm'] at HE
      rw [show decide ((q : Int) ∈ V.zs) = false from decide_eq_false hm]
      clear hm hm'
      go_wp2_with (first
        | (go_at_call 25; ((with_reducible refine (C4.out _).mono ?_); rintro e w6 ⟨rfl, rfl⟩)))
      go_end0
      refine ⟨by rw [HE.out]; rfl, ⟨OK'.out, V, ?_, ?_⟩, ?_⟩
      · rw [HS.out]
        simp only
        rw [HOFF.out]
        exact B1H.out.below G5.out B1H.out.lt
      · rw [HS.out]
        exact R1.out.below G5.out
      · exact M1H.out.trans (Mv.of (F := F) N1.out G5.out) (fun b h => .inl h)
end Go.Proofs.Ytammgingmkdfhaa.S19
