/-
  Texts put together: Dk8, Dk9, Steady. No statement is proved here.
-/
import Derived.Test.YtnoflgkjdibblaaGreatDoorWb05
import Derived.Deep.Cut
import Derived.Deep.RegionHeld3
import Derived.Test.YtnoflgkjdibblaaGreatDoorRows
import Derived.StillTail
import Derived.Tactics
import Derived.WalkKit
import Derived.Deep.MidRow

/-
  The document's own disk: what is counted. No statement is proved here.
-/
namespace Go.Proofs.YtnoflgkjdibblaaGreatDoor.S19
set_option linter.unusedSimpArgs false
set_option linter.unusedVariables false
set_option maxRecDepth 4096
open Go.RowKit

theorem take_mem_succ (fs : List Int) (j : Nat) (k : Int) (hj : j < fs.length) (h1 : k ∉ fs.take j) (h2 : fs.getD j 0 ≠ k) : k ∉ fs.take (j + 1) := by
  have e : fs.take (j + 1) = fs.take j ++ [fs.getD j 0] := by
    rw [List.take_add_one, List.getElem?_eq_getElem hj]
    simp [List.getD, hj]
  rw [e, List.mem_append, List.mem_singleton]
  rintro (h | h)
  · exact h1 h
  · exact h2 h.symm
theorem Bk.mv {N : Nat} {G : Nat → Prop} {w w' : World} {h : Nat} {T : TypeId} {cs : Array Value} (hb : Bk w h T cs) (k : Below w.heap.size w w') : Bk w' h T cs := hb.below k hb.lt
set_option maxHeartbeats 4000000 in
theorem counted_any {L : Value} (N : Nat) (w : World) (h : Nat) (D : Dk) (G : Nat → Prop) (r : Rk N w h L D G) (hc : D.cnt < 1099511627776) : Calls Tryz.prog 92 #[.pointer (some ⟨h, 0, none⟩)] w (PostR N G h L w (if D.off = true then D else D.step) (.int .i64 (D.stepC : Int))) := by
  obtain ⟨V, hb, hr⟩ := r.ex
  have hok := r.ok
  have c6 : w.cell? ⟨h, 6, none⟩ = some (.int .i64 (D.cnt : Int)) := hb.cell 6
  have c7 : w.cell? ⟨h, 7, none⟩ = some (.bool D.off) := hb.cell 7
  have f6 := hb.frozen 6
  cases ho : D.off
  case true =>
    rw [ho] at c7
    have hs : D.stepC = 6 := by rw [Dk.stepC, if_pos ho]
    rw [if_pos rfl, hs]
    have RR := Lib.hid r
    clear hb hr hok r hc hs c6 f6
    go_enter Tryz.func92, Tryz.ntmps92
    go_wp2_with (fail)
    go_ret
    exact ⟨rfl, G, RR.out, fun b hb => .inl hb, Mv.refl _ _ _⟩
  case false =>
    rw [ho] at c7
    rw [if_neg (by simp)]
    obtain ⟨q, hq⟩ : ∃ q, q = D.cnt + 1 := ⟨_, rfl⟩
    have e1 : IntKind.i64.wrap ((D.cnt : Int) + 1) = (q : Int) := by rw [IntKind.wrap_i64]; omega
    have e2 : wrap64 ((D.cnt : Int) + 1) = (q : Int) := by unfold wrap64; omega
    have HGN := Lib.hid (show N ≤ h ∧ G h from ⟨(hr.gN h (hr.inG h (.inl rfl))).1, hr.inG h (.inl rfl)⟩)
    obtain ⟨w1, hw1⟩ : ∃ w1, w.setCell ⟨h, 6, none⟩ (.int .i64 (q : Int)) = w1 := ⟨_, rfl⟩
    have T1 := Lib.hid (show Bk w1 h 62 #[L, V.vS, V.vW, V.vB, .slice V.AF V.nF V.cF, .int .i64 D.stop, .int .i64 (q : Int), .bool false] by
      rw [← hw1]
      have := hb.put 6 (.int .i64 (q : Int))
      rw [ho] at this
      exact this)
    have R1 := Lib.hid (show Rest N w1 h D.sure (pendZ D.pend) (pendR D.pend) D.fails G V by rw [← hw1]; exact hr.poke 6 _)
    have M1 := Lib.hid (show Mv N G w w1 by rw [← hw1]; exact Mv.poke HGN.out.1 HGN.out.2 w 6 _)
    have HOK := Lib.hid (Dk.step_ok hok)
    have HQ := Lib.hid hq
    clear hb hr hok r hc hq
    by_cases hst : (D.cnt : Int) + 1 = D.stop
    · have hs : D.stepC = 6 := by rw [Dk.stepC, ho, if_neg (by simp), if_pos hst]
      have hD : D.step = { D with cnt := D.cnt + 1, off := true } := by rw [Dk.step, if_pos hst]
      rw [hs]
      have HOKS := HOK.out
      rw [hD] at HOKS ⊢
      have HK := Lib.hid HOKS
      obtain ⟨st, hst'⟩ : ∃ st, st = D.stop := ⟨_, rfl⟩
      have e3 : (q : Int) = st := by rw [hst', ← hst, HQ.out]; simp
      have e4 : ((q : Int) == st) = true := by rw [e3]; simp
      rw [← hst'] at T1
      have HST := Lib.hid hst'
      clear hs hD HOKS hst hst' HOK e3
      go_enter Tryz.func92, Tryz.ntmps92
      go_upto_region 4 with (fail)
      first
        | rw [hw1]
        | skip
      clear hw1 c6 c7 f6
      have KS := Lib.hid (show ∀ X, Below w1.heap.size w1 X → X.cell? ⟨h, 6, none⟩ = some (.int .i64 (q : Int)) ∧ X.cell? ⟨h, 5, none⟩ = some (.int .i64 st) from fun X hX => ⟨(T1.out.below hX T1.out.lt).cell 6, (T1.out.below hX T1.out.lt).cell 5⟩)
      have GD := Lib.hid (Below.refl w1.heap.size w1).drew
      (go_region_held3 (fun X => X.cell? ⟨h, 6, none⟩ = some (.int .i64 (q : Int)) ∧ X.cell? ⟨h, 5, none⟩ = some (.int .i64 st)) (exact KS.out _ GD.out) (fail))
      have T2 := Lib.hid (T1.out.below GD.out T1.out.lt)
      have c7 := T2.out.cell 7
      have f7 := T2.out.frozen 7
      simp only [List.getElem?_toArray, List.getElem?_cons_zero, List.getElem?_cons_succ] at c7
      go_wp2_with (fail)
      go_ret
      refine ⟨rfl, G, ⟨HK.out, V, ?_, (R1.out.keep GD.out.size fun b _ hlt => GD.out.block b hlt).poke 7 _⟩, fun b hb => .inl hb, M1.out.trans ((Mv.of (by have := M1.out.size; have := HGN.out.1; have := T1.out.lt; omega) GD.out).trans (Mv.poke HGN.out.1 HGN.out.2 _ 7 _) (fun b hb => .inl hb)) (fun b hb => .inl hb)⟩
      have := T2.out.put 7 (.bool true)
      rw [HST.out, HQ.out] at this
      exact this
    · have hD : D.step = { D with cnt := D.cnt + 1 } := by rw [Dk.step, if_neg hst]
      have hs : D.stepC = if ((D.cnt : Int) + 1) ∈ D.fails then 7 else 0 := by rw [Dk.stepC, ho, if_neg (by simp), if_neg hst]
      have hq1 : (D.cnt : Int) + 1 = (q : Int) := by have := HQ.out; omega
      rw [hq1] at hs hst
      have HOKS := HOK.out
      rw [hD] at HOKS ⊢
      rw [hs]
      have HK := Lib.hid HOKS
      obtain ⟨st, hst'⟩ : ∃ st, st = D.stop := ⟨_, rfl⟩
      rw [← hst'] at hst T1
      have e4 : ((q : Int) == st) = false := by simpa using hst
      have HST := Lib.hid hst'
      clear hs hD HOKS hst' HOK hq1
      have END := Lib.hid (show ∀ X, Below w1.heap.size w1 X → ∀ v, PostR N G h L w { D with cnt := D.cnt + 1 } v (.returned v) X from fun X hX v => by
        have T2 := T1.out.below hX T1.out.lt
        rw [HST.out, HQ.out, ← ho] at T2
        refine ⟨rfl, G, ⟨HK.out, V, T2, R1.out.keep hX.size fun b _ hlt => hX.block b hlt⟩, fun b hb => .inl hb, M1.out.trans (Mv.of (by have := M1.out.size; have := HGN.out.1; have := T1.out.lt; omega) hX) (fun b hb => .inl hb)⟩)
      obtain ⟨fs, hfs⟩ : ∃ fs, fs = D.fails := ⟨_, rfl⟩
      rw [← hfs] at R1
      obtain ⟨cd, hcd⟩ : ∃ cd : Nat, cd = if (q : Int) ∈ D.fails then 7 else 0 := ⟨_, rfl⟩
      rw [← hcd]
      rw [← hfs] at hcd
      have HCD := Lib.hid hcd
      obtain ⟨D', hD'⟩ : ∃ D' : Dk, D' = { D with cnt := D.cnt + 1 } := ⟨_, rfl⟩
      rw [← hD'] at END ⊢
      clear hcd hD'
      have KS := Lib.hid (show ∀ X, Below w1.heap.size w1 X → X.cell? ⟨h, 6, none⟩ = some (.int .i64 (q : Int)) ∧ X.cell? ⟨h, 5, none⟩ = some (.int .i64 st) ∧ X.cell? ⟨h, 4, none⟩ = some (.slice V.AF V.nF V.cF) from fun X hX => ⟨(T1.out.below hX T1.out.lt).cell 6, (T1.out.below hX T1.out.lt).cell 5, (T1.out.below hX T1.out.lt).cell 4⟩)
      have RF := Lib.hid (show ∀ X, Below w1.heap.size w1 X → RI X .i64 V.AF V.nF V.cF fs from fun X hX => R1.out.rF.below hX)
      go_enter Tryz.func92, Tryz.ntmps92
      go_upto_region 4 with (fail)
      first
        | rw [hw1]
        | skip
      clear hw1 c6 c7 f6 hfs
      have GD := Lib.hid (Below.refl w1.heap.size w1).drew
      (go_region_held3 (fun X => X.cell? ⟨h, 6, none⟩ = some (.int .i64 (q : Int)) ∧ X.cell? ⟨h, 5, none⟩ = some (.int .i64 st) ∧ X.cell? ⟨h, 4, none⟩ = some (.slice V.AF V.nF V.cF)) (exact KS.out _ GD.out) (fail))
      go_wp2_with (fail)
      obtain ⟨nF, hnF⟩ : ∃ nF, V.nF = nF := ⟨_, rfl⟩
      rw [hnF] at KS RF
      have HNF := Lib.hid (show fs.length = nF from (RF.out _ (Below.refl _ _)).len)
      have hmx : nF ≤ 9223372036854775807 := by have h1 := (RF.out _ (Below.refl _ _)).cap; have h2 := (RF.out _ (Below.refl _ _)).max; unfold maxLen at h2; omega
      go_loopw [3] (fun iv wi => ∃ (i : Nat), i ≤ nF ∧ iv = .int .i64 (i : Int) ∧ (q : Int) ∉ fs.take i ∧ Below w1.heap.size w1 wi)
        (fun iv _ => nF - (intOf iv).toNat)
      case atStart => exact ⟨0, Nat.zero_le _, rfl, by simp, GD.out⟩
      case round =>
        clear GD
        obtain ⟨i, hi, rfl, hni, hB⟩ := hrel
        have BR := Lib.hid hB
        have HNI := Lib.hid hni
        obtain ⟨k6, k5, k4⟩ := KS.out _ hB
        clear hB hni
        by_cases hlt : i < nF
        · have t0 : (i : Int) < (nF : Int) := by omega
          obtain ⟨b, off, hA, hb, hcell⟩ := (RF.out _ BR.out).cell hlt
          rw [hA] at k4
          obtain ⟨z, hz⟩ : ∃ z, z = fs.getD i 0 := ⟨_, rfl⟩
          rw [← hz] at hcell
          have HZ := Lib.hid hz
          have KZ := Lib.hid (show ∀ X, Below wr.heap.size wr X → X.cell? ⟨h, 6, none⟩ = some (.int .i64 (q : Int)) ∧ X.cell? ⟨h, 4, none⟩ = some (.slice (some ⟨b, off, none⟩) nF V.cF) ∧ X.cell? ⟨b, off + i, none⟩ = some (.int .i64 z) from fun X hX => by
            have q1 := KS.out X (BR.out.trans (hX.mono BR.out.size))
            exact ⟨q1.1, by rw [q1.2.2, hA], (hX.cell (p := ⟨b, off + i, none⟩) hb).trans hcell⟩)
          have GD := Lib.hid (Below.refl wr.heap.size wr).drew
          clear hA hcell hz hb
          by_cases hzq : z = (q : Int)
          · have y1 : (z == (q : Int)) = true := by simp [hzq]
            have HIN := Lib.hid (show (q : Int) ∈ fs by
              rw [← hzq, HZ.out]
              rw [List.getD_eq_getElem?_getD, List.getElem?_eq_getElem (by rw [HNF.out]; exact hlt)]
              exact List.getElem_mem _)
            clear hzq
            go_upto_region 10 with (fail)
            (go_region_held3 (fun X => X.cell? ⟨h, 6, none⟩ = some (.int .i64 (q : Int)) ∧ X.cell? ⟨h, 4, none⟩ = some (.slice (some ⟨b, off, none⟩) nF V.cF) ∧ X.cell? ⟨b, off + i, none⟩ = some (.int .i64 z)) (exact KZ.out _ GD.out) (fail))
            go_wp2_with (fail)
            go_ret
            have e7 : cd = 7 := by rw [HCD.out, if_pos HIN.out]
            rw [e7]
            exact END.out _ (BR.out.trans (GD.out.mono BR.out.size)) _
          · have y1 : (z == (q : Int)) = false := by simp [hzq]
            have HN2 := Lib.hid (take_mem_succ fs i (q : Int) (by rw [HNF.out]; exact hlt) HNI.out (by rw [← HZ.out]; exact hzq))
            clear hzq
            go_upto_region 10 with (fail)
            (go_region_held3 (fun X => X.cell? ⟨h, 6, none⟩ = some (.int .i64 (q : Int)) ∧ X.cell? ⟨h, 4, none⟩ = some (.slice (some ⟨b, off, none⟩) nF V.cF) ∧ X.cell? ⟨b, off + i, none⟩ = some (.int .i64 z)) (exact KZ.out _ GD.out) (fail))
            go_wp2_with (fail)
            go_roundw
            case rel => exact ⟨i + 1, by omega, by go_num, HN2.out, BR.out.trans (GD.out.mono BR.out.size)⟩
            case measure => simp [intOf]; omega
        · have t0 : ¬ (i : Int) < (nF : Int) := by omega
          obtain rfl : i = nF := by omega
          have HIN := Lib.hid (show ¬ (q : Int) ∈ fs by
            have := HNI.out
            rwa [List.take_of_length_le (by rw [HNF.out]; exact Nat.le_refl _)] at this)
          go_wp2_with (fail)
          go_ret
          have e7 : cd = 0 := by rw [HCD.out, if_neg HIN.out]
          rw [e7]
          exact END.out _ BR.out _
end Go.Proofs.YtnoflgkjdibblaaGreatDoor.S19

/-
  The document's own disk: what is read. No statement is proved here.
-/
namespace Go.Proofs.YtnoflgkjdibblaaGreatDoor.S19
set_option linter.unusedSimpArgs false
set_option linter.unusedVariables false
set_option maxRecDepth 4096
open Go.RowKit

theorem own_cellB {w : World} {B e n c : Nat} {A : Option Addr} {xs : List Value} (h : w.ownsRow B e 1 (.slice A n c) n xs) {j : Nat} (hj : j < n) : ∃ b, A = some ⟨b, 0, none⟩ ∧ b < w.heap.size ∧ w.cell? ⟨b, j, none⟩ = xs[j]? ∧ w.frozen? ⟨b, j, none⟩ = false := by
  rcases h.2 with ⟨h1, h2⟩ | ⟨g, cap, cur, h1, _, hh, _⟩
  · omega
  · injection h1 with h1 h2 h3
    subst h1 h3
    exact ⟨g, rfl, (Array.getElem?_eq_some_iff.1 hh).1, h.cellAt j (by omega), h.frozenAt j⟩
theorem lastOf_take (i : Nat) (ps : List (Nat × List UInt8)) (b : List UInt8) (k : Nat) (hk : k < ps.length) : Dk.lastOf i (ps.take (k + 1)) b = if (ps.getD k (0, [])).1 = i then (ps.getD k (0, [])).2 else Dk.lastOf i (ps.take k) b := by
  have e : ps.take (k + 1) = ps.take k ++ [((ps.getD k (0, [])).1, (ps.getD k (0, [])).2)] := by
    have e0 : ((ps.getD k (0, [])).1, (ps.getD k (0, [])).2) = ps[k] := by simp [List.getD, hk]
    rw [e0, List.take_add_one, List.getElem?_eq_getElem hk]
    rfl
  rw [e, Dk.lastOf_append]
theorem pendZ_at (ps : List (Nat × List UInt8)) (k : Nat) (hk : k < ps.length) : (zv (pendZ ps))[k]? = some (.int .i64 ((ps.getD k (0, [])).1 : Int)) := by
  simp [zv, pendZ, hk, List.getD]
def GivesRead (D : Dk) (i : Int) (w : World) (e : Ending) (w' : World) : Prop := ∃ A c, e = .returned (.tuple #[.slice A (D.readB i).length c, .int .i64 (D.readC i : Int)]) ∧ Rd w' A (D.readB i).length c (D.readB i) ∧ (∀ a, 0 < (D.readB i).length → A = some a → w.heap.size ≤ a.block) ∧ Below w.heap.size w w'
set_option maxHeartbeats 4000000 in
theorem rreadD_any {L : Value} (N : Nat) (w : World) (h : Nat) (D : Dk) (G : Nat → Prop) (r : Rk N w h L D G) (i : Int) : Calls Tryz.prog 65 #[.pointer (some ⟨h, 0, none⟩), .int .i64 i] w (GivesRead D i w) := by
  obtain ⟨V, hb, hr⟩ := r.ex
  have hok := r.ok
  have c7 : w.cell? ⟨h, 7, none⟩ = some (.bool D.off) := hb.cell 7
  have c1 : w.cell? ⟨h, 1, none⟩ = some V.vS := hb.cell 1
  have c2 : w.cell? ⟨h, 2, none⟩ = some V.vW := hb.cell 2
  have c3 : w.cell? ⟨h, 3, none⟩ = some V.vB := hb.cell 3
  obtain ⟨AS, cS, eS⟩ := own_form hr.oS
  rw [eS] at c1
  have hnil : ∀ c : Nat, D.readC i = c → c ≠ 0 → ∀ X, Below w.heap.size w X → GivesRead D i w (.returned (.tuple #[.slice none 0 0, .int .i64 (c : Int)])) X := by
    intro c hc h0 X hX
    have e : D.readB i = [] := by rw [Dk.readB, if_neg (by rw [hc]; exact h0)]
    refine ⟨none, 0, ?_, ?_, ?_, hX⟩
    · rw [e, hc]; rfl
    · rw [e]; exact Rd.nil_ _
    · rw [e]; intro a h1; cases h1
  cases ho : D.off
  case true =>
    rw [ho] at c7
    have HN := Lib.hid (hnil 6 (by rw [Dk.readC, if_pos ho]) (by omega))
    clear hb hr hok r c1 c2 c3 hnil
    go_enter Tryz.func65, Tryz.ntmps65
    go_wp2_with (fail)
    go_ret2
    exact HN.out _ (Below.refl _ _)
  case false =>
    rw [ho] at c7
    by_cases hh : D.has i
    case neg =>
      have HN := Lib.hid (hnil 1 (by rw [Dk.readC, ho, if_neg (by simp), if_neg hh]) (by omega))
      by_cases h0 : i < 0
      · clear hb hr hok r c2 c3 hnil hh
        go_enter Tryz.func65, Tryz.ntmps65
        go_wp2_with (fail)
        go_ret2
        exact HN.out _ (Below.refl _ _)
      · have h1 : (D.sure.length : Int) ≤ i := by unfold Dk.has at hh; omega
        generalize D.sure.length = sl at *
        clear hb hr hok r c2 c3 hnil hh
        go_enter Tryz.func65, Tryz.ntmps65
        go_wp2_with (fail)
        go_ret2
        exact HN.out _ (Below.refl _ _)
    case pos =>
      have hi0 : 0 ≤ i := hh.1
      obtain ⟨ii, rfl⟩ := Int.eq_ofNat_of_zero_le hi0
      have hlt : ii < D.sure.length := by have := hh.2; omega
      have hrc : D.readC ii = 0 := by rw [Dk.readC, ho, if_neg (by simp), if_pos hh]
      have hrb : D.readB ii = D.atS ii := by rw [Dk.readB, if_pos hrc]; rfl
      have hl64 : (D.atS ii).length = 64 := Dk.atS_len hok hlt
      have hp64 : ∀ p ∈ D.pend, p.2.length = 64 := fun p hp => (hok.pend p hp).2
      have hs64 : (D.sure.getD ii []).length = 64 := hok.rows _ (by rw [List.getD_eq_getElem?_getD, List.getElem?_eq_getElem hlt]; simp)
      obtain ⟨AW, cW, eW⟩ := own_form hr.oW
      obtain ⟨AB, cB, eB⟩ := own_form hr.oB
      rw [pendZ_len] at eW
      rw [pendR_len] at eB
      rw [eW] at c2
      rw [eB] at c3
      have OW := hr.oW
      have OB := hr.oB
      rw [pendZ_len] at OW
      rw [pendR_len] at OB
      have OS := hr.oS
      rw [eW] at OW
      rw [eB] at OB
      rw [eS] at OS
      obtain ⟨bS, rfl, hbS, hcS, _⟩ := own_cellB OS hlt
      obtain ⟨A0, n0, c0, e0, r0, g0⟩ := hr.rS ii hlt
      rw [e0] at hcS
      have R0 := Lib.hid r0
      have HR := Lib.hid hr
      have HOW := Lib.hid OW
      have HOB := Lib.hid OB
      obtain ⟨sl, hsl⟩ : ∃ sl, sl = D.sure.length := ⟨_, rfl⟩
      rw [← hsl] at hlt c1
      obtain ⟨pl, hpl⟩ : ∃ pl, pl = D.pend.length := ⟨_, rfl⟩
      rw [← hpl] at c2 c3
      have HPL := Lib.hid hpl
      have HFIN := Lib.hid (show ∀ (A : Option Addr) (c : Nat) (X : World), Rd X A 64 c (D.atS ii) → (∀ a, A = some a → w.heap.size ≤ a.block) → Below w.heap.size w X → GivesRead D ii w (.returned (.tuple #[.slice A 64 c, .int .i64 0])) X from fun A c X h1 h2 h3 => by
        refine ⟨A, c, ?_, ?_, fun a _ e => h2 a e, h3⟩
        · rw [hrb, hl64, hrc]; rfl
        · rw [hrb, hl64]; exact h1)
      have H64 := Lib.hid (show ∀ k, (Dk.lastOf ii (D.pend.take k) (D.sure.getD ii [])).length = 64 from fun k => Dk.lastOf_len _ _ (fun p hp => hp64 p (List.mem_of_mem_take hp)) hs64)
      have HAT := Lib.hid (show Dk.lastOf ii (D.pend.take pl) (D.sure.getD ii []) = D.atS ii by rw [hpl, List.take_length]; rfl)
      have HMX := Lib.hid (show pl ≤ 9223372036854775807 from by
        have h1 := (RI.own OW).cap
        have h2 := (RI.own OW).max
        unfold maxLen at h2
        omega)
      have HGN := Lib.hid (show N ≤ w.heap.size by have := (hr.gN h (hr.inG h (.inl rfl))); omega)
      have t0 : ¬ (ii : Int) < 0 := by omega
      have t1 : ¬ (sl : Int) ≤ (ii : Int) := by omega
      have t2 : (ii : Int) < (sl : Int) := by omega
      clear hb hr hok r hnil hh hi0 hrc hrb hl64 hp64 hs64 OW OB OS e0 r0 g0 hpl hsl eS eW eB
      go_enter Tryz.func65, Tryz.ntmps65
      go_wp2_with (fail)
      clear t1 t2 hcS c1
      obtain ⟨wo, rfl⟩ : ∃ wo : World, wo = w := ⟨_, rfl⟩
      go_loopw [6, 7] (fun bv kv wi => ∃ (k : Nat) (Ab : Option Addr) (nb cb : Nat), k ≤ pl ∧ kv = .int .i64 (k : Int) ∧ bv = .slice Ab nb cb ∧ Rd wo Ab nb cb (Dk.lastOf ii (D.pend.take k) (D.sure.getD ii [])) ∧ wi = wo)
        (fun _ kv _ => pl - (intOf kv).toNat)
      case atStart => exact ⟨0, A0, n0, c0, Nat.zero_le _, rfl, rfl, by rw [List.take_zero]; exact R0.out, rfl⟩
      case round =>
        obtain ⟨k, Ab, nb, cb, hk, rfl, rfl, hrd, rfl⟩ := hrel
        have RB := Lib.hid hrd
        clear hrd R0
        have hmx := HMX.out
        by_cases hlk : k < pl
        · have t5 : (k : Int) < (pl : Int) := by omega
          have hlk' : k < D.pend.length := by have := HPL.out; omega
          obtain ⟨bW, eW, hbW, hcW, _⟩ := own_cellB HOW.out hlk'
          obtain ⟨bB, eB, hbB, hcB, _⟩ := own_cellB HOB.out hlk'
          obtain ⟨A1, n1, c1', e1, r1, _⟩ := HR.out.rB k (by rw [pendR_len]; exact hlk')
          rw [pendR_at] at r1
          rw [pendZ_at _ _ hlk'] at hcW
          rw [e1] at hcB
          rw [eW] at c2
          rw [eB] at c3
          have STEP := lastOf_take ii D.pend (D.sure.getD ii []) k hlk'
          obtain ⟨pw, hpw⟩ : ∃ pw, pw = (D.pend.getD k (0, [])).1 := ⟨_, rfl⟩
          rw [← hpw] at hcW STEP
          by_cases hpi : pw = ii
          · rw [if_pos hpi] at STEP
            have HST := Lib.hid STEP
            have R1 := Lib.hid r1
            have y1 : ((pw : Int) == (ii : Int)) = true := by simp [hpi]
            have HEW := Lib.hid eW
            have HEB := Lib.hid eB
            clear STEP hpi hpw r1 e1 hbW hbB eW eB hlk'
            go_wp2_with (fail)
            go_roundw
            case rel => exact ⟨k + 1, A1, n1, c1', by omega, by go_num, rfl, by rw [HST.out]; exact R1.out, trivial⟩
            case measure => simp [intOf]; omega
          · rw [if_neg hpi] at STEP
            have HST := Lib.hid STEP
            have y1 : ((pw : Int) == (ii : Int)) = false := by simp; omega
            have HEW := Lib.hid eW
            have HEB := Lib.hid eB
            clear STEP hpi hpw r1 e1 hbW hbB eW eB hlk'
            go_wp2_with (fail)
            go_roundw
            case rel => exact ⟨k + 1, Ab, nb, cb, by omega, by go_num, rfl, by rw [HST.out]; exact RB.out, trivial⟩
            case measure => simp [intOf]; omega
        · have t5 : ¬ (k : Int) < (pl : Int) := by omega
          obtain rfl : k = pl := by omega
          have R2 := Lib.hid (show Rd wr Ab nb cb (D.atS ii) by rw [← HAT.out]; exact RB.out)
          obtain rfl : nb = 64 := RB.out.len.symm.trans (H64.out k)
          go_wp2_with (at_builtin; refine append_rd rfl (.tmp 55) (.tmp 56) rfl wr.heap.size _ 0 [] rfl (World.ownsRow_lit (base := wr.heap.size) (e := 5) (size := 1) wr #[] 0 (Nat.le_refl _) (by simp [maxLen]) rfl) Ab 64 cb _ rfl (R2.out.alloc _) (by omega) (by simp) ?_; intro v5 w5 o5 g5; obtain ⟨A5, c5, rfl⟩ := own_form o5; have O5 := Lib.hid (own_n o5); have B5 := Lib.hid (((Below.refl wr.heap.size wr).alloc (Nat.le_refl _) _).grown g5 (by simp) (fun q hq => Nat.le_of_eq (Option.some.inj hq))); clear o5 g5)
          go_ret2
          exact HFIN.out A5 c5 _ (Rd.own O5.out) (fun a e => by rw [e] at O5; exact (O5.out.lt a.block rfl).1) B5.out
end Go.Proofs.YtnoflgkjdibblaaGreatDoor.S19

/-
  A region that draws its order, each of whose operations gives the same value in every world that meets S, and leaves one that does: it may be gone through in the text's order, once. No statement is proved here.
-/
namespace Go.Proofs.YtnoflgkjdibblaaGreatDoor
set_option linter.unusedSimpArgs false
set_option linter.unusedVariables false
set_option maxRecDepth 1024

section
variable {P : Program} {ops : Array Oper} {md : Region.Mode} {S : World → Prop} {F : Act → Prop}

def gives (P : Program) (o : Oper) (a : Act) (w : World) (R : Value → World → Prop) : Prop :=
  match (execOp a.eval o).run P w with
  | .ok (.value v) w' => R v w'
  | .ok .skip w' => R undef w'
  | .ok (.enter f args) w' => Calls P f args w' fun e w'' => ∃ v, e = .returned v ∧ R v w''
  | _ => False
theorem gives_wp {o : Oper} {a : Act} {w : World} {R : Value → World → Prop} {K : Act → World → Prop} {Q : Exit → Act → World → Prop} (h : gives P o a w R) (hk : ∀ v w', R v w' → K (a.put o.dst v) w') : o.wp P a w K Q := by
  unfold gives at h
  unfold Oper.wp
  generalize (execOp a.eval o).run P w = r at *
  cases r with
  | ok n w' =>
    cases n <;> simp only [Oper.upon] at h ⊢ <;> try exact h.elim
    case value v => exact hk _ _ h
    case skip => exact hk _ _ h
    case enter f args =>
      refine h.mono ?_
      rintro e w'' ⟨v, rfl, hr⟩
      exact hk _ _ hr
  | halt x w' => exact h.elim
theorem gives_same {o : Oper} {a a' : Act} {w : World} {R : Value → World → Prop} (e : execOp a'.eval o = execOp a.eval o) (h : gives P o a w R) : gives P o a' w R := by
  unfold gives at *
  rw [e]
  exact h
def Stp (P : Program) (ops : Array Oper) (S : World → Prop) (o : Oper) (v : Value) (a : Act) : Prop :=
  (Region.wanted o (yielded ops a.tmps) = true ∧ ∀ w, S w → gives P o a w (fun u w' => u = v ∧ S w')) ∨ (Region.wanted o (yielded ops a.tmps) = false ∧ v = undef)
theorem Stp.same {o : Oper} {v : Value} {a a' : Act} (h : Stp P ops S o v a) (e : execOp a'.eval o = execOp a.eval o) (hw : Region.wanted o (yielded ops a'.tmps) = Region.wanted o (yielded ops a.tmps)) : Stp P ops S o v a' := by
  rcases h with ⟨h1, h2⟩ | ⟨h1, h2⟩
  · exact .inl ⟨by rw [hw]; exact h1, fun w hS => gives_same e (h2 w hS)⟩
  · exact .inr ⟨by rw [hw]; exact h1, h2⟩
def anyS (P : Program) (md : Region.Mode) (ops : Array Oper) (S : World → Prop) (F : Act → Prop) : Nat → Array Bool → Act → Prop
  | 0, listed, a => Region.ready md ops listed = [] ∧ F a
  | f + 1, listed, a => Region.ready md ops listed ≠ [] ∧ ∀ i ∈ Region.ready md ops listed, ∃ (oi : Oper) (v : Value), ops[i]? = some oi ∧ Stp P ops S oi v a ∧ anyS P md ops S F f (listed.setIfInBounds i true) (a.put oi.dst v)
theorem wpAny_of_anyS {Q : Exit → Act → World → Prop} (hF : ∀ a, F a → ∀ w, S w → Q .normal a w) : ∀ (f : Nat) (listed : Array Bool) (a : Act), anyS P md ops S F f listed a → ∀ w, S w → wpAny P md ops Q f listed a w
  | 0, listed, a, h, w, hS => ⟨h.1, hF a h.2 w hS⟩
  | f + 1, listed, a, h, w, hS => by
    refine ⟨fun h0 => absurd h0 h.1, fun i hi => ?_⟩
    obtain ⟨oi, v, ho, hs, hn⟩ := h.2 i hi
    unfold wpOp
    simp only [ho]
    rcases hs with ⟨hw, hg⟩ | ⟨hw, hv⟩
    · simp only [hw, if_true]
      refine .inl (gives_wp (hg w hS) ?_)
      rintro u w' ⟨rfl, hS'⟩
      exact wpAny_of_anyS hF f _ _ hn w' hS'
    · simp only [hw, Bool.false_eq_true, if_false]
      rw [← hv]
      exact wpAny_of_anyS hF f _ _ hn w hS
theorem anyS_first {i : Nat} {oi : Oper} {v : Value} (hi : ops[i]? = some oi) (hsel : ∀ (j : Nat) (o : Oper) cs b, ops[j]? = some o → o.op ≠ .select cs b) :
    ∀ (f : Nat) (listed : Array Bool) (a : Act),
      (∀ j oj, ops[j]? = some oj → j ≠ i → listed.getD j true = false → (∀ e ∈ oj.after, Region.binds md e = true → e.on ≠ i) → oi.apart ops oj = true) →
      i ∈ Region.ready md ops listed → Stp P ops S oi v a → anyS P md ops S F f (listed.setIfInBounds i true) (a.put oi.dst v) → anyS P md ops S F (f + 1) listed a := by
  intro f
  induction f with
  | zero =>
    intro listed a hap hr hs H
    refine ⟨fun h => (by rw [h] at hr; cases hr), fun j hj => ?_⟩
    by_cases hji : j = i
    · subst hji; exact ⟨oi, v, hi, hs, H⟩
    · have := ready_mono hj hji
      rw [H.1] at this
      cases this
  | succ f ih =>
    intro listed a hap hr hs H
    refine ⟨fun h => (by rw [h] at hr; cases hr), fun j hj => ?_⟩
    by_cases hji : j = i
    · subst hji; exact ⟨oi, v, hi, hs, H⟩
    · obtain ⟨oj, u, hoj, hsu, Hn⟩ := H.2 j (ready_mono hj hji)
      obtain ⟨hjun, oj', hoj', hall⟩ := mem_ready.1 hj
      have : oj' = oj := Option.some.inj (hoj'.symm.trans hoj)
      subst this
      have hiun := (mem_ready.1 hr).1
      have hwait : ∀ e ∈ oj'.after, Region.binds md e = true → e.on ≠ i := fun e he hb heq => by
        have := hall e he hb
        rw [heq, getD_both hiun] at this
        cases this
      obtain ⟨a1, a2, a3⟩ := Oper.apart_spec (hap j oj' hoj hji hjun hwait)
      refine ⟨oj', u, hoj, hsu.same (execOp_put oj' (fun cs b => hsel j oj' cs b hoj) a oi.dst v a1).symm (wanted_put oj' a oi.dst v a1).symm, ?_⟩
      refine ih _ _ (fun k ok hok hki hkun hkw => hap k ok hok hki ?_ hkw) (ready_mono hr (Ne.symm hji)) (hs.same (execOp_put oi (fun cs b => hsel i oi cs b hi) a oj'.dst u a3) (wanted_put oi a oj'.dst u a3)) ?_
      · by_cases hkj : j = k
        · subst hkj
          exact hjun
        · rwa [getD_set_ne true hkj] at hkun
      · rw [Array.setIfInBounds_comm _ _ hji, ← Act.put_comm a v u a2]
        exact Hn
def Seq (P : Program) (ops : Array Oper) (S : World → Prop) (F : Act → Prop) : List Oper → Act → Prop
  | [], a => F a
  | o :: l, a => ∃ v, Stp P ops S o v a ∧ Seq P ops S F l (a.put o.dst v)
def lexAll (md : Region.Mode) (ops : Array Oper) : Nat → Nat → Array Bool → Bool
  | 0, _, listed => (Region.ready md ops listed).isEmpty
  | f + 1, k, listed => (Region.ready md ops listed).contains k && Region.free md ops listed k && lexAll md ops f (k + 1) (listed.setIfInBounds k true)
theorem anyS_of_seq (hsel : Region.noSelect ops = true) : ∀ (l : List Oper) (k : Nat) (listed : Array Bool) (a : Act), (∀ j, j < l.length → l[j]? = ops[k + j]?) → lexAll md ops l.length k listed = true → Seq P ops S F l a → anyS P md ops S F l.length listed a
  | [], k, listed, a, _, hB, h => ⟨by simpa [lexAll] using hB, h⟩
  | o :: l, k, listed, a, hl, hB, h => by
    have h0 : ops[k]? = some o := by simpa using (hl 0 (by simp)).symm
    simp only [List.length_cons, lexAll, Bool.and_eq_true] at hB
    obtain ⟨⟨hr, hf⟩, hB'⟩ := hB
    obtain ⟨v, hs, hn⟩ := h
    exact anyS_first h0 (Region.noSelect_spec hsel) l.length listed a (Region.free_spec h0 hf) (by simpa using hr) hs
      (anyS_of_seq hsel l (k + 1) _ _ (fun j hj => by have := hl (j + 1) (by simp; omega); simpa [Nat.add_assoc, Nat.add_comm 1 j] using this) hB' hn)
def steadyB (ops : Array Oper) : Bool := Region.noSelect ops && lexAll .any ops ops.size 0 (Array.replicate ops.size false)
theorem wp_region_steady (S : World → Prop) {id : Nat} {Q : Exit → Act → World → Prop} {a : Act} {w : World} {l : List Oper} (hm : P.follows .mixedOrders = true) (hB : steadyB l.toArray = true) (hS : S w.drew)
    (h : Seq P l.toArray S (fun a' => ∀ w', S w' → Q .normal a' w') l a) : (Code.region id l.toArray true).wp P Q a w := by
  simp only [steadyB, Bool.and_eq_true] at hB
  refine wp_region_any hm ?_
  exact wpAny_of_anyS (F := fun a' => ∀ w', S w' → Q .normal a' w') (fun a hF w hS => hF w hS) l.length _ _ (anyS_of_seq hB.1 l 0 _ _ (fun j _ => by simp) (by simpa using hB.2) h) _ hS

theorem seq_nil {a : Act} (h : F a) : Seq P ops S F [] a := h
/-- An operation that leaves the world as it is. -/
theorem seq_pure {o : Oper} {l : List Oper} {a : Act} (v : Value) (hw : Region.wanted o (yielded ops a.tmps) = true) (hx : ∀ w, S w → (execOp a.eval o).run P w = .ok (.value v) w) (h : Seq P ops S F l (a.put o.dst v)) : Seq P ops S F (o :: l) a :=
  ⟨v, .inl ⟨hw, fun w hS => by unfold gives; rw [hx w hS]; exact ⟨rfl, hS⟩⟩, h⟩
theorem seq_skip {o : Oper} {l : List Oper} {a : Act} (hw : Region.wanted o (yielded ops a.tmps) = false) (h : Seq P ops S F l (a.put o.dst undef)) : Seq P ops S F (o :: l) a := ⟨undef, .inr ⟨hw, rfl⟩, h⟩
/-- A load of a long array. -/
theorem seq_load {o : Oper} {l : List Oper} {a : Act} (hw : Region.wanted o (yielded ops a.tmps) = true) (ty : TypeId) (x : Operand) (ho : o.op = .load ty x)
    (b off : Nat) (hx : a.eval x = .pointer (some ⟨b, off, none⟩)) (cs : List Value) (d : TypeDesc) (hc : ∀ w, S w → w.rangeAt b off cs)
    (hu : P.underlying ty = some d) (hd : d.isRow = true) (hi : (P.info? ty).map (·.size) = some cs.length)
    (h : Seq P ops S F l (a.put o.dst (.agg cs.toArray))) : Seq P ops S F (o :: l) a :=
  seq_pure _ hw (fun w hS => by
    unfold execOp
    simp only [ho, hx, Instr.loadAt, Instr.sureAddr, Sem.run_bind, Sem.run_pure, Result.andThen_ok, run_loadVar_mid w b off ty cs d (hc w hS) hu hd hi]) h
end
end Go.Proofs.YtnoflgkjdibblaaGreatDoor
