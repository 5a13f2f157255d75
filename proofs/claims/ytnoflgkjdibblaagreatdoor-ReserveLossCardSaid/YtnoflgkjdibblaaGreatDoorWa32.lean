/-
  Texts put together: Sk6, Sk7, SkC, SkD, SkE, SkF. No statement is proved here.
-/
import Derived.Test.YtnoflgkjdibblaaGreatDoorWa27
import Derived.Test.YtnoflgkjdibblaaGreatDoorWa29
import Derived.Test.YtnoflgkjdibblaaGreatDoorWa05
import Derived.Test.YtnoflgkjdibblaaGreatDoorWa09
import Derived.Deep.Cut
import Derived.Test.YtnoflgkjdibblaaGreatDoorWa30
import Derived.Test.YtnoflgkjdibblaaGreatDoorWa31
import Derived.Test.YtnoflgkjdibblaaGreatDoorWa24

/-
  The landed slots: an area's bytes are read. No statement is proved here.
-/
namespace Go.Proofs.YtnoflgkjdibblaaGreatDoor.S20
set_option linter.unusedSimpArgs false
set_option linter.unusedVariables false
set_option maxRecDepth 8192
open Go.RowKit S19

theorem areaK_len {D : Dk} (ok : D.Ok) {at_ : Nat} : ∀ j, at_ + j ≤ D.sure.length → (Sl.areaK D at_ j).length = 64 * j
  | 0, _ => rfl
  | j + 1, hl => by
    rw [Sl.areaK, List.length_append, areaK_len ok j (by omega), Dk.atS_len ok (by omega)]
    omega
theorem area_at {f n a : Nat} (ha : a < 2) {m : Nat} (h : f + 2 * n ≤ m) {j : Nat} (hj : j ≤ n) : f + a * n + j ≤ m := by
  have h1 : a = 0 ∨ a = 1 := by omega
  rcases h1 with rfl | rfl <;> omega
theorem sub_of {j n : Nat} (h : j + 1 ≤ n) : n - (j + 1) < n - j := by omega
set_option maxHeartbeats 4000000 in
theorem read_on (N : Nat) (w : World) (s g : Nat) (D : Dk) (Z : Sl) (F S : Nat → Prop) (tk : Kn N w g D F) (ts : Sz N w s g Z S) (zo : Z.Ok D) (ho : D.off = false) (a : Nat) (ha : a < 2) :
    Calls Tryz.prog 50 #[.pointer (some ⟨s, 0, none⟩), .int .i64 (a : Int)] w (New w.heap.size w (Z.area D a)) := by
  obtain ⟨i0, hi, hz0, hz1, hz2⟩ := info_parts Tryz.infoU8
  obtain ⟨n, hn⟩ : ∃ n, n = Z.n := ⟨_, rfl⟩
  obtain ⟨f, hf⟩ : ∃ f, f = Z.first := ⟨_, rfl⟩
  have h8 := zo.most
  have h1 := zo.one
  have hfit := zo.fits
  have hmost := tk.ok.most
  rw [← hn] at h8 h1 hfit
  rw [← hf] at hfit
  obtain ⟨at0, hat⟩ : ∃ at0, at0 = f + a * n := ⟨_, rfl⟩
  have HAR := Lib.hid (show Z.area D a = Sl.areaK D at0 n by rw [hat, hf, hn]; rfl)
  have HLT := Lib.hid (show ∀ j, j < n → at0 + j < D.sure.length from fun j hj => by have := area_at ha hfit (j := j + 1) (by omega); omega)
  have SEC := Lib.hid (show ∀ X (j : Nat), Below w.heap.size w X → j < n → Calls Tryz.prog 82 #[.pointer (some ⟨s, 0, none⟩), .int .i64 (a : Int), .int .i64 (j : Int)] X fun e w' => e = .returned (.int .i64 ((at0 + j : Nat) : Int)) ∧ Below X.heap.size X w' from fun X j hX hj => by
    rw [hat]
    exact sector_any N X s g Z S (ts.grow hX) f n a j hf.symm hn.symm (by omega) ha hj h8)
  have RDB := Lib.hid (show ∀ X (i : Nat), Below w.heap.size w X → i < D.sure.length → Calls Tryz.prog 81 #[.pointer (some ⟨g, 0, none⟩), .int .i64 (i : Int)] X fun e w' => ∃ A c, e = .returned (.tuple #[.slice A 64 c, .int .i64 0]) ∧ Rd w' A 64 c (D.atS i) ∧ Below X.heap.size X w' from fun X i hX hi => (read_bel N X g D F (i : Int) (tk.below hX)).mono fun e w' ⟨A, c, e1, e2, _, e3⟩ => by
    obtain ⟨q1, q2⟩ := read_ok ho hi
    rw [q2, Dk.atS_len tk.ok hi] at e1 e2
    rw [q1] at e1
    exact ⟨A, c, e1, e2, e3⟩)
  have AR := Lib.hid (show ∀ X, Calls Tryz.prog 79 #[.int .i64 (n : Int)] X fun e w' => e = .returned (.int .i64 ((64 * n : Nat) : Int)) ∧ X = w' from fun X => area_any n (by omega) X)
  have CS := Lib.hid (show ∀ X, Below w.heap.size w X → X.cell? ⟨s, 0, none⟩ = some (.pointer (some ⟨g, 0, none⟩)) ∧ X.cell? ⟨s, 2, none⟩ = some (.int .i64 (n : Int)) from fun X hX => by
    have h := (ts.grow hX).cells
    rw [hn]
    exact ⟨h.1, h.2.2.1⟩)
  obtain ⟨T, hT⟩ : ∃ T, T = 64 * n := ⟨_, rfl⟩
  rw [← hT] at AR
  have HT := Lib.hid hT
  have hT' : T ≤ 140737488355328 := by omega
  have MY := Lib.hid (fun v X => must_yes v X)
  have H8 := Lib.hid h8
  obtain ⟨c0, c2⟩ := CS.out w (Below.refl _ _)
  rw [HAR.out]
  clear hn hf h8 h1 hfit hmost hat tk ts zo ho ha hT
  go_enter Tryz.func50, Tryz.ntmps50
  go_wp2_with (first
    | (go_at_call 79; ((with_reducible refine (AR.out _).mono ?_); rintro e w1 ⟨rfl, rfl⟩))
    | (at_make; refine wpList_make_own _ rfl _ _ 23 rfl w.heap.size 5 i0 (.int .u8 0) 1 Tryz.underlying23 hi hz0 hz1 _ _ _ T rfl rfl (by omega) (by rw [hz2]; omega) (by unfold maxLen; omega) (Nat.le_refl _) ?_))
  intro w1 own1 grow1
  have B1 := Lib.hid (show Below w.heap.size w w1 from (Below.refl _ _).grown grow1 (Nat.le_refl _) (fun k h => by cases h))
  have O1 := Lib.hid own1
  obtain ⟨d0, d2⟩ := CS.out w1 B1.out
  clear grow1 own1 c0 c2
  go_wp2_with (fail)
  go_loopw [5, 17] (fun o i wr => ∃ (j c : Nat) (A : Option Addr), j ≤ n ∧ i = .int .i64 (j : Int) ∧ o = .slice A (64 * j) c ∧ wr.ownsRow w.heap.size 5 1 (.slice A (64 * j) c) (64 * j) (bv (Sl.areaK D at0 j)) ∧ Below w.heap.size w wr) (fun _ i _ => n - (intOf i).toNat)
  case atStart =>
    obtain ⟨A, c, e⟩ := own_form O1.out
    first
      | exact ⟨0, _, _, Nat.zero_le _, rfl, rfl, O1.out, B1.out⟩
      | exact ⟨0, c, A, Nat.zero_le _, rfl, e, e ▸ O1.out, B1.out⟩
  case round =>
    obtain ⟨j, c, A, hj, rfl, rfl, hO, hB⟩ := hrel
    clear d0 d2
    by_cases hlt : j < n
    · have t0 : (j : Int) < (n : Int) := by omega
      have OW := Lib.hid hO
      have BW := Lib.hid hB
      have GD := Lib.hid (Below.refl wr.heap.size wr).drew
      have BD := Lib.hid (show Below w.heap.size w wr.drew from BW.out.trans (GD.out.mono BW.out.size))
      obtain ⟨aj, haj⟩ : ∃ aj, aj = at0 + j := ⟨_, rfl⟩
      have SJ := Lib.hid (show Calls Tryz.prog 82 #[.pointer (some ⟨s, 0, none⟩), .int .i64 (a : Int), .int .i64 (j : Int)] wr.drew fun e w' => e = .returned (.int .i64 (aj : Int)) ∧ Below wr.drew.heap.size wr.drew w' by rw [haj]; exact SEC.out _ j BD.out hlt)
      have HAJ := Lib.hid (show aj < D.sure.length ∧ Sl.areaK D at0 (j + 1) = Sl.areaK D at0 j ++ D.atS aj from ⟨by rw [haj]; exact HLT.out j hlt, by rw [haj]; rfl⟩)
      obtain ⟨m, hm⟩ : ∃ m, m = 64 * j := ⟨_, rfl⟩
      rw [← hm] at OW ⊢
      have HM := Lib.hid hm
      have hm64 : m + 64 ≤ 140737488355328 := by have := H8.out; omega
      have HLJ := Lib.hid (show j + 1 ≤ n from hlt)
      have WJ := Lib.hid (wrap_succ j (by have := H8.out; omega))
      clear hO hB hlt haj hm hj
      go_upto_region 5 with (fail)
      (go_region_held3 (fun X => X.cell? ⟨s, 0, none⟩ = some (.pointer (some ⟨g, 0, none⟩))) (first
        | exact (CS.out _ B5.out).1
        | exact (CS.out _ B4.out).1
        | exact (CS.out _ B3.out).1
        | exact (CS.out _ BD.out).1) (first
        | (go_at_call 82; ((with_reducible refine SJ.out.mono ?_); rintro e w3 ⟨rfl, b3⟩; have B3 := Lib.hid (BD.out.trans (b3.mono BD.out.size)); have G3 := Lib.hid (show Below wr.heap.size wr w3 from GD.out.trans (b3.mono GD.out.size)); clear b3))
        | (go_at_call 81; ((with_reducible refine (RDB.out _ aj B3.out HAJ.out.1).mono ?_); rintro e w4 ⟨A4, c4, rfl, r4, b4⟩; have R4 := Lib.hid r4; have B4 := Lib.hid (B3.out.trans (b4.mono B3.out.size)); have G4 := Lib.hid (show Below wr.heap.size wr w4 from G3.out.trans (b4.mono G3.out.size)); have O4 := Lib.hid (own_below OW.out G4.out); clear r4 b4))
        | (go_at_call 80; ((with_reducible refine (MY.out _ _).mono ?_); rintro e w9 ⟨rfl, rfl⟩))
        | (refine step_append_rd (by rfl) (.tmp 20) (.tmp 32) (by rfl) w.heap.size _ m _ (by rfl) O4.out A4 64 c4 _ (by rfl) R4.out hm64 B4.out.size ?_; intro v5 w5 o5 g5 at5; obtain ⟨A5, c5, rfl⟩ := own_form o5; have O5 := Lib.hid o5; have B5 := Lib.hid (B4.out.grown g5 B4.out.size (fun k hk => (O4.out.lt k hk).1)); clear o5 g5 at5)
        | fail))
      go_wp2_with (fail)
      go_roundw
      case rel =>
        refine ⟨j + 1, c5, A5, HLJ.out, by first | rw [WJ.out] | go_num, ?_, ?_, B5.out⟩
        · rw [show 64 * (j + 1) = m + 64 by have := HM.out; omega]
        · rw [show 64 * (j + 1) = m + 64 by have := HM.out; omega, HAJ.out.2]
          exact O5.out
      case measure =>
        have h8 := HLJ.out
        have h9 : n - (j + 1) < n - j := sub_of h8
        exact meas_of WJ.out h9
    · obtain rfl : j = n := by omega
      have t0 : ¬ (j : Int) < (j : Int) := by omega
      go_wp2_with (fail)
      go_ret
      exact ⟨A, _, c, rfl, hO, hB⟩
end Go.Proofs.YtnoflgkjdibblaaGreatDoor.S20

/-
  The landed slots: an area's bytes aren't read while the disk is down. No statement is proved here. (Written by gensk7.py.)
-/
namespace Go.Proofs.YtnoflgkjdibblaaGreatDoor.S20
set_option linter.unusedSimpArgs false
set_option linter.unusedVariables false
set_option maxRecDepth 8192
open Go.RowKit S19

/-- A call that leaves by a panic has come up. -/
theorem h_panic {P : Program} {Q : Exit → Act → World → Prop} {l : List Oper} {a : Act} {w : World} {o : Oper} {i : Nat} {K : Act → World → Prop} (f : FuncId) (args : Array Value) (hi : RD.nthO l i = some o) (hw : Region.wanted o (yielded l.toArray a.tmps) = true) (hx : (execOp a.eval o).run P w = .ok (.enter f args) w) (h : Calls P f args w fun e w' => ∃ c, e = .panicked c ∧ Q (.panic c) a w') : wpOp P l.toArray Q i K a w :=
  RD.h_op hi (by
    rw [if_pos hw]
    unfold Oper.wp
    rw [hx]
    refine h.mono ?_
    rintro e w' ⟨c, rfl, h⟩
    exact h)
theorem read_down (N : Nat) (w : World) (g : Nat) (D : Dk) (F : Nat → Prop) (i : Int) (t : Kn N w g D F) (hoff : D.off = true) : Calls Tryz.prog 81 #[.pointer (some ⟨g, 0, none⟩), .int .i64 i] w fun e w' =>
    e = .returned (.tuple #[.slice none 0 0, .int .i64 6]) ∧ Below w.heap.size w w' := by
  have hmf : ∀ (fn : Fn) (first cap : Array Value) (w : World), (Instr.makeFunc fn first cap).run Tryz.prog w = .ok (.func fn first cap) w := fun _ _ _ _ => rfl
  obtain ⟨ok, V, hb, r⟩ := t
  rw [hoff] at hb
  have C1 := Lib.hid (fun X h => power_no g V D.sure.length D.cnt D.stop X h)
  have HB := Lib.hid hb
  clear r hb ok
  go_enter_defers Tryz.func81, Tryz.ntmps81
  go_wp2_with (go_at_call 89; ((with_reducible refine (C1.out _ (HB.out.alloc _)).mono ?_); rintro e w1 ⟨rfl, rfl⟩))
  refine dread_bad rfl (y := 0) (Bk.newAt _ _ _ w.heap.size rfl) rfl fun w1 hb => ?_
  exact ⟨rfl, (((Below.refl _ _).alloc (Nat.le_refl _) _).trans (hb.mono (by simp))).setCell (Nat.le_refl _) _⟩
set_option maxHeartbeats 4000000 in
theorem read_off (N : Nat) (w : World) (s gd : Nat) (D : Dk) (Z : Sl) (F S : Nat → Prop) (tk : Kn N w gd D F) (ts : Sz N w s gd Z S) (zo : Z.Ok D) (ho : D.off = true) (a : Nat) (ha : a < 2) :
    Calls Tryz.prog 50 #[.pointer (some ⟨s, 0, none⟩), .int .i64 (a : Int)] w fun e w' => e = .panicked [LV.wrg 6] ∧ Below w.heap.size w w' := by
  obtain ⟨i0, hi, hz0, hz1, hz2⟩ := info_parts Tryz.infoU8
  obtain ⟨n, hn⟩ : ∃ n, n = Z.n := ⟨_, rfl⟩
  obtain ⟨f, hf⟩ : ∃ f, f = Z.first := ⟨_, rfl⟩
  have h8 := zo.most
  have h1 := zo.one
  have hfit := zo.fits
  have hmost := tk.ok.most
  rw [← hn] at h8 h1 hfit
  rw [← hf] at hfit
  obtain ⟨at0, hat⟩ : ∃ at0, at0 = f + a * n + 0 := ⟨_, rfl⟩
  have SEC := Lib.hid (show ∀ X, Below w.heap.size w X → Calls Tryz.prog 82 #[.pointer (some ⟨s, 0, none⟩), .int .i64 (a : Int), .int .i64 0] X fun e w' => e = .returned (.int .i64 (at0 : Int)) ∧ Below X.heap.size X w' from fun X hX => by
    rw [hat]
    exact sector_any N X s gd Z S (ts.grow hX) f n a 0 hf.symm hn.symm (by omega) ha h1 h8)
  have RDD := Lib.hid (show ∀ X, Below w.heap.size w X → Calls Tryz.prog 81 #[.pointer (some ⟨gd, 0, none⟩), .int .i64 (at0 : Int)] X fun e w' => e = .returned (.tuple #[.slice none 0 0, .int .i64 6]) ∧ Below X.heap.size X w' from fun X hX => read_down N X gd D F _ (tk.below hX) ho)
  have MN := Lib.hid (show ∀ X, Calls Tryz.prog 80 #[.slice none 0 0, .int .i64 6] X fun e w' => e = .panicked [LV.wrg 6] ∧ X = w' from fun X => must_no _ 6 (by decide) X)
  have AR := Lib.hid (show ∀ X, Calls Tryz.prog 79 #[.int .i64 (n : Int)] X fun e w' => e = .returned (.int .i64 ((64 * n : Nat) : Int)) ∧ X = w' from fun X => area_any n (by omega) X)
  have CS := Lib.hid (show ∀ X, Below w.heap.size w X → X.cell? ⟨s, 0, none⟩ = some (.pointer (some ⟨gd, 0, none⟩)) ∧ X.cell? ⟨s, 2, none⟩ = some (.int .i64 (n : Int)) from fun X hX => by
    have h := (ts.grow hX).cells
    rw [hn]
    exact ⟨h.1, h.2.2.1⟩)
  obtain ⟨T, hT⟩ : ∃ T, T = 64 * n := ⟨_, rfl⟩
  rw [← hT] at AR
  have hT' : T ≤ 140737488355328 := by omega
  have t0 : (0 : Int) < (n : Int) := by omega
  obtain ⟨c0, c2⟩ := CS.out w (Below.refl _ _)
  clear hn hf h8 h1 hfit hmost hat tk ts zo ho ha hT
  go_enter Tryz.func50, Tryz.ntmps50
  go_wp2_with (first
    | (go_at_call 79; ((with_reducible refine (AR.out _).mono ?_); rintro e w1 ⟨rfl, rfl⟩))
    | (at_make; refine wpList_make_own _ rfl _ _ 23 rfl w.heap.size 5 i0 (.int .u8 0) 1 Tryz.underlying23 hi hz0 hz1 _ _ _ T rfl rfl (by omega) (by rw [hz2]; omega) (by unfold maxLen; omega) (Nat.le_refl _) ?_))
  intro w1 own1 grow1
  have B1 := Lib.hid (show Below w.heap.size w w1 from (Below.refl _ _).grown grow1 (Nat.le_refl _) (fun k h => by cases h))
  obtain ⟨d0, d2⟩ := CS.out w1 B1.out
  clear grow1 own1 c0 c2
  go_wp2_with (fail)
  go_loopw [5, 17] (fun o i wr => o = .slice (some ⟨w.heap.size, 0, none⟩) 0 T ∧ i = .int .i64 0 ∧ wr = w1) (fun _ _ _ => 0)
  case atStart => exact ⟨rfl, rfl, rfl⟩
  case round =>
    obtain ⟨rfl, rfl, hwr⟩ := hrel
    subst hwr
    have GD := Lib.hid (show Below w.heap.size w wr.drew from B1.out.trans ((Below.refl wr.heap.size wr).drew.mono B1.out.size))
    clear d0 d2
    go_upto_region 5 with (fail)
    refine wp_region_held_drew (S := fun X => Below w.heap.size w X) (by kernel_rfl) GD.out (fun sx => ?_)
    have SX := Lib.hid sx
    clear sx
    refine RD.h_take 0 (.slice (some ⟨w.heap.size, 0, none⟩) 0 T) rfl (by kernel_rfl) (by kernel_rfl) (by kernel_rfl) (fun _ _ _ h => h) (by rfl) SX.out (fun X hX => ?_) ?_
    · go_simp
    simp only [Act.put, List.setIfInBounds_toArray, List.set_cons_zero, List.set_cons_succ]
    refine RD.h_take 1 (.pointer (some ⟨s, 0, none⟩)) rfl (by kernel_rfl) (by kernel_rfl) (by kernel_rfl) (fun _ _ _ h => h) (by rfl) SX.out (fun X hX => ?_) ?_
    · go_simp
    simp only [Act.put, List.setIfInBounds_toArray, List.set_cons_zero, List.set_cons_succ]
    refine RD.h_take 2 (.pointer (some ⟨s, 0, none⟩)) rfl (by kernel_rfl) (by kernel_rfl) (by kernel_rfl) (fun _ _ _ h => h) (by rfl) SX.out (fun X hX => ?_) ?_
    · go_simp
    simp only [Act.put, List.setIfInBounds_toArray, List.set_cons_zero, List.set_cons_succ]
    refine RD.h_take 3 (.pointer (some ⟨s, 0, none⟩)) rfl (by kernel_rfl) (by kernel_rfl) (by kernel_rfl) (fun _ _ _ h => h) (by rfl) SX.out (fun X hX => ?_) ?_
    · have f0 := (CS.out X hX).1; go_simp
    simp only [Act.put, List.setIfInBounds_toArray, List.set_cons_zero, List.set_cons_succ]
    refine RD.h_take 4 (.pointer (some ⟨gd, 0, none⟩)) rfl (by kernel_rfl) (by kernel_rfl) (by kernel_rfl) (fun _ _ _ h => h) (by rfl) SX.out (fun X hX => ?_) ?_
    · have f0 := (CS.out X hX).1; go_simp
    simp only [Act.put, List.setIfInBounds_toArray, List.set_cons_zero, List.set_cons_succ]
    refine RD.h_take 5 (.pointer (some ⟨s, 0, none⟩)) rfl (by kernel_rfl) (by kernel_rfl) (by kernel_rfl) (fun _ _ _ h => h) (by rfl) SX.out (fun X hX => ?_) ?_
    · go_simp
    simp only [Act.put, List.setIfInBounds_toArray, List.set_cons_zero, List.set_cons_succ]
    refine RD.h_take 6 (.int .i64 (a : Int)) rfl (by kernel_rfl) (by kernel_rfl) (by kernel_rfl) (fun _ _ _ h => h) (by rfl) SX.out (fun X hX => ?_) ?_
    · go_simp
    simp only [Act.put, List.setIfInBounds_toArray, List.set_cons_zero, List.set_cons_succ]
    refine RD.h_take 7 (.int .i64 0) rfl (by kernel_rfl) (by kernel_rfl) (by kernel_rfl) (fun _ _ _ h => h) (by rfl) SX.out (fun X hX => ?_) ?_
    · go_simp
    simp only [Act.put, List.setIfInBounds_toArray, List.set_cons_zero, List.set_cons_succ]
    refine RD.h_any [8] (by kernel_rfl) (by simp) (RD.one_of ?_)
    refine RD.h_call 82 #[.pointer (some ⟨s, 0, none⟩), .int .i64 (a : Int), .int .i64 0] rfl (by rfl) (by go_simp) ((SEC.out _ SX.out).mono ?_)
    rintro e X1 ⟨rfl, b1⟩
    have S1 := Lib.hid (SX.out.trans (b1.mono SX.out.size))
    clear b1
    refine ⟨_, rfl, S1.out, ?_⟩
    simp only [Act.put, List.setIfInBounds_toArray, List.set_cons_zero, List.set_cons_succ]
    refine RD.h_any [9] (by kernel_rfl) (by simp) (RD.one_of ?_)
    refine RD.h_call 81 #[.pointer (some ⟨gd, 0, none⟩), .int .i64 (at0 : Int)] rfl (by rfl) (by go_simp) ((RDD.out _ S1.out).mono ?_)
    rintro e X1 ⟨rfl, b1⟩
    have S2 := Lib.hid (S1.out.trans (b1.mono S1.out.size))
    clear b1
    refine ⟨_, rfl, S2.out, ?_⟩
    simp only [Act.put, List.setIfInBounds_toArray, List.set_cons_zero, List.set_cons_succ]
    refine RD.h_take 10 (.slice none 0 0) rfl (by kernel_rfl) (by kernel_rfl) (by kernel_rfl) (fun _ _ _ h => h) (by rfl) S2.out (fun X hX => ?_) ?_
    · go_simp
    simp only [Act.put, List.setIfInBounds_toArray, List.set_cons_zero, List.set_cons_succ]
    refine RD.h_take 11 (.int .i64 6) rfl (by kernel_rfl) (by kernel_rfl) (by kernel_rfl) (fun _ _ _ h => h) (by rfl) S2.out (fun X hX => ?_) ?_
    · go_simp
    simp only [Act.put, List.setIfInBounds_toArray, List.set_cons_zero, List.set_cons_succ]
    refine RD.h_any [12] (by kernel_rfl) (by simp) (RD.one_of ?_)
    refine h_panic 80 #[.slice none 0 0, .int .i64 6] rfl (by rfl) (by go_simp) ((MN.out _).mono ?_)
    rintro e X2 ⟨rfl, rfl⟩
    exact ⟨_, rfl, rfl, rfl, S2.out⟩
end Go.Proofs.YtnoflgkjdibblaaGreatDoor.S20

/-
  What the landed slots' Now does. No statement is proved here.
-/
namespace Go.Proofs.YtnoflgkjdibblaaGreatDoor.S20
set_option linter.unusedSimpArgs false
set_option linter.unusedVariables false
set_option maxRecDepth 8192
open Go.RowKit S19

/-- What counts, in new memory. -/
def GivesN (b : List UInt8) (num : Nat) (w : World) (e : Ending) (w' : World) : Prop :=
  ∃ A c, e = .returned (.tuple #[.slice A b.length c, .int .u64 (num : Int)]) ∧ Rd w' A b.length c b ∧ (∀ a, A = some a → w.heap.size ≤ a.block) ∧ Below w.heap.size w w'
set_option maxHeartbeats 4000000 in
theorem snow_any (N : Nat) (w : World) (s g : Nat) (Z : Sl) (S : Nat → Prop) (t : Sz N w s g Z S) : Calls Tryz.prog 54 #[.pointer (some ⟨s, 0, none⟩)] w (GivesN Z.b Z.num w) := by
  obtain ⟨A, c, hb, hr, hp⟩ := t.ex
  obtain ⟨b, hbb⟩ : ∃ b, b = Z.b := ⟨_, rfl⟩
  obtain ⟨nb, hnb⟩ : ∃ nb, nb = b.length := ⟨_, rfl⟩
  obtain ⟨num, hnum⟩ : ∃ num, num = Z.num := ⟨_, rfl⟩
  have hf := t.few
  rw [← hbb] at hr hf
  rw [← hnb] at hr hf
  rw [← hbb, ← hnum]
  have HF := Lib.hid hf
  have HR := Lib.hid hr
  have HB := Lib.hid hnb
  have KX := Lib.hid (show ∀ X, Below w.heap.size w X → X.cell? ⟨s, 3, none⟩ = some (.int .u64 (num : Int)) ∧ X.cell? ⟨s, 4, none⟩ = some (.slice A nb c) from fun X hX => by
    have h := hb.below hX hb.lt
    rw [hnum, hnb, hbb]
    exact ⟨h.cell 3, h.cell 4⟩)
  have GD := Lib.hid (Below.refl w.heap.size w).drew
  clear t hb hr hp hbb hnb hnum hf
  go_enter Tryz.func54, Tryz.ntmps54
  go_upto_region 1 with (fail)
  (go_region_held3 (fun X => X.cell? ⟨s, 3, none⟩ = some (.int .u64 (num : Int)) ∧ X.cell? ⟨s, 4, none⟩ = some (.slice A nb c)) (first
    | exact KX.out _ B3.out
    | exact KX.out _ (GD.out.alloc GD.out.size _)
    | exact KX.out _ GD.out) (first
    | (go_at_call 32; ((refine (cat_any _ 1 1 [b] _ (RdBs.built1To w.drew _ rfl _ (HR.out.below GD.out)) (by have := HF.out; rw [HB.out] at this; simp; omega)).mono ?_); intro e w3 h3; rw [show [b].flatten = b by simp] at h3; obtain ⟨A3, n3, c3, rfl, o3, b3⟩ := New.from (GD.out.alloc GD.out.size _) h3; have O3 := Lib.hid o3; have B3 := Lib.hid b3; clear o3 b3 h3))
    | fail))
  have hn3 : n3 = b.length := (own_len O3.out).symm
  subst hn3
  go_wp2_with (fail)
  go_ret2
  exact ⟨A3, c3, rfl, Rd.own O3.out, fun a ha => (O3.out.lt a.block (by rw [ha]; rfl)).1, B3.out⟩
end Go.Proofs.YtnoflgkjdibblaaGreatDoor.S20

/-
  Is one of two areas blank? The library's ContainsFunc, at the landed blank. No statement is proved here.
-/
namespace Go.Proofs.YtnoflgkjdibblaaGreatDoor.S20
set_option linter.unusedSimpArgs false
set_option linter.unusedVariables false
set_option maxRecDepth 8192
open Go.RowKit S19

/-- Two rows that lie in an array. -/
def Two2 (w : World) (gA m : Nat) (R : Nat → List UInt8) : Prop := ∀ i, i < 2 → ∃ A c, w.cell? ⟨gA, i, none⟩ = some (.slice A m c) ∧ Rd w A m c (R i)
theorem Two2.below {w w' : World} {gA m : Nat} {R : Nat → List UInt8} (h : Two2 w gA m R) (hg : gA < w.heap.size) (hb : Below w.heap.size w w') : Two2 w' gA m R := fun i hi => by
  obtain ⟨A, c, h1, h2⟩ := h i hi
  exact ⟨A, c, (hb.cell (p := ⟨gA, i, none⟩) hg).trans h1, h2.below hb⟩
def blankR (m : Nat) (R : Nat → List UInt8) (i : Nat) : Bool := sameB (R i) (List.replicate m 0)
set_option maxHeartbeats 4000000 in
theorem index_blank (w : World) (gA m : Nat) (R : Nat → List UInt8) (h : Two2 w gA m R) (hg : gA < w.heap.size) (hm : m ≤ 65536) :
    Calls Tryz.prog 84 #[.slice (some ⟨gA, 0, none⟩) 2 2, .func (.func 53) #[] #[]] w fun e w' => ∃ i : Int, e = .returned (.int .i64 i) ∧ decide (0 ≤ i) = (blankR m R 0 || blankR m R 1) ∧ Below w.heap.size w w' := by
  have HH := Lib.hid (fun X hX => h.below (w' := X) hg hX)
  clear h
  go_enter Tryz.func84, Tryz.ntmps84
  go_wp2_with (fail)
  go_loopw [8] (fun i wr => ∃ k : Nat, k ≤ 2 ∧ i = .int .i64 (k : Int) ∧ Below w.heap.size w wr ∧ ∀ j, j < k → blankR m R j = false) (fun i _ => 2 - (intOf i).toNat)
  case atStart => exact ⟨0, by omega, rfl, Below.refl _ _, fun j hj => absurd hj (by omega)⟩
  case round =>
    obtain ⟨k, hk, rfl, hb, hno⟩ := hrel
    by_cases hlt : k < 2
    · have t0 : (k : Int) < 2 := by omega
      obtain ⟨A, c, hc, hr⟩ := HH.out wr hb k hlt
      have BL := Lib.hid (blank_any A m c (R k) wr hr hm)
      have BB := Lib.hid hb
      have NO := Lib.hid hno
      have HK := Lib.hid hlt
      have HBL := Lib.hid (show sameB (R k) (List.replicate m 0) = blankR m R k from rfl)
      rw [HBL.out] at BL
      clear hr hb hno hlt
      cases hq : blankR m R k with
      | true =>
        rw [hq] at BL
        have Q := Lib.hid hq
        clear hq
        go_wp2_with (go_at_call 53; ((with_reducible refine BL.out.mono ?_); rintro e w3 ⟨rfl, b3⟩; have B3 := Lib.hid (BB.out.trans (b3.mono BB.out.size)); clear b3))
        go_ret
        refine ⟨(k : Int), rfl, ?_, B3.out⟩
        rw [decide_eq_true (Int.natCast_nonneg k)]
        have hk2 : k = 0 ∨ k = 1 := by have := HK.out; omega
        rcases hk2 with rfl | rfl
        · rw [Q.out]; rfl
        · rw [Q.out, Bool.or_true]
      | false =>
        rw [hq] at BL
        have Q := Lib.hid hq
        clear hq
        go_wp2_with (go_at_call 53; ((with_reducible refine BL.out.mono ?_); rintro e w3 ⟨rfl, b3⟩; have B3 := Lib.hid (BB.out.trans (b3.mono BB.out.size)); clear b3))
        go_roundw
        case rel =>
          refine ⟨k + 1, HK.out, by go_num, B3.out, fun j hj => ?_⟩
          rcases Nat.lt_or_ge j k with h | h
          · exact NO.out j h
          · obtain rfl : j = k := by omega
            exact Q.out
        case measure => have := HK.out; simp [intOf]; omega
    · obtain rfl : k = 2 := by omega
      have t0 : ¬ ((2 : Nat) : Int) < 2 := by omega
      go_wp2_with (fail)
      go_ret
      refine ⟨-1, rfl, ?_, hb⟩
      first
        | decide
        | (rw [hno 0 (by omega), hno 1 (by omega)]; rfl)
theorem contains_blank (w : World) (gA m : Nat) (R : Nat → List UInt8) (h : Two2 w gA m R) (hg : gA < w.heap.size) (hm : m ≤ 65536) :
    Calls Tryz.prog 52 #[.slice (some ⟨gA, 0, none⟩) 2 2, .func (.func 53) #[] #[]] w fun e w' => e = .returned (.bool (blankR m R 0 || blankR m R 1)) ∧ Below w.heap.size w w' := by
  have IX := Lib.hid (index_blank w gA m R h hg hm)
  clear h
  go_enter Tryz.func52, Tryz.ntmps52
  go_wp2_with (go_at_call 84; ((with_reducible refine IX.out.mono ?_); rintro e w3 ⟨i, rfl, h2, b3⟩; have H2 := Lib.hid h2; have B3 := Lib.hid b3; clear h2 b3))
  go_ret
  exact ⟨by rw [← H2.out]; rfl, B3.out⟩
end Go.Proofs.YtnoflgkjdibblaaGreatDoor.S20

/-
  What the landed slots' Load does. No statement is proved here.
-/
namespace Go.Proofs.YtnoflgkjdibblaaGreatDoor.S20
set_option linter.unusedSimpArgs false
set_option linter.unusedVariables false
set_option maxRecDepth 8192
open Go.RowKit S19

/-- What a call of Load comes to. -/
def PostLd (N : Nat) (s g : Nat) (D : Dk) (Z : Sl) (F S : Nat → Prop) (w : World) (e : Ending) (w' : World) : Prop :=
  ∃ A c F' S', e = .returned (.tuple #[.slice A (Z.loadB D).length c, .int .u64 (Z.loadN D : Int), .int .i64 (Z.loadC D : Int)]) ∧ Rd w' A (Z.loadB D).length c (Z.loadB D) ∧ (∀ a, 0 < (Z.loadB D).length → A = some a → w.heap.size ≤ a.block ∧ ¬ Or2 F' S' a.block) ∧ Kn N w' g D F' ∧ Sz N w' s g (Z.load D) S' ∧ (∀ b, Or2 F' S' b → Or2 F S b ∨ w.heap.size ≤ b) ∧ (∀ b, F' b → ¬ S' b) ∧ Mv N (Or2 F S) w w'
theorem load_fin {N : Nat} {w w7 X : World} {s g g3 : Nat} {D : Dk} {Z : Sl} {F S S' : Nat → Prop} (hN : N ≤ w.heap.size) (hg3 : w.heap.size = g3) (k7 : Kn N w7 g D F) (s7 : Sz N w7 s g (Z.load D) S') (m7 : Mv N S w w7) (h3 : g3 < w7.heap.size)
    (hF : ∀ b, F b → b < g3) (hS : ∀ b, S' b → S b ∨ g3 < b) (hSl : ∀ b, S b → b < g3) (hd : ∀ b, F b → ¬ S b) (hX : Below w7.heap.size w7 X) (u : Value) {A : Option Addr} {n c num cd : Nat} {b : List UInt8} (hR : Rd X A n c b) (hA : ∀ a, 0 < n → A = some a → w7.heap.size ≤ a.block) (e1 : Z.loadB D = b) (e2 : Z.loadN D = num) (e3 : Z.loadC D = cd) :
    PostLd N s g D Z F S w (.returned (.tuple #[.slice A n c, .int .u64 (num : Int), .int .i64 (cd : Int)])) (X.setCell ⟨g3, 0, none⟩ u) := by
  have nS : ¬ S' g3 := fun h => (hS _ h).elim (fun h => by have := hSl _ h; omega) (by omega)
  have nF : ¬ F g3 := fun h => by have := hF _ h; omega
  have hn := hR.len
  subst hn
  unfold PostLd
  rw [e1, e2, e3]
  have hsz := m7.size
  refine ⟨A, c, F, S', rfl, ?_, fun a h1 h2 => ⟨by have := hA a h1 h2; omega, fun h => ?_⟩, ?_, ?_, ?_, fun b h1 h2 => ?_, ?_⟩
  · exact rd_farB hR (fun a h1 h2 e => by have := hA a h1 h2; omega) 0 u
  · have q := hA a h1 h2
    rcases h with h | h
    · have := hF _ h; omega
    · have := (s7.lt _ h).2; omega
  · exact (k7.below hX).keep (by simp) fun b hb _ => Below.heap_setCell _ ⟨g3, 0, none⟩ _ b fun e => nF (by rw [e] at hb; exact hb)
  · exact (s7.grow hX).keep (by simp) fun b hb _ => Below.heap_setCell _ ⟨g3, 0, none⟩ _ b fun e => nS (by rw [e] at hb; exact hb)
  · rintro b (h | h)
    · exact .inl (.inl h)
    · exact (hS b h).elim (fun h => .inl (.inr h)) (fun h => .inr (by omega))
  · rcases hS b h2 with h | h
    · exact hd b h1 h
    · have := hF b h1; omega
  · have m8 : Mv N S w7 X := Mv.of (by omega) hX
    have m9 : Mv N (fun b => b = g3) X (X.setCell ⟨g3, 0, none⟩ u) := ⟨(Below.refl _ _).setCell (show N ≤ (⟨g3, 0, none⟩ : Addr).block from by show N ≤ g3; omega) _, fun b _ h => Below.heap_setCell _ ⟨g3, 0, none⟩ _ b h⟩
    exact (((m7.trans m8 fun b h => .inl h).trans m9 fun b h => .inr (by omega)).mono fun b h => .inr h)
set_option maxHeartbeats 4000000 in
theorem load_off (N : Nat) (w : World) (s g : Nat) (D : Dk) (Z : Sl) (F S : Nat → Prop) (tk : Kn N w g D F) (ts : Sz N w s g Z S) (hFS : ∀ b, F b → ¬ S b) (zo : Z.Ok D) (ho : D.off = true) :
    Calls Tryz.prog 34 #[.pointer (some ⟨s, 0, none⟩)] w (PostLd N s g D Z F S w) := by
  have hmf : ∀ (fn : Fn) (first cap : Array Value) (w : World), (Instr.makeFunc fn first cap).run Tryz.prog w = .ok (.func fn first cap) w := fun _ _ _ _ => rfl
  have e1 : Z.loadC D = 6 := by rw [Sl.loadC, if_pos ho]
  have e2 : Z.load D = Z := by rw [Sl.load, if_pos ho]
  have e3 : Z.loadB D = [] := by rw [Sl.loadB, e1, if_neg (by omega)]
  have e4 : Z.loadN D = 0 := by rw [Sl.loadN, e1, if_neg (by omega)]
  obtain ⟨g3, hg3⟩ : ∃ g3, w.heap.size = g3 := ⟨_, rfl⟩
  obtain ⟨w0, hw0⟩ : ∃ w0, w.alloc (.cells #[.int .i64 0] 29) = w0 := ⟨_, rfl⟩
  obtain ⟨gA, hgA⟩ : ∃ gA, w0.heap.size = gA := ⟨_, rfl⟩
  obtain ⟨w1, hw1⟩ : ∃ w1, w0.alloc (.cells #[.slice none 0 0, .slice none 0 0] 115) = w1 := ⟨_, rfl⟩
  have B0 := Lib.hid (show Below w.heap.size w w0 by rw [← hw0]; exact (Below.refl _ _).alloc (Nat.le_refl _) _)
  have B1 := Lib.hid (show Below w.heap.size w w1 by rw [← hw1]; exact B0.out.alloc B0.out.size _)
  have K3 := Lib.hid (show Bk w1 g3 29 #[.int .i64 0] by rw [← hw1, ← hw0]; exact (Bk.newAt _ _ _ _ hg3).alloc _)
  have RD_ := Lib.hid (show ∀ X, Below w.heap.size w X → Calls Tryz.prog 50 #[.pointer (some ⟨s, 0, none⟩), .int .i64 0] X fun e w' => e = .panicked [LV.wrg 6] ∧ Below X.heap.size X w' from fun X hX => read_off N X s g D Z F S (tk.below hX) (ts.grow hX) zo ho 0 (by omega))
  have FIN := Lib.hid (show ∀ X, Below w1.heap.size w1 X → PostLd N s g D Z F S w (.returned (.tuple #[.slice none 0 0, .int .u64 0, .int .i64 6])) (X.setCell ⟨g3, 0, none⟩ (.int .i64 6)) from fun X hX =>
    load_fin (num := 0) (cd := 6) (S' := S) (w7 := w1) (by have := ts.sz; omega) hg3 (tk.below B1.out) (by rw [e2]; exact ts.grow B1.out) (Mv.of (by have := ts.sz; omega) B1.out) K3.out.lt (fun b h => by have := (tk.lt b h).2; omega) (fun b h => .inl h) (fun b h => by have := (ts.lt b h).2; omega) hFS hX _ (Rd.nil_ _) (fun a h => absurd h (by omega)) e3 e4 e1)
  have t0 : (0 : Int) < 2 := by omega
  clear e1 e2 e3 e4 tk ts hFS zo ho
  go_enter_defers Tryz.func34, Tryz.ntmps34
  go_wp2_with (fail)
  go_loopw [9] (fun i wr => i = .int .i64 0 ∧ wr = w1) (fun _ _ => 0)
  case atStart => exact ⟨rfl, rfl⟩
  case round =>
    obtain ⟨rfl, hwr⟩ := hrel
    subst hwr
    go_wp2_with (go_at_call 50; ((with_reducible refine (RD_.out _ B1.out).mono ?_); rintro e w5 ⟨rfl, b5⟩; have B5 := Lib.hid b5; clear b5))
    refine sload_bad rfl rfl (y := 0) (K3.out.below B5.out K3.out.lt) rfl fun w9 hb => ?_
    exact FIN.out w9 (B5.out.trans (hb.mono B5.out.size))
end Go.Proofs.YtnoflgkjdibblaaGreatDoor.S20

/-
  What the landed slots' Load does while the disk is up. No statement is proved here.
-/
namespace Go.Proofs.YtnoflgkjdibblaaGreatDoor.S20
set_option linter.unusedSimpArgs false
set_option linter.unusedVariables false
set_option maxRecDepth 8192
open Go.RowKit S19

/-- Where Load's two rows lie, while they are read. -/
structure Lr (w : World) (g3 gA m : Nat) (Z : Sl) (D : Dk) (a : Nat) (wr : World) : Prop where
  bel : Below w.heap.size w wr
  k3 : Bk wr g3 29 #[.int .i64 0]
  cs : ∃ cs : Array Value, Bk wr gA 115 cs ∧ cs.size = 2 ∧ (∀ i, i < a → ∃ A c, cs[i]? = some (.slice A m c) ∧ Rd wr A m c (Z.area D i) ∧ ∀ x, A = some x → gA < x.block ∧ x.block < wr.heap.size) ∧ (∀ i, a ≤ i → i < 2 → cs[i]? = some (.slice none 0 0))
/-- One row more has been read. -/
theorem Lr.next {w : World} {g3 gA m : Nat} {Z : Sl} {D : Dk} {a : Nat} {wr w5 : World} {A5 : Option Addr} {c5 : Nat} (h : Lr w g3 gA m Z D a wr) (ha : a < 2) (hA : w.heap.size ≤ gA) (h3 : g3 ≠ gA) (hb : Below wr.heap.size wr w5) (hg : gA < wr.heap.size) (ho : w5.ownsRow wr.heap.size 5 1 (.slice A5 m c5) m (bv (Z.area D a))) :
    Lr w g3 gA m Z D (a + 1) (w5.setCell ⟨gA, a, none⟩ (.slice A5 m c5)) := by
  obtain ⟨cs, h1, h2, h4, h5⟩ := h.cs
  have hsz : (w5.setCell ⟨gA, a, none⟩ (.slice A5 m c5)).heap.size = w5.heap.size := by simp
  refine ⟨(h.bel.trans (hb.mono h.bel.size)).setCell (p := ⟨gA, a, none⟩) hA _, (h.k3.below hb h.k3.lt).far h3 _, _, (h1.below hb h1.lt).put a _, by rw [Array.size_setIfInBounds]; exact h2, fun i hi => ?_, fun i hi hi2 => ?_⟩
  · by_cases e : i = a
    · subst e
      refine ⟨A5, c5, Array.getElem?_setIfInBounds_self_of_lt (by rw [h2]; exact ha), ?_, fun x hx => ?_⟩
      · exact rd_farB (Rd.own ho) (fun x _ hx e => by have := (ho.lt x.block (by rw [hx]; rfl)).1; omega) _ _
      · have := (ho.lt x.block (by rw [hx]; rfl)).1
        have h9 := (ho.lt x.block (by rw [hx]; rfl)).2
        rw [hsz]
        omega
    · obtain ⟨A, c, q1, q2, q3⟩ := h4 i (by omega)
      refine ⟨A, c, by rw [Array.getElem?_setIfInBounds_ne (Ne.symm e)]; exact q1, rd_farB (q2.below hb) (fun x _ hx e => by have := q3 x hx; omega) _ _, fun x hx => ⟨(q3 x hx).1, ?_⟩⟩
      have := (q3 x hx).2
      have := hb.size
      rw [hsz]
      omega
  · rw [Array.getElem?_setIfInBounds_ne (by omega)]
    exact h5 i (by omega) hi2
theorem Lr.two {w : World} {g3 gA m : Nat} {Z : Sl} {D : Dk} {wr : World} (h : Lr w g3 gA m Z D 2 wr) : ∃ A0 c0 A1 c1, Bk wr gA 115 #[.slice A0 m c0, .slice A1 m c1] ∧ Rd wr A0 m c0 (Z.area D 0) ∧ Rd wr A1 m c1 (Z.area D 1) ∧ (∀ x, A0 = some x → gA < x.block ∧ x.block < wr.heap.size) ∧ (∀ x, A1 = some x → gA < x.block ∧ x.block < wr.heap.size) := by
  obtain ⟨cs, h1, h2, h4, _⟩ := h.cs
  obtain ⟨A0, c0, q1, q2, q3⟩ := h4 0 (by omega)
  obtain ⟨A1, c1, r1, r2, r3⟩ := h4 1 (by omega)
  refine ⟨A0, c0, A1, c1, ?_, q2, r2, q3, r3⟩
  have e : cs = #[.slice A0 m c0, .slice A1 m c1] := by
    apply Array.ext
    · simpa using h2
    · intro i h5 h6
      have : i = 0 ∨ i = 1 := by omega
      rcases this with rfl | rfl
      · have := Array.getElem?_eq_some_iff.1 q1
        obtain ⟨_, e⟩ := this
        simpa using e
      · have := Array.getElem?_eq_some_iff.1 r1
        obtain ⟨_, e⟩ := this
        simpa using e
  rw [← e]
  exact h1
theorem goes_spare (Z : Sl) (D : Dk) (ho : D.off = false) : (Z.load D).goes = spareOf (Z.seen D).1 ∧ (Z.load D).num = (Z.seen D).2.1 ∧ (Z.load D).b = (Z.seen D).2.2 ∧ (Z.load D).first = Z.first ∧ (Z.load D).n = Z.n := by
  have e : Z.load D = { Z with at_ := (Z.seen D).1, num := (Z.seen D).2.1, b := (Z.seen D).2.2 } := by rw [Sl.load, if_neg (by rw [ho]; simp)]
  rw [e]
  exact ⟨rfl, rfl, rfl, rfl, rfl⟩
theorem seen_few (Z : Sl) (D : Dk) (h : 1 ≤ Z.n ∧ Z.n ≤ 8) : (Z.seen D).2.2.length ≤ 1000000 := by
  have hw : ∀ i, (whole (Z.area D i) Z.n).2.length ≤ 1000 := fun i => by
    unfold whole
    split
    · rename_i hw
      have h1 := hw.2.1
      rw [room_nat h.1 h.2] at h1
      show (dataOf _).length ≤ _
      unfold dataOf
      rw [List.length_take]
      omega
    · simp
  have hl : ∀ i z, z.2.2.length ≤ 1000000 → (Z.look D i z).2.2.length ≤ 1000000 := fun i z hz => by
    unfold Sl.look
    split
    · have := hw i
      show (whole (Z.area D i) Z.n).2.length ≤ _
      omega
    · exact hz
  exact hl 1 _ (hl 0 _ (by simp))
/-- The slots, once what counts is another record. -/
theorem Sz.store {N : Nat} {w : World} {s g : Nat} {Z Z' : Sl} {S : Nat → Prop} {A : Option Addr} {n c num sp : Nat} {b : List UInt8} (r : Sz N w s g Z S) (hR : Rd w A n c b) (hA : ∀ a, 0 < n → A = some a → N ≤ a.block ∧ a.block ≠ s) (e1 : Z'.first = Z.first) (e2 : Z'.n = Z.n) (e3 : Z'.num = num) (e4 : Z'.b = b) (e5 : Z'.goes = sp) (hf : b.length ≤ 1000000) :
    Sz N (((w.setCell ⟨s, 3, none⟩ (.int .u64 (num : Int))).setCell ⟨s, 4, none⟩ (.slice A n c)).setCell ⟨s, 5, none⟩ (.int .i64 (sp : Int))) s g Z' (fun x => S x ∨ ∃ a, 0 < n ∧ A = some a ∧ a.block = x) := by
  obtain ⟨A0, c0, h1, _, _⟩ := r.ex
  have hn := hR.len
  subst hn
  refine ⟨⟨A, c, ?_, ?_, fun a h2 h3 => ?_⟩, .inl r.at_, ?_, by rw [e4]; exact hf⟩
  · have h := ((h1.put 3 (.int .u64 (num : Int))).put 4 (.slice A b.length c)).put 5 (.int .i64 (sp : Int))
    unfold skA
    rw [e1, e2, e3, e4, e5]
    exact h
  · rw [e4]
    exact rd_farB (rd_farB (rd_farB hR (fun a h2 h3 => (hA a h2 h3).2) _ _) (fun a h2 h3 => (hA a h2 h3).2) _ _) (fun a h2 h3 => (hA a h2 h3).2) _ _
  · rw [e4] at h2
    exact ⟨.inr ⟨a, h2, h3, rfl⟩, (hA a h2 h3).2⟩
  · rintro x (h | ⟨a, h2, h3, rfl⟩)
    · exact ⟨(r.lt x h).1, by simpa using (r.lt x h).2⟩
    · refine ⟨(hA a h2 h3).1, ?_⟩
      obtain ⟨bb, off, e, hb, _⟩ := hR.at_ h2
      rw [h3] at e
      injection e with e
      subst e
      simpa using hb
theorem Sz.stored {N : Nat} {w : World} {s g : Nat} {Z : Sl} {S : Nat → Prop} (r : Sz N w s g Z S) (u v x : Value) : Mv N S w (((w.setCell ⟨s, 3, none⟩ u).setCell ⟨s, 4, none⟩ v).setCell ⟨s, 5, none⟩ x) :=
  ⟨(((Below.refl _ _).setCell (show N ≤ (⟨s, 3, none⟩ : Addr).block from r.sz.2) u).setCell (show N ≤ (⟨s, 4, none⟩ : Addr).block from r.sz.2) v).setCell (show N ≤ (⟨s, 5, none⟩ : Addr).block from r.sz.2) x, fun b _ hb => by
    have hne : b ≠ s := fun e => hb (by rw [e]; exact r.at_)
    exact (Below.heap_setCell _ ⟨s, 5, none⟩ x b hne).trans ((Below.heap_setCell _ ⟨s, 4, none⟩ v b hne).trans (Below.heap_setCell _ ⟨s, 3, none⟩ u b hne))⟩
end Go.Proofs.YtnoflgkjdibblaaGreatDoor.S20
