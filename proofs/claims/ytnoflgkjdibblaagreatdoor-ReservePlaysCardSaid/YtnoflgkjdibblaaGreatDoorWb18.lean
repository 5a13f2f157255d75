/-
  Texts put together: Rv6. No statement is proved here.
-/
import Derived.Test.YtnoflgkjdibblaaGreatDoorWb13
import Derived.Test.YtnoflgkjdibblaaGreatDoorWb12

/-
  The document's own Read of layer 21. No statement is proved here.
-/
namespace Go.Proofs.YtnoflgkjdibblaaGreatDoor.S21
set_option linter.unusedSimpArgs false
set_option linter.unusedVariables false
set_option maxRecDepth 8192
open Go.RowKit

theorem results_cell_tmp2 {P : Program} {fn : Func} {p q u : Tmp} {ty : TypeId} (h : fn.results = #[.cell p ty, .tmp q, .tmp u]) (tmps : Array Value) (w : World) (g : Nat) (t : TypeId) (cs : Array Value) (x y : Value) (d : TypeDesc)
    (hp : tmps.getD p undef = .pointer (some ⟨g, 0, none⟩)) (hg : Bk w g t cs) (hu : P.underlying ty = some d) (hd : (match d with | .struct _ | .array _ _ => true | _ => false) = true) (hi : (P.info? ty).map (·.size) = some cs.size)
    (hq : tmps.getD q undef = x) (hy : tmps.getD u undef = y) : (results fn tmps).run P w = .ok (.tuple #[.agg cs, x, y]) w := by
  have hp' : tmps[p]?.getD undef = .pointer (some ⟨g, 0, none⟩) := by simpa using hp
  have hq' : tmps[q]?.getD undef = x := by simpa using hq
  have hy' : tmps[u]?.getD undef = y := by simpa using hy
  simp [results, h, hp', hq', hy', asAddr, run_loadVar_row w g t ty cs (0, 0) d hg hu hd hi]
theorem Tryz.infoCn : (Tryz.prog.info? 46).map (·.size) = some 5 := by kernel_rfl
theorem no_more {z : Int} (h : z ≤ 1) : (1 < z) = False := eq_false (by omega)
attribute [local go_sem] no_more
abbrev zA : Array Value := #[.int .u64 0, .int .u64 0, .int .u64 0, .int .u64 0, .bool false]
set_option maxHeartbeats 8000000 in
theorem rread21_any (A : Option Addr) (n c : Nat) (b : List UInt8) (w : World) (hr : Rd w A n c b) :
    Calls Tryz.prog 47 #[.slice A n c] w fun e w' => ∃ A' c', e = .returned (.tuple #[.agg (Cn.readX b).cells, .slice A' (Cn.readH b).length c', .int .i64 (Cn.readC b : Int)]) ∧ Rd w' A' (Cn.readH b).length c' (Cn.readH b) ∧ (∀ a, A' = some a → ∃ a0, A = some a0 ∧ a0.block = a.block) ∧ Below w.heap.size w w' := by
  have hl := hr.len
  obtain ⟨h, hh⟩ : ∃ h, h = w.heap.size := ⟨_, rfl⟩
  obtain ⟨w2, hw2⟩ : ∃ w2, w2 = (w.alloc (.cells zA 46)).alloc (.cells zA 46) := ⟨_, rfl⟩
  have H2 := Lib.hid (show Bk w2 h 46 zA by rw [hw2]; exact (Bk.newAt _ _ _ _ hh.symm).alloc _)
  have X2 := Lib.hid (show Bk w2 (h + 1) 46 zA by rw [hw2]; exact Bk.newAt _ _ _ _ (by simp [hh]))
  have B2 := Lib.hid (show Below h w w2 by rw [hw2, hh]; exact ((Below.refl _ _).alloc (Nat.le_refl _) _).alloc (by simp) _)
  have HH := Lib.hid hh
  have HW := Lib.hid hw2
  have HR := Lib.hid hr
  have RX := Lib.hid (show ∀ X, Below h w X → Rd X A n c b from fun X hX => hr.below (by rw [← hh]; exact hX))
  clear hh hw2
  by_cases hs : n < 25
  · have e1 : Cn.readC b = 2 := by unfold Cn.readC; rw [if_pos (by omega)]
    have e2 : Cn.readX b = Cn.zero := by simp [Cn.readX, e1]
    have e3 : Cn.readH b = [] := by simp [Cn.readH, e1]
    rw [e1, e2, e3]
    have t1 : (n : Int) < 25 := by omega
    have k0 : w2.cell? ⟨h + 1, 0, none⟩ = some (.int .u64 0) := X2.out.cell 0
    have k1 : w2.cell? ⟨h + 1, 1, none⟩ = some (.int .u64 0) := X2.out.cell 1
    have k2 : w2.cell? ⟨h + 1, 2, none⟩ = some (.int .u64 0) := X2.out.cell 2
    have k3 : w2.cell? ⟨h + 1, 3, none⟩ = some (.int .u64 0) := X2.out.cell 3
    have k4 : w2.cell? ⟨h + 1, 4, none⟩ = some (.bool false) := X2.out.cell 4
    have j0 : w2.cell? ⟨h, 0, none⟩ = some (.int .u64 0) := H2.out.cell 0
    have j1 : w2.cell? ⟨h, 1, none⟩ = some (.int .u64 0) := H2.out.cell 1
    have j2 : w2.cell? ⟨h, 2, none⟩ = some (.int .u64 0) := H2.out.cell 2
    have j3 : w2.cell? ⟨h, 3, none⟩ = some (.int .u64 0) := H2.out.cell 3
    have j4 : w2.cell? ⟨h, 4, none⟩ = some (.bool false) := H2.out.cell 4
    have z0 := H2.out.frozen 0
    have z1 := H2.out.frozen 1
    have z2 := H2.out.frozen 2
    have z3 := H2.out.frozen 3
    have z4 := H2.out.frozen 4
    clear e1 e2 e3 hl hr hs
    go_enter Tryz.func47, Tryz.ntmps47
    go_upto_region 2 with (fail)
    rw [← HH.out, ← HW.out]
    go_wp2_with (fail)
    refine bodyPost_ret (results_cell_tmp2 rfl _ _ h 46 zA _ _ _ rfl (((((H2.out.put 0 (.int .u64 0)).put 1 (.int .u64 0)).put 2 (.int .u64 0)).put 3 (.int .u64 0)).put 4 (.bool false)) Tryz.underlying46 rfl Tryz.infoCn rfl rfl) rfl ?_
    have b2 := B2.out
    rw [← HH.out]
    exact ⟨none, 0, rfl, Rd.nil_ _, (fun a e => by cases e), ((((b2.setCell (Nat.le_refl _) _).setCell (Nat.le_refl _) _).setCell (Nat.le_refl _) _).setCell (Nat.le_refl _) _).setCell (Nat.le_refl _) _⟩
  · have t1 : ¬ (n : Int) < 25 := by omega
    have hcap := hr.cap
    obtain ⟨tt, htt⟩ : ∃ tt, tt = getL (b.take 8) := ⟨_, rfl⟩
    obtain ⟨bb, hbb⟩ : ∃ bb, bb = getL ((b.drop 8).take 8) := ⟨_, rfl⟩
    obtain ⟨rr, hrr⟩ : ∃ rr, rr = getL ((b.drop 16).take 8) := ⟨_, rfl⟩
    obtain ⟨cb, hcb⟩ : ∃ cb, cb = b.getD 24 0 := ⟨_, rfl⟩
    obtain ⟨kb, ko, rfl, hkb, hkc⟩ := hr.at_ (by omega)
    have P1 : ∀ W, (Instr.slice 23 (.slice (some ⟨kb, ko, none⟩) n c) none (some (.int .i64 8)) none).run Tryz.prog W = .ok (.slice (some ⟨kb, ko, none⟩) 8 c) W := fun W => run_cutSlH (m := 8) rfl (by omega) W
    have P2 : ∀ W, (Instr.sliceAt 23 (.slice (some ⟨kb, ko, none⟩) n c) none (some (.int .i64 8)) none).run Tryz.prog W = .ok (.slice (some ⟨kb, ko, none⟩) 8 c) W := fun W => run_cutSlHAt (m := 8) rfl (by omega) W
    obtain ⟨A8, hA8⟩ : ∃ A8, A8 = if c = 8 then (some ⟨kb, ko, none⟩ : Option Addr) else (some ⟨kb, ko, none⟩ : Option Addr).map (·.add 8) := ⟨_, rfl⟩
    have P3 : ∀ W, (Instr.slice 23 (.slice (some ⟨kb, ko, none⟩) n c) (some (.int .i64 8)) (some (.int .i64 16)) none).run Tryz.prog W = .ok (.slice A8 8 (c - 8)) W := fun W => by rw [hA8]; exact run_cutSlLH (l' := 8) (m := 8) rfl rfl (by omega) W
    have P4 : ∀ W, (Instr.sliceAt 23 (.slice (some ⟨kb, ko, none⟩) n c) (some (.int .i64 8)) (some (.int .i64 16)) none).run Tryz.prog W = .ok (.slice A8 8 (c - 8)) W := fun W => by rw [hA8]; exact run_cutSlLHAt (l' := 8) (m := 8) rfl rfl (by omega) W
    obtain ⟨A16, hA16⟩ : ∃ A16, A16 = if c = 16 then (some ⟨kb, ko, none⟩ : Option Addr) else (some ⟨kb, ko, none⟩ : Option Addr).map (·.add 16) := ⟨_, rfl⟩
    have P5 : ∀ W, (Instr.slice 23 (.slice (some ⟨kb, ko, none⟩) n c) (some (.int .i64 16)) (some (.int .i64 24)) none).run Tryz.prog W = .ok (.slice A16 8 (c - 16)) W := fun W => by rw [hA16]; exact run_cutSlLH (l' := 16) (m := 8) rfl rfl (by omega) W
    have P6 : ∀ W, (Instr.sliceAt 23 (.slice (some ⟨kb, ko, none⟩) n c) (some (.int .i64 16)) (some (.int .i64 24)) none).run Tryz.prog W = .ok (.slice A16 8 (c - 16)) W := fun W => by rw [hA16]; exact run_cutSlLHAt (l' := 16) (m := 8) rfl rfl (by omega) W
    obtain ⟨A25, hA25⟩ : ∃ A25, A25 = if c = 25 then (some ⟨kb, ko, none⟩ : Option Addr) else (some ⟨kb, ko, none⟩ : Option Addr).map (·.add 25) := ⟨_, rfl⟩
    have P7 : ∀ W, (Instr.slice 23 (.slice (some ⟨kb, ko, none⟩) n c) (some (.int .i64 25)) none none).run Tryz.prog W = .ok (.slice A25 (n - 25) (c - 25)) W := fun W => by rw [hA25]; exact run_cutSl (k := 25) rfl (by omega) W
    have P8 : ∀ W, (Instr.sliceAt 23 (.slice (some ⟨kb, ko, none⟩) n c) (some (.int .i64 25)) none none).run Tryz.prog W = .ok (.slice A25 (n - 25) (c - 25)) W := fun W => by rw [hA25]; exact run_cutSlAt (k := 25) rfl (by omega) W
    have GA := Lib.hid (show ∀ X, Below h w X → Calls Tryz.prog 78 #[.slice (some ⟨kb, ko, none⟩) 8 c] X fun e w' => e = .returned (.tuple #[.int .u64 (tt : Int), .bool true]) ∧ X = w' from fun X hX => by rw [htt]; exact S20.rget20 _ 8 c _ X (by omega) ((RX.out X hX).take (by omega)))
    have GB := Lib.hid (show ∀ X, Below h w X → Calls Tryz.prog 78 #[.slice A8 8 (c - 8)] X fun e w' => e = .returned (.tuple #[.int .u64 (bb : Int), .bool true]) ∧ X = w' from fun X hX => by rw [hbb, hA8]; exact S20.rget20 _ 8 (c - 8) _ X (by omega) (((RX.out X hX).cut (k := 8) (by omega)).take (by omega)))
    have GC := Lib.hid (show ∀ X, Below h w X → Calls Tryz.prog 78 #[.slice A16 8 (c - 16)] X fun e w' => e = .returned (.tuple #[.int .u64 (rr : Int), .bool true]) ∧ X = w' from fun X hX => by rw [hrr, hA16]; exact S20.rget20 _ 8 (c - 16) _ X (by omega) (((RX.out X hX).cut (k := 16) (by omega)).take (by omega)))
    have AL := Lib.hid (show ∀ a, A25 = some a → ∃ a0, (some ⟨kb, ko, none⟩ : Option Addr) = some a0 ∧ a0.block = a.block from fun a e => by
      rw [hA25] at e
      split at e
      · injection e with e; exact ⟨_, rfl, by rw [← e]⟩
      · rw [Option.map_some] at e; injection e with e; exact ⟨_, rfl, by rw [← e]; rfl⟩)
    have R25 := Lib.hid (show ∀ X, Below h w X → Rd X A25 (n - 25) (c - 25) (b.drop 25) from fun X hX => by rw [hA25]; exact (RX.out X hX).cut (k := 25) (by omega))
    have OB := Lib.hid (show Cn.ofB b = ⟨tt, bb, rr, rr, decide (cb = 1)⟩ by rw [htt, hbb, hrr, hcb]; rfl)
    have MY := Lib.hid (fun X => rmay21_any ⟨tt, bb, rr, rr, decide (cb = 1)⟩ A25 (n - 25) (c - 25) X)
    unfold Cn.cells at MY
    simp only at MY
    obtain ⟨fl, hfl⟩ : ∃ fl : Bool, fl = decide (cb = 1) := ⟨_, rfl⟩
    rw [← hfl] at MY OB
    have CB := Lib.hid (show ∀ X, Below h w X → X.cell? ⟨kb, ko + 24, none⟩ = some (.int .u8 (cb.toNat : Int)) from fun X hX => by
      obtain ⟨b', o', e, _, hc⟩ := (RX.out X hX).at_ (by omega)
      injection e with e
      injection e with e1 e2
      subst e1 e2
      rw [hcb]
      exact hc 24 (by omega))
    have y1 : ((cb.toNat : Int) == 1) = fl := by
      rw [hfl]
      by_cases hq : cb = 1
      · subst hq; rfl
      · have : cb.toNat ≠ 1 := fun e => hq (UInt8.toNat_inj.1 e)
        rw [decide_eq_false hq]
        simpa using by omega
    have LN := Lib.hid hl
    have i24 : (24 : Int) < (n : Int) := by omega
    have RDC := Lib.hid (show Cn.readC b = if 1 < cb.toNat ∨ ¬ (Cn.ofB b).May (n - 25) then 3 else 0 by unfold Cn.readC; rw [if_neg (by omega), ← hcb, hl])
    have NS := Lib.hid hs
    have HHL := Lib.hid HH.out.symm
    clear htt hbb hrr hcb hA8 hA16 hA25 hfl hkb hkc hcap hl hr hs
    by_cases g1 : 1 < cb.toNat
    · have y2 : (1 : Int) < (cb.toNat : Int) := by omega
      have e1 : Cn.readC b = 3 := by rw [RDC.out, if_pos (.inl g1)]
      have e2 : Cn.readX b = Cn.zero := by simp [Cn.readX, e1]
      have e3 : Cn.readH b = [] := by simp [Cn.readH, e1]
      rw [e1, e2, e3]
      clear e1 e2 e3
      have k0 : w2.cell? ⟨h + 1, 0, none⟩ = some ((.int .u64 0)) := X2.out.cell 0
      have k1 : w2.cell? ⟨h + 1, 1, none⟩ = some ((.int .u64 0)) := X2.out.cell 1
      have k2 : w2.cell? ⟨h + 1, 2, none⟩ = some ((.int .u64 0)) := X2.out.cell 2
      have k3 : w2.cell? ⟨h + 1, 3, none⟩ = some ((.int .u64 0)) := X2.out.cell 3
      have k4 : w2.cell? ⟨h + 1, 4, none⟩ = some ((.bool false)) := X2.out.cell 4
      have z0 := X2.out.frozen 0
      have z1 := X2.out.frozen 1
      have z2 := X2.out.frozen 2
      have z3 := X2.out.frozen 3
      have z4 := X2.out.frozen 4
      go_enter Tryz.func47, Tryz.ntmps47
      go_upto_region 2 with (fail)
      rw [← HH.out, ← HW.out]
      go_upto_region 5 with (go_at_call 78; ((with_reducible refine (GA.out _ B2.out).mono ?_); rintro e w3 ⟨rfl, rfl⟩))
      have X3 := Lib.hid (X2.out.put 0 (.int .u64 (tt : Int)))
      have H3 := Lib.hid (H2.out.far (p := ⟨h + 1, 0, none⟩) (show h ≠ h + 1 by omega) (.int .u64 (tt : Int)))
      have B3 := Lib.hid (B2.out.setCell (p := ⟨h + 1, 0, none⟩) (show h ≤ h + 1 by omega) (.int .u64 (tt : Int)))
      generalize w2.setCell ⟨h + 1, 0, none⟩ (.int .u64 (tt : Int)) = w3 at *
      have k1 : w3.cell? ⟨h + 1, 1, none⟩ = some (.int .u64 0) := X3.out.cell 1
      have z1 := X3.out.frozen 1
      go_upto_region 6 with (go_at_call 78; ((with_reducible refine (GB.out _ B3.out).mono ?_); rintro e w4 ⟨rfl, rfl⟩))
      have X4 := Lib.hid (X3.out.put 1 (.int .u64 (bb : Int)))
      have H4 := Lib.hid (H3.out.far (p := ⟨h + 1, 1, none⟩) (show h ≠ h + 1 by omega) (.int .u64 (bb : Int)))
      have B4 := Lib.hid (B3.out.setCell (p := ⟨h + 1, 1, none⟩) (show h ≤ h + 1 by omega) (.int .u64 (bb : Int)))
      generalize w3.setCell ⟨h + 1, 1, none⟩ (.int .u64 (bb : Int)) = w4 at *
      have k2 : w4.cell? ⟨h + 1, 2, none⟩ = some (.int .u64 0) := X4.out.cell 2
      have z2 := X4.out.frozen 2
      go_upto_region 7 with (go_at_call 78; ((with_reducible refine (GC.out _ B4.out).mono ?_); rintro e w5 ⟨rfl, rfl⟩))
      have X5 := Lib.hid (X4.out.put 2 (.int .u64 (rr : Int)))
      have H5 := Lib.hid (H4.out.far (p := ⟨h + 1, 2, none⟩) (show h ≠ h + 1 by omega) (.int .u64 (rr : Int)))
      have B5 := Lib.hid (B4.out.setCell (p := ⟨h + 1, 2, none⟩) (show h ≤ h + 1 by omega) (.int .u64 (rr : Int)))
      generalize w4.setCell ⟨h + 1, 2, none⟩ (.int .u64 (rr : Int)) = w5 at *
      have k2 : w5.cell? ⟨h + 1, 2, none⟩ = some (.int .u64 (rr : Int)) := X5.out.cell 2
      have k3 : w5.cell? ⟨h + 1, 3, none⟩ = some (.int .u64 0) := X5.out.cell 3
      have z3 := X5.out.frozen 3
      go_upto_region 8 with (fail)
      have X6 := Lib.hid (X5.out.put 3 (.int .u64 (rr : Int)))
      have H6 := Lib.hid (H5.out.far (p := ⟨h + 1, 3, none⟩) (show h ≠ h + 1 by omega) (.int .u64 (rr : Int)))
      have B6 := Lib.hid (B5.out.setCell (p := ⟨h + 1, 3, none⟩) (show h ≤ h + 1 by omega) (.int .u64 (rr : Int)))
      generalize w5.setCell ⟨h + 1, 3, none⟩ (.int .u64 (rr : Int)) = w6 at *
      have k4 : w6.cell? ⟨h + 1, 4, none⟩ = some (.bool false) := X6.out.cell 4
      have z4 := X6.out.frozen 4
      have kc := CB.out w6 B6.out
      go_upto_region 9 with (fail)
      have X7 := Lib.hid (X6.out.put 4 (.bool fl))
      have H7 := Lib.hid (H6.out.far (p := ⟨h + 1, 4, none⟩) (show h ≠ h + 1 by omega) (.bool fl))
      have B7 := Lib.hid (B6.out.setCell (p := ⟨h + 1, 4, none⟩) (show h ≤ h + 1 by omega) (.bool fl))
      generalize w6.setCell ⟨h + 1, 4, none⟩ (.bool fl) = w7 at *
      clear k0 k1 k2 k3 k4 z0 z1 z2 z3 z4 kc y1 P1 P2 P3 P4 P5 P6
      have SZ := Lib.hid (show h ≤ w7.heap.size from by have q := B7.out.size; rw [HHL.out] at q; exact q)
      have KS := Lib.hid (show ∀ X, Below w7.heap.size w7 X → X.cell? ⟨h + 1, 0, none⟩ = some (.int .u64 (tt : Int)) ∧ X.cell? ⟨h + 1, 1, none⟩ = some (.int .u64 (bb : Int)) ∧ X.cell? ⟨h + 1, 2, none⟩ = some (.int .u64 (rr : Int)) ∧ X.cell? ⟨h + 1, 3, none⟩ = some (.int .u64 (rr : Int)) ∧ X.cell? ⟨h + 1, 4, none⟩ = some (.bool fl) ∧ X.cell? ⟨kb, ko + 24, none⟩ = some (.int .u8 (cb.toNat : Int)) from fun X hX => by
        have q := X7.out.below hX X7.out.lt
        exact ⟨q.cell 0, q.cell 1, q.cell 2, q.cell 3, q.cell 4, CB.out X (B7.out.trans (hX.mono SZ.out))⟩)
      have GD := Lib.hid (Below.refl w7.heap.size w7).drew
      refine wp_region_steady (fun X => Below w7.heap.size w7 X) (by kernel_rfl) (by kernel_rfl) (Below.refl _ _).drew ?_
      (refine seq_pure (v := ?_) (by rfl) ?_ ?_; rotate_left; (· (intro w' hS; obtain ⟨c0, c1, c2, c3, c4, c5⟩ := KS.out w' hS; go_simp; try with_reducible rfl)); simp only [Act.put, List.setIfInBounds_toArray, List.set_cons_zero, List.set_cons_succ])
      (refine seq_pure (v := ?_) (by rfl) ?_ ?_; rotate_left; (· (intro w' hS; obtain ⟨c0, c1, c2, c3, c4, c5⟩ := KS.out w' hS; go_simp; try with_reducible rfl)); simp only [Act.put, List.setIfInBounds_toArray, List.set_cons_zero, List.set_cons_succ])
      (refine seq_pure (v := ?_) (by rfl) ?_ ?_; rotate_left; (· (intro w' hS; obtain ⟨c0, c1, c2, c3, c4, c5⟩ := KS.out w' hS; go_simp; try with_reducible rfl)); simp only [Act.put, List.setIfInBounds_toArray, List.set_cons_zero, List.set_cons_succ])
      refine seq_pure (v := .bool true) (by rfl) ?_ ?_
      · intro w' hS
        obtain ⟨c0, c1, c2, c3, c4, c5⟩ := KS.out w' hS
        first
          | (go_simp; done)
          | (go_simp; simpa using y2)
          | (go_simp; simp [y2])
      simp only [Act.put, List.setIfInBounds_toArray, List.set_cons_zero, List.set_cons_succ]
      (refine seq_pure (v := ?_) (by rfl) ?_ ?_; rotate_left; (· (intro w' hS; go_simp; try with_reducible rfl)); simp only [Act.put, List.setIfInBounds_toArray, List.set_cons_zero, List.set_cons_succ])
      refine seq_skip (by rfl) ?_
      simp only [Act.put, List.setIfInBounds_toArray, List.set_cons_zero, List.set_cons_succ]
      refine seq_skip (by rfl) ?_
      simp only [Act.put, List.setIfInBounds_toArray, List.set_cons_zero, List.set_cons_succ]
      refine seq_skip (by rfl) ?_
      simp only [Act.put, List.setIfInBounds_toArray, List.set_cons_zero, List.set_cons_succ]
      refine seq_skip (by rfl) ?_
      simp only [Act.put, List.setIfInBounds_toArray, List.set_cons_zero, List.set_cons_succ]
      refine seq_skip (by rfl) ?_
      simp only [Act.put, List.setIfInBounds_toArray, List.set_cons_zero, List.set_cons_succ]
      (refine seq_pure (v := ?_) (by rfl) ?_ ?_; rotate_left; (· (intro w' hS; go_simp; try with_reducible rfl)); simp only [Act.put, List.setIfInBounds_toArray, List.set_cons_zero, List.set_cons_succ])
      refine seq_nil ?_
      intro w9 hS9
      have BX := Lib.hid hS9
      clear hS9
      all_goals (
        have H8 := Lib.hid (H7.out.below BX.out H7.out.lt)
        have B8 := Lib.hid (B7.out.trans (BX.out.mono SZ.out))
        have j0 : w9.cell? ⟨h, 0, none⟩ = some ((.int .u64 0)) := H8.out.cell 0
        have j1 : w9.cell? ⟨h, 1, none⟩ = some ((.int .u64 0)) := H8.out.cell 1
        have j2 : w9.cell? ⟨h, 2, none⟩ = some ((.int .u64 0)) := H8.out.cell 2
        have j3 : w9.cell? ⟨h, 3, none⟩ = some ((.int .u64 0)) := H8.out.cell 3
        have j4 : w9.cell? ⟨h, 4, none⟩ = some ((.bool false)) := H8.out.cell 4
        have z0 := H8.out.frozen 0
        have z1 := H8.out.frozen 1
        have z2 := H8.out.frozen 2
        have z3 := H8.out.frozen 3
        have z4 := H8.out.frozen 4
        go_wp2_with (fail)
        refine bodyPost_ret (results_cell_tmp2 rfl _ _ h 46 zA _ _ _ rfl (((((H8.out.put 0 (.int .u64 0)).put 1 (.int .u64 0)).put 2 (.int .u64 0)).put 3 (.int .u64 0)).put 4 (.bool false)) Tryz.underlying46 rfl Tryz.infoCn rfl rfl) rfl ?_
        rw [← HH.out]
        exact ⟨none, 0, rfl, Rd.nil_ _, (fun a e => by cases e), ((((B8.out.setCell (Nat.le_refl _) _).setCell (Nat.le_refl _) _).setCell (Nat.le_refl _) _).setCell (Nat.le_refl _) _).setCell (Nat.le_refl _) _⟩)
    · have y2 : ¬ (1 : Int) < (cb.toNat : Int) := by omega
      by_cases g2 : (Cn.ofB b).May (n - 25)
      · have e1 : Cn.readC b = 0 := by rw [RDC.out, if_neg (fun h => h.elim g1 (fun e => e g2))]
        have e2 : Cn.readX b = Cn.ofB b := by simp [Cn.readX, e1]
        have e3 : Cn.readH b = b.drop 25 := by simp [Cn.readH, e1]
        have e4 : (b.drop 25).length = n - 25 := by rw [List.length_drop, LN.out]
        rw [e1, e2, e3, e4, OB.out]
        rw [OB.out] at g2
        rw [decide_eq_true g2] at MY
        clear e1 e2 e3 e4 g2
        unfold Cn.cells
        simp only
        have k0 : w2.cell? ⟨h + 1, 0, none⟩ = some ((.int .u64 0)) := X2.out.cell 0
        have k1 : w2.cell? ⟨h + 1, 1, none⟩ = some ((.int .u64 0)) := X2.out.cell 1
        have k2 : w2.cell? ⟨h + 1, 2, none⟩ = some ((.int .u64 0)) := X2.out.cell 2
        have k3 : w2.cell? ⟨h + 1, 3, none⟩ = some ((.int .u64 0)) := X2.out.cell 3
        have k4 : w2.cell? ⟨h + 1, 4, none⟩ = some ((.bool false)) := X2.out.cell 4
        have z0 := X2.out.frozen 0
        have z1 := X2.out.frozen 1
        have z2 := X2.out.frozen 2
        have z3 := X2.out.frozen 3
        have z4 := X2.out.frozen 4
        go_enter Tryz.func47, Tryz.ntmps47
        go_upto_region 2 with (fail)
        rw [← HH.out, ← HW.out]
        go_upto_region 5 with (go_at_call 78; ((with_reducible refine (GA.out _ B2.out).mono ?_); rintro e w3 ⟨rfl, rfl⟩))
        have X3 := Lib.hid (X2.out.put 0 (.int .u64 (tt : Int)))
        have H3 := Lib.hid (H2.out.far (p := ⟨h + 1, 0, none⟩) (show h ≠ h + 1 by omega) (.int .u64 (tt : Int)))
        have B3 := Lib.hid (B2.out.setCell (p := ⟨h + 1, 0, none⟩) (show h ≤ h + 1 by omega) (.int .u64 (tt : Int)))
        generalize w2.setCell ⟨h + 1, 0, none⟩ (.int .u64 (tt : Int)) = w3 at *
        have k1 : w3.cell? ⟨h + 1, 1, none⟩ = some (.int .u64 0) := X3.out.cell 1
        have z1 := X3.out.frozen 1
        go_upto_region 6 with (go_at_call 78; ((with_reducible refine (GB.out _ B3.out).mono ?_); rintro e w4 ⟨rfl, rfl⟩))
        have X4 := Lib.hid (X3.out.put 1 (.int .u64 (bb : Int)))
        have H4 := Lib.hid (H3.out.far (p := ⟨h + 1, 1, none⟩) (show h ≠ h + 1 by omega) (.int .u64 (bb : Int)))
        have B4 := Lib.hid (B3.out.setCell (p := ⟨h + 1, 1, none⟩) (show h ≤ h + 1 by omega) (.int .u64 (bb : Int)))
        generalize w3.setCell ⟨h + 1, 1, none⟩ (.int .u64 (bb : Int)) = w4 at *
        have k2 : w4.cell? ⟨h + 1, 2, none⟩ = some (.int .u64 0) := X4.out.cell 2
        have z2 := X4.out.frozen 2
        go_upto_region 7 with (go_at_call 78; ((with_reducible refine (GC.out _ B4.out).mono ?_); rintro e w5 ⟨rfl, rfl⟩))
        have X5 := Lib.hid (X4.out.put 2 (.int .u64 (rr : Int)))
        have H5 := Lib.hid (H4.out.far (p := ⟨h + 1, 2, none⟩) (show h ≠ h + 1 by omega) (.int .u64 (rr : Int)))
        have B5 := Lib.hid (B4.out.setCell (p := ⟨h + 1, 2, none⟩) (show h ≤ h + 1 by omega) (.int .u64 (rr : Int)))
        generalize w4.setCell ⟨h + 1, 2, none⟩ (.int .u64 (rr : Int)) = w5 at *
        have k2 : w5.cell? ⟨h + 1, 2, none⟩ = some (.int .u64 (rr : Int)) := X5.out.cell 2
        have k3 : w5.cell? ⟨h + 1, 3, none⟩ = some (.int .u64 0) := X5.out.cell 3
        have z3 := X5.out.frozen 3
        go_upto_region 8 with (fail)
        have X6 := Lib.hid (X5.out.put 3 (.int .u64 (rr : Int)))
        have H6 := Lib.hid (H5.out.far (p := ⟨h + 1, 3, none⟩) (show h ≠ h + 1 by omega) (.int .u64 (rr : Int)))
        have B6 := Lib.hid (B5.out.setCell (p := ⟨h + 1, 3, none⟩) (show h ≤ h + 1 by omega) (.int .u64 (rr : Int)))
        generalize w5.setCell ⟨h + 1, 3, none⟩ (.int .u64 (rr : Int)) = w6 at *
        have k4 : w6.cell? ⟨h + 1, 4, none⟩ = some (.bool false) := X6.out.cell 4
        have z4 := X6.out.frozen 4
        have kc := CB.out w6 B6.out
        go_upto_region 9 with (fail)
        have X7 := Lib.hid (X6.out.put 4 (.bool fl))
        have H7 := Lib.hid (H6.out.far (p := ⟨h + 1, 4, none⟩) (show h ≠ h + 1 by omega) (.bool fl))
        have B7 := Lib.hid (B6.out.setCell (p := ⟨h + 1, 4, none⟩) (show h ≤ h + 1 by omega) (.bool fl))
        generalize w6.setCell ⟨h + 1, 4, none⟩ (.bool fl) = w7 at *
        clear k0 k1 k2 k3 k4 z0 z1 z2 z3 z4 kc y1 P1 P2 P3 P4 P5 P6
        have SZ := Lib.hid (show h ≤ w7.heap.size from by have q := B7.out.size; rw [HHL.out] at q; exact q)
        have KS := Lib.hid (show ∀ X, Below w7.heap.size w7 X → X.cell? ⟨h + 1, 0, none⟩ = some (.int .u64 (tt : Int)) ∧ X.cell? ⟨h + 1, 1, none⟩ = some (.int .u64 (bb : Int)) ∧ X.cell? ⟨h + 1, 2, none⟩ = some (.int .u64 (rr : Int)) ∧ X.cell? ⟨h + 1, 3, none⟩ = some (.int .u64 (rr : Int)) ∧ X.cell? ⟨h + 1, 4, none⟩ = some (.bool fl) ∧ X.cell? ⟨kb, ko + 24, none⟩ = some (.int .u8 (cb.toNat : Int)) from fun X hX => by
          have q := X7.out.below hX X7.out.lt
          exact ⟨q.cell 0, q.cell 1, q.cell 2, q.cell 3, q.cell 4, CB.out X (B7.out.trans (hX.mono SZ.out))⟩)
        have GD := Lib.hid (Below.refl w7.heap.size w7).drew
        (first | (go_region_held3 (fun X => X.cell? ⟨h + 1, 0, none⟩ = some (.int .u64 (tt : Int)) ∧ X.cell? ⟨h + 1, 1, none⟩ = some (.int .u64 (bb : Int)) ∧ X.cell? ⟨h + 1, 2, none⟩ = some (.int .u64 (rr : Int)) ∧ X.cell? ⟨h + 1, 3, none⟩ = some (.int .u64 (rr : Int)) ∧ X.cell? ⟨h + 1, 4, none⟩ = some (.bool fl) ∧ X.cell? ⟨kb, ko + 24, none⟩ = some (.int .u8 (cb.toNat : Int))) (first
          | exact KS.out _ GD.out
          | exact KS.out _ (GD.out.trans b8.out)) (first
          | (go_at_call 37; ((with_reducible refine (MY.out _).mono ?_); rintro e w8 ⟨rfl, b8⟩; replace b8 := Lib.hid b8)))) | fail)
        have G8 := Lib.hid (GD.out.trans b8.out)
        have H8 := Lib.hid (H7.out.below G8.out H7.out.lt)
        have X8 := Lib.hid (X7.out.below G8.out X7.out.lt)
        have B8 := Lib.hid (B7.out.trans (G8.out.mono SZ.out))
        have j0 : w8.cell? ⟨h, 0, none⟩ = some ((.int .u64 0)) := H8.out.cell 0
        have j1 : w8.cell? ⟨h, 1, none⟩ = some ((.int .u64 0)) := H8.out.cell 1
        have j2 : w8.cell? ⟨h, 2, none⟩ = some ((.int .u64 0)) := H8.out.cell 2
        have j3 : w8.cell? ⟨h, 3, none⟩ = some ((.int .u64 0)) := H8.out.cell 3
        have j4 : w8.cell? ⟨h, 4, none⟩ = some ((.bool false)) := H8.out.cell 4
        have z0 := H8.out.frozen 0
        have z1 := H8.out.frozen 1
        have z2 := H8.out.frozen 2
        have z3 := H8.out.frozen 3
        have z4 := H8.out.frozen 4
        go_upto_region 11 with (fail)
        have k0 := X8.out.cell 0
        have k1 := X8.out.cell 1
        have k2 := X8.out.cell 2
        have k3 := X8.out.cell 3
        have k4 := X8.out.cell 4
        go_region_with (fail)
        go_wp2_with (fail)
        refine bodyPost_ret (results_cell_tmp2 rfl _ _ h 46 #[.int .u64 (tt : Int), .int .u64 (bb : Int), .int .u64 (rr : Int), .int .u64 (rr : Int), .bool fl] _ _ _ rfl (((((H8.out.drew.put 0 (.int .u64 (tt : Int))).put 1 (.int .u64 (bb : Int))).put 2 (.int .u64 (rr : Int))).put 3 (.int .u64 (rr : Int))).put 4 (.bool fl)) Tryz.underlying46 rfl Tryz.infoCn rfl rfl) rfl ?_
        rw [← HH.out]
        have BX := (((((B8.out.drew.setCell (p := ⟨h, 0, none⟩) (Nat.le_refl h) (.int .u64 (tt : Int))).setCell (p := ⟨h, 1, none⟩) (Nat.le_refl h) (.int .u64 (bb : Int))).setCell (p := ⟨h, 2, none⟩) (Nat.le_refl h) (.int .u64 (rr : Int))).setCell (p := ⟨h, 3, none⟩) (Nat.le_refl h) (.int .u64 (rr : Int))).setCell (p := ⟨h, 4, none⟩) (Nat.le_refl h) (.bool fl))
        exact ⟨A25, c - 25, rfl, R25.out _ BX, AL.out, BX⟩
      · have e1 : Cn.readC b = 3 := by rw [RDC.out, if_pos (.inr g2)]
        have e2 : Cn.readX b = Cn.zero := by simp [Cn.readX, e1]
        have e3 : Cn.readH b = [] := by simp [Cn.readH, e1]
        rw [e1, e2, e3]
        rw [OB.out] at g2
        rw [decide_eq_false g2] at MY
        clear e1 e2 e3 g2
        have k0 : w2.cell? ⟨h + 1, 0, none⟩ = some ((.int .u64 0)) := X2.out.cell 0
        have k1 : w2.cell? ⟨h + 1, 1, none⟩ = some ((.int .u64 0)) := X2.out.cell 1
        have k2 : w2.cell? ⟨h + 1, 2, none⟩ = some ((.int .u64 0)) := X2.out.cell 2
        have k3 : w2.cell? ⟨h + 1, 3, none⟩ = some ((.int .u64 0)) := X2.out.cell 3
        have k4 : w2.cell? ⟨h + 1, 4, none⟩ = some ((.bool false)) := X2.out.cell 4
        have z0 := X2.out.frozen 0
        have z1 := X2.out.frozen 1
        have z2 := X2.out.frozen 2
        have z3 := X2.out.frozen 3
        have z4 := X2.out.frozen 4
        go_enter Tryz.func47, Tryz.ntmps47
        go_upto_region 2 with (fail)
        rw [← HH.out, ← HW.out]
        go_upto_region 5 with (go_at_call 78; ((with_reducible refine (GA.out _ B2.out).mono ?_); rintro e w3 ⟨rfl, rfl⟩))
        have X3 := Lib.hid (X2.out.put 0 (.int .u64 (tt : Int)))
        have H3 := Lib.hid (H2.out.far (p := ⟨h + 1, 0, none⟩) (show h ≠ h + 1 by omega) (.int .u64 (tt : Int)))
        have B3 := Lib.hid (B2.out.setCell (p := ⟨h + 1, 0, none⟩) (show h ≤ h + 1 by omega) (.int .u64 (tt : Int)))
        generalize w2.setCell ⟨h + 1, 0, none⟩ (.int .u64 (tt : Int)) = w3 at *
        have k1 : w3.cell? ⟨h + 1, 1, none⟩ = some (.int .u64 0) := X3.out.cell 1
        have z1 := X3.out.frozen 1
        go_upto_region 6 with (go_at_call 78; ((with_reducible refine (GB.out _ B3.out).mono ?_); rintro e w4 ⟨rfl, rfl⟩))
        have X4 := Lib.hid (X3.out.put 1 (.int .u64 (bb : Int)))
        have H4 := Lib.hid (H3.out.far (p := ⟨h + 1, 1, none⟩) (show h ≠ h + 1 by omega) (.int .u64 (bb : Int)))
        have B4 := Lib.hid (B3.out.setCell (p := ⟨h + 1, 1, none⟩) (show h ≤ h + 1 by omega) (.int .u64 (bb : Int)))
        generalize w3.setCell ⟨h + 1, 1, none⟩ (.int .u64 (bb : Int)) = w4 at *
        have k2 : w4.cell? ⟨h + 1, 2, none⟩ = some (.int .u64 0) := X4.out.cell 2
        have z2 := X4.out.frozen 2
        go_upto_region 7 with (go_at_call 78; ((with_reducible refine (GC.out _ B4.out).mono ?_); rintro e w5 ⟨rfl, rfl⟩))
        have X5 := Lib.hid (X4.out.put 2 (.int .u64 (rr : Int)))
        have H5 := Lib.hid (H4.out.far (p := ⟨h + 1, 2, none⟩) (show h ≠ h + 1 by omega) (.int .u64 (rr : Int)))
        have B5 := Lib.hid (B4.out.setCell (p := ⟨h + 1, 2, none⟩) (show h ≤ h + 1 by omega) (.int .u64 (rr : Int)))
        generalize w4.setCell ⟨h + 1, 2, none⟩ (.int .u64 (rr : Int)) = w5 at *
        have k2 : w5.cell? ⟨h + 1, 2, none⟩ = some (.int .u64 (rr : Int)) := X5.out.cell 2
        have k3 : w5.cell? ⟨h + 1, 3, none⟩ = some (.int .u64 0) := X5.out.cell 3
        have z3 := X5.out.frozen 3
        go_upto_region 8 with (fail)
        have X6 := Lib.hid (X5.out.put 3 (.int .u64 (rr : Int)))
        have H6 := Lib.hid (H5.out.far (p := ⟨h + 1, 3, none⟩) (show h ≠ h + 1 by omega) (.int .u64 (rr : Int)))
        have B6 := Lib.hid (B5.out.setCell (p := ⟨h + 1, 3, none⟩) (show h ≤ h + 1 by omega) (.int .u64 (rr : Int)))
        generalize w5.setCell ⟨h + 1, 3, none⟩ (.int .u64 (rr : Int)) = w6 at *
        have k4 : w6.cell? ⟨h + 1, 4, none⟩ = some (.bool false) := X6.out.cell 4
        have z4 := X6.out.frozen 4
        have kc := CB.out w6 B6.out
        go_upto_region 9 with (fail)
        have X7 := Lib.hid (X6.out.put 4 (.bool fl))
        have H7 := Lib.hid (H6.out.far (p := ⟨h + 1, 4, none⟩) (show h ≠ h + 1 by omega) (.bool fl))
        have B7 := Lib.hid (B6.out.setCell (p := ⟨h + 1, 4, none⟩) (show h ≤ h + 1 by omega) (.bool fl))
        generalize w6.setCell ⟨h + 1, 4, none⟩ (.bool fl) = w7 at *
        clear k0 k1 k2 k3 k4 z0 z1 z2 z3 z4 kc y1 P1 P2 P3 P4 P5 P6
        have SZ := Lib.hid (show h ≤ w7.heap.size from by have q := B7.out.size; rw [HHL.out] at q; exact q)
        have KS := Lib.hid (show ∀ X, Below w7.heap.size w7 X → X.cell? ⟨h + 1, 0, none⟩ = some (.int .u64 (tt : Int)) ∧ X.cell? ⟨h + 1, 1, none⟩ = some (.int .u64 (bb : Int)) ∧ X.cell? ⟨h + 1, 2, none⟩ = some (.int .u64 (rr : Int)) ∧ X.cell? ⟨h + 1, 3, none⟩ = some (.int .u64 (rr : Int)) ∧ X.cell? ⟨h + 1, 4, none⟩ = some (.bool fl) ∧ X.cell? ⟨kb, ko + 24, none⟩ = some (.int .u8 (cb.toNat : Int)) from fun X hX => by
          have q := X7.out.below hX X7.out.lt
          exact ⟨q.cell 0, q.cell 1, q.cell 2, q.cell 3, q.cell 4, CB.out X (B7.out.trans (hX.mono SZ.out))⟩)
        have GD := Lib.hid (Below.refl w7.heap.size w7).drew
        (first | (go_region_held3 (fun X => X.cell? ⟨h + 1, 0, none⟩ = some (.int .u64 (tt : Int)) ∧ X.cell? ⟨h + 1, 1, none⟩ = some (.int .u64 (bb : Int)) ∧ X.cell? ⟨h + 1, 2, none⟩ = some (.int .u64 (rr : Int)) ∧ X.cell? ⟨h + 1, 3, none⟩ = some (.int .u64 (rr : Int)) ∧ X.cell? ⟨h + 1, 4, none⟩ = some (.bool fl) ∧ X.cell? ⟨kb, ko + 24, none⟩ = some (.int .u8 (cb.toNat : Int))) (first
          | exact KS.out _ GD.out
          | exact KS.out _ (GD.out.trans b8.out)) (first
          | (go_at_call 37; ((with_reducible refine (MY.out _).mono ?_); rintro e w8 ⟨rfl, b8⟩; replace b8 := Lib.hid b8)))) | fail)
        have G8 := Lib.hid (GD.out.trans b8.out)
        have H8 := Lib.hid (H7.out.below G8.out H7.out.lt)
        have B8 := Lib.hid (B7.out.trans (G8.out.mono SZ.out))
        have j0 : w8.cell? ⟨h, 0, none⟩ = some ((.int .u64 0)) := H8.out.cell 0
        have j1 : w8.cell? ⟨h, 1, none⟩ = some ((.int .u64 0)) := H8.out.cell 1
        have j2 : w8.cell? ⟨h, 2, none⟩ = some ((.int .u64 0)) := H8.out.cell 2
        have j3 : w8.cell? ⟨h, 3, none⟩ = some ((.int .u64 0)) := H8.out.cell 3
        have j4 : w8.cell? ⟨h, 4, none⟩ = some ((.bool false)) := H8.out.cell 4
        have z0 := H8.out.frozen 0
        have z1 := H8.out.frozen 1
        have z2 := H8.out.frozen 2
        have z3 := H8.out.frozen 3
        have z4 := H8.out.frozen 4
        go_wp2_with (fail)
        refine bodyPost_ret (results_cell_tmp2 rfl _ _ h 46 zA _ _ _ rfl (((((H8.out.put 0 (.int .u64 0)).put 1 (.int .u64 0)).put 2 (.int .u64 0)).put 3 (.int .u64 0)).put 4 (.bool false)) Tryz.underlying46 rfl Tryz.infoCn rfl rfl) rfl ?_
        rw [← HH.out]
        exact ⟨none, 0, rfl, Rd.nil_ _, (fun a e => by cases e), ((((B8.out.setCell (Nat.le_refl _) _).setCell (Nat.le_refl _) _).setCell (Nat.le_refl _) _).setCell (Nat.le_refl _) _).setCell (Nat.le_refl _) _⟩
end Go.Proofs.YtnoflgkjdibblaaGreatDoor.S21
