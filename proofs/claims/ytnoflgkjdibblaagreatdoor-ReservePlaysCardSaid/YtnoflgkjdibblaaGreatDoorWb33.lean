/-
  Texts put together: Sk9. No statement is proved here.
-/
import Derived.Test.YtnoflgkjdibblaaGreatDoorWb32
import Derived.Deep.Cut

/-
  The landed slots: an area is written, sector by sector. No statement is proved here. (Written by gensk9.py.)
-/
namespace Go.Proofs.YtnoflgkjdibblaaGreatDoor.S20
set_option linter.unusedSimpArgs false
set_option linter.unusedVariables false
set_option maxRecDepth 8192
open Go.RowKit S19

theorem Sk_write_sure (D : Dk) (i : Int) (b : List UInt8) : (D.write i b).sure = D.sure := by
  unfold Dk.write
  split
  · rfl
  · split
    · split
      · exact Dk.step_sure D
      · exact Dk.step_sure D
    · rfl
/-- What the writing of an area comes to. -/
def PostW (N : Nat) (F : Nat → Prop) (g : Nat) (w : World) (r : Nat × Dk) (e : Ending) (w' : World) : Prop :=
  e = stepE r.1 ∧ ∃ F', Kn N w' g r.2 F' ∧ (∀ b, F' b → F b ∨ w.heap.size ≤ b) ∧ Mv N F w w'
theorem two_add (a : Option Addr) (c l : Nat) (x : Addr) (h : (if c = l then a else a.map (·.add l)) = some x) : ∃ y, a = some y ∧ y.block = x.block := by
  obtain ⟨y, h1, h2⟩ := add_atW x l c a h
  exact ⟨y, h1, h2.symm⟩
where
  add_atW (a : Addr) (k c : Nat) (A : Option Addr) (h : (if c = k then A else A.map (·.add k)) = some a) : ∃ a0, A = some a0 ∧ a.block = a0.block := by
    split at h
    · exact ⟨a, h, rfl⟩
    · cases A with
      | none => cases h
      | some a0 =>
        injection h with h
        exact ⟨a0, rfl, by rw [← h]; exact add_block a0 k⟩
theorem step_w {at0 : Nat} {xs : List UInt8} {n j : Nat} {D D' : Dk} {cd : Nat} (hj : j < n) (h1 : cd = D.writeC ((at0 + j : Nat) : Int) (Sl.row xs j)) (h2 : D' = D.write ((at0 + j : Nat) : Int) (Sl.row xs j)) : Sl.writes at0 xs (n - j) j D = (if cd = 0 then Sl.writes at0 xs (n - (j + 1)) (j + 1) D' else (cd, D')) := by
  rw [show n - j = (n - (j + 1)) + 1 by omega, Sl.writes, ← h1, ← h2]
set_option maxHeartbeats 16000000 in
theorem write_area (N : Nat) (w : World) (s gd : Nat) (D : Dk) (Z : Sl) (F S : Nat → Prop) (tk : Kn N w gd D F) (ts : Sz N w s gd Z S) (hFS : ∀ b, F b → ¬ S b) (zo : Z.Ok D) (a : Nat) (ha : a < 2) (A : Option Addr) (m c : Nat) (xs : List UInt8) (hr : Rd w A m c xs) (hm : m = 64 * Z.n) (hap : ∀ x, 0 < m → A = some x → ¬ F x.block) (hc : D.cnt < 1099511627000) :
    Calls Tryz.prog 57 #[.pointer (some ⟨s, 0, none⟩), .int .i64 (a : Int), .slice A m c] w (PostW N F gd w (Sl.writes (Z.first + a * Z.n) xs Z.n 0 D)) := by
  obtain ⟨n, hn⟩ : ∃ n, n = Z.n := ⟨_, rfl⟩
  obtain ⟨f, hf⟩ : ∃ f, f = Z.first := ⟨_, rfl⟩
  have h8 := zo.most
  have h1 := zo.one
  have hfit := zo.fits
  have hmost := tk.ok.most
  rw [← hn] at h8 h1 hfit hm
  rw [← hf] at hfit
  rw [← hn, ← hf]
  obtain ⟨at0, hat⟩ : ∃ at0, at0 = f + a * n := ⟨_, rfl⟩
  rw [← hat]
  have HA0 := Lib.hid (show at0 + n ≤ D.sure.length from by rw [hat]; exact area_at ha hfit (Nat.le_refl _))
  have SEC := Lib.hid (show ∀ X (j : Nat), Sz N X s gd Z S → j < n → Calls Tryz.prog 82 #[.pointer (some ⟨s, 0, none⟩), .int .i64 (a : Int), .int .i64 (j : Int)] X fun e w' => e = .returned (.int .i64 ((at0 + j : Nat) : Int)) ∧ Below X.heap.size X w' from fun X j hX hj => by
    rw [hat]
    exact sector_any N X s gd Z S hX f n a j hf.symm hn.symm (by omega) ha hj h8)
  have AR := Lib.hid (show ∀ (j : Nat) X, j ≤ 8 → Calls Tryz.prog 79 #[.int .i64 (j : Int)] X fun e w' => e = .returned (.int .i64 ((64 * j : Nat) : Int)) ∧ X = w' from fun j X hj => area_any j (by omega) X)
  have CS := Lib.hid (show ∀ X, Sz N X s gd Z S → X.cell? ⟨s, 0, none⟩ = some (.pointer (some ⟨gd, 0, none⟩)) ∧ X.cell? ⟨s, 2, none⟩ = some (.int .i64 (n : Int)) from fun X hX => by
    rw [hn]
    exact ⟨hX.cells.1, hX.cells.2.2.1⟩)
  have TS := Lib.hid ts
  have TK := Lib.hid tk
  have HR := Lib.hid hr
  have HAP := Lib.hid (show ∀ x, 0 < m → A = some x → ¬ F x.block ∧ x.block < w.heap.size from fun x h1 h2 => ⟨hap x h1 h2, by
    obtain ⟨b, off, e, hb, _⟩ := hr.at_ h1
    rw [h2] at e
    injection e with e
    rw [e]
    exact hb⟩)
  have HFS := Lib.hid hFS
  have HM := Lib.hid (show m = 64 * n ∧ m ≤ c ∧ 1 ≤ n ∧ n ≤ 8 ∧ D.cnt < 1099511627000 from ⟨hm, hr.cap, h1, h8, hc⟩)
  obtain ⟨c0, c2⟩ := CS.out w ts
  have HN := Lib.hid (show N ≤ w.heap.size from by have := ts.sz; omega)
  clear hn hf h8 h1 hfit hmost hat tk ts hFS zo ha hr hm hap hc
  go_enter Tryz.func57, Tryz.ntmps57
  go_wp2_with (fail)
  go_loopw [11] (fun i wr => ∃ (j : Nat) (Dj : Dk) (Fj : Nat → Prop), j ≤ n ∧ i = .int .i64 (j : Int) ∧ Kn N wr gd Dj Fj ∧ Sl.writes at0 xs (n - j) j Dj = Sl.writes at0 xs n 0 D ∧ (∀ b, Fj b → F b ∨ w.heap.size ≤ b) ∧ Mv N F w wr ∧ Dj.cnt ≤ D.cnt + j ∧ Dj.sure.length = D.sure.length) (fun i _ => n - (intOf i).toNat)
  case atStart => exact ⟨0, D, F, Nat.zero_le _, rfl, TK.out, rfl, fun b hb => .inl hb, Mv.refl _ _ _, Nat.le_refl _, rfl⟩
  case round =>
    obtain ⟨j, Dj, Fj, hj, rfl, hK, hW, hF, hM, hcn, hsl⟩ := hrel
    clear c0 c2
    have SZ := Lib.hid (TS.out.mv hM HFS.out)
    have KR := Lib.hid hK
    have WR := Lib.hid hW
    have FR := Lib.hid hF
    have MR := Lib.hid hM
    have CR := Lib.hid hcn
    have LR := Lib.hid hsl
    clear hK hW hF hM hcn hsl
    by_cases hlt : j < n
    · have t0 : (j : Int) < (n : Int) := by omega
      obtain ⟨aj, haj⟩ : ∃ aj, aj = at0 + j := ⟨_, rfl⟩
      obtain ⟨lj, hlj⟩ : ∃ lj, lj = 64 * j := ⟨_, rfl⟩
      obtain ⟨lk, hlk⟩ : ∃ lk, lk = 64 * (j + 1) := ⟨_, rfl⟩
      obtain ⟨j1, hj1⟩ : ∃ j1, j1 = j + 1 := ⟨_, rfl⟩
      obtain ⟨xj, hxj⟩ : ∃ xj, xj = Sl.row xs j := ⟨_, rfl⟩
      obtain ⟨Aj, hAj⟩ : ∃ Aj, Aj = if c = lj then A else A.map (·.add lj) := ⟨_, rfl⟩
      have b1 : lj + 64 ≤ m := by have := HM.out; omega
      have b2 : lj + 64 ≤ c := by have := HM.out; omega
      have b3 : j1 ≤ 1000000 := by have := HM.out; omega
      have b4 : 0 < m := by omega
      have P1 : ∀ W, (Instr.slice 23 (.slice A m c) (some (.int .i64 (lj : Int))) (some (.int .i64 (lk : Int))) none).run Tryz.prog W = .ok (.slice Aj 64 (c - lj)) W := fun W => by rw [hAj]; exact run_cutSlLH (l' := lj) (m := 64) rfl (by omega) b2 W
      have P2 : ∀ W, (Instr.sliceAt 23 (.slice A m c) (some (.int .i64 (lj : Int))) (some (.int .i64 (lk : Int))) none).run Tryz.prog W = .ok (.slice Aj 64 (c - lj)) W := fun W => by rw [hAj]; exact run_cutSlLHAt (l' := lj) (m := 64) rfl (by omega) b2 W
      have RWR := MR.out.rd HR.out (fun x h1 h2 => (HAP.out x h1 h2).1)
      have RJ := Lib.hid (show Rd wr Aj 64 (c - lj) xj by rw [hxj, hAj, Sl.row, ← hlj]; exact (RWR.cut (k := lj) (by omega)).take (by omega))
      have RJA := Lib.hid (show ∀ x, 0 < 64 → Aj = some x → ¬ Fj x.block from fun x _ hx hFj => by
        rw [hAj] at hx
        obtain ⟨y, h1, h2⟩ := two_add A c lj x hx
        obtain ⟨e1, e2⟩ := HAP.out y b4 h1
        rcases FR.out _ hFj with e | e
        · exact e1 (by rw [h2]; exact e)
        · omega)
      obtain ⟨cd, hcd⟩ : ∃ cd, cd = Dj.writeC (aj : Int) xj := ⟨_, rfl⟩
      obtain ⟨Dn, hDn⟩ : ∃ Dn, Dn = Dj.write (aj : Int) xj := ⟨_, rfl⟩
      have HCN := Lib.hid (show Dn.cnt ≤ D.cnt + j1 by have h := Dk.write_cnt Dj (aj : Int) xj; rw [← hDn] at h; have := CR.out; omega)
      have HSL := Lib.hid (show Dn.sure.length = D.sure.length by rw [hDn, Sk_write_sure]; exact LR.out)
      have hcnt : Dj.cnt < 1099511627776 := cnt_of CR.out HM.out.2.2.2.2 hlt HM.out.2.2.2.1
      have WRC := Lib.hid (show ∀ X, Below wr.heap.size wr X → Calls Tryz.prog 85 #[.pointer (some ⟨gd, 0, none⟩), .int .i64 (aj : Int), .slice Aj 64 (c - lj)] X (Post Kn N Fj gd X Dn (.int .i64 (cd : Int))) from fun X hX => by
        rw [hcd, hDn]
        exact write_any N X gd Dj Fj (aj : Int) Aj 64 (c - lj) xj (KR.out.below hX) (RJ.out.below hX) RJA.out hcnt)
      have STEP := Lib.hid (show Sl.writes at0 xs n 0 D = (if cd = 0 then Sl.writes at0 xs (n - j1) j1 Dn else (cd, Dn)) by
        rw [← WR.out, hj1]
        exact step_w hlt (by rw [hcd, haj, hxj]) (by rw [hDn, haj, hxj]))
      have SJ := Lib.hid (show ∀ X, Below wr.heap.size wr X → Calls Tryz.prog 82 #[.pointer (some ⟨s, 0, none⟩), .int .i64 (a : Int), .int .i64 (j : Int)] X fun e w' => e = .returned (.int .i64 (aj : Int)) ∧ Below X.heap.size X w' from fun X hX => by rw [haj]; exact SEC.out X j (SZ.out.grow hX) hlt)
      have A1 := Lib.hid (show ∀ X, Calls Tryz.prog 79 #[.int .i64 (j : Int)] X fun e w' => e = .returned (.int .i64 (lj : Int)) ∧ X = w' from fun X => by rw [hlj]; exact AR.out j X (by have := HM.out; omega))
      have A2 := Lib.hid (show ∀ X, Calls Tryz.prog 79 #[.int .i64 (j1 : Int)] X fun e w' => e = .returned (.int .i64 (lk : Int)) ∧ X = w' from fun X => by rw [hlk, hj1]; exact AR.out (j + 1) X (by have := HM.out; omega))
      have J1 := Lib.hid (show (j : Int) + 1 = (j1 : Int) ∧ wrap64 (j1 : Int) = (j1 : Int) ∧ IntKind.i64.wrap (j1 : Int) = (j1 : Int) from ⟨by rw [hj1]; rfl, (wrap_nat j1 b3).1, (wrap_nat j1 b3).2⟩)
      have GD := Lib.hid (Below.refl wr.heap.size wr).drew
      have HLT := Lib.hid (show j1 ≤ n ∧ n - j1 < n - j from ⟨by omega, by omega⟩)
      have CJ := Lib.hid (show ∀ X, Below wr.heap.size wr X → X.cell? ⟨s, 0, none⟩ = some (.pointer (some ⟨gd, 0, none⟩)) from fun X hX => (CS.out X (SZ.out.grow hX)).1)
      have WJ := Lib.hid (show wrap64 ((j : Int) + 1) = (j1 : Int) from by rw [J1.out.1]; exact J1.out.2.1)
      have HJ1 := Lib.hid hj1
      clear haj hlj hlk hxj hAj b1 b2 b3 b4 RWR hcd hDn hcnt hlt hj hj1
      by_cases hcd0 : cd = 0
      · subst hcd0
        have DN := Lib.hid (show ∀ X, Calls Tryz.prog 59 #[.int .i64 ((0 : Nat) : Int)] X fun e w' => e = .returned (.tuple #[]) ∧ X = w' from fun X => done_any 0 X)
        have ST := Lib.hid (STEP.out.trans (if_pos rfl))
        go_upto_region 3 with (fail)
        refine wp_region_held_drew (S := fun X => X.cell? ⟨s, 0, none⟩ = some (.pointer (some ⟨gd, 0, none⟩))) (by kernel_rfl) (CJ.out _ GD.out) (fun sx => ?_)
        have SX := Lib.hid sx
        clear sx
        refine RD.h_take 0 (.pointer (some ⟨s, 0, none⟩)) rfl (by kernel_rfl) (by kernel_rfl) (by kernel_rfl) (fun _ _ _ h => h) (by rfl) SX.out (fun X hX => ?_) ?_
        · go_simp
        simp only [Act.put, List.setIfInBounds_toArray, List.set_cons_zero, List.set_cons_succ]
        refine RD.h_take 1 (.pointer (some ⟨s, 0, none⟩)) rfl (by kernel_rfl) (by kernel_rfl) (by kernel_rfl) (fun _ _ _ h => h) (by rfl) SX.out (fun X hX => ?_) ?_
        · go_simp
        simp only [Act.put, List.setIfInBounds_toArray, List.set_cons_zero, List.set_cons_succ]
        refine RD.h_take 2 (.pointer (some ⟨s, 0, none⟩)) rfl (by kernel_rfl) (by kernel_rfl) (by kernel_rfl) (fun _ _ _ h => h) (by rfl) SX.out (fun X hX => ?_) ?_
        · go_simp
        simp only [Act.put, List.setIfInBounds_toArray, List.set_cons_zero, List.set_cons_succ]
        refine RD.h_take 3 (.pointer (some ⟨gd, 0, none⟩)) rfl (by kernel_rfl) (by kernel_rfl) (by kernel_rfl) (fun _ _ _ h => h) (by rfl) SX.out (fun X hX => ?_) ?_
        · go_simp
        simp only [Act.put, List.setIfInBounds_toArray, List.set_cons_zero, List.set_cons_succ]
        refine RD.h_take 4 (.pointer (some ⟨s, 0, none⟩)) rfl (by kernel_rfl) (by kernel_rfl) (by kernel_rfl) (fun _ _ _ h => h) (by rfl) SX.out (fun X hX => ?_) ?_
        · go_simp
        simp only [Act.put, List.setIfInBounds_toArray, List.set_cons_zero, List.set_cons_succ]
        refine RD.h_take 5 (.int .i64 (a : Int)) rfl (by kernel_rfl) (by kernel_rfl) (by kernel_rfl) (fun _ _ _ h => h) (by rfl) SX.out (fun X hX => ?_) ?_
        · go_simp
        simp only [Act.put, List.setIfInBounds_toArray, List.set_cons_zero, List.set_cons_succ]
        refine RD.h_take 6 (.int .i64 (j : Int)) rfl (by kernel_rfl) (by kernel_rfl) (by kernel_rfl) (fun _ _ _ h => h) (by rfl) SX.out (fun X hX => ?_) ?_
        · go_simp
        simp only [Act.put, List.setIfInBounds_toArray, List.set_cons_zero, List.set_cons_succ]
        refine RD.h_take 8 (.slice A m c) rfl (by kernel_rfl) (by kernel_rfl) (by kernel_rfl) (fun _ _ _ h => h) (by rfl) SX.out (fun X hX => ?_) ?_
        · go_simp
        simp only [Act.put, List.setIfInBounds_toArray, List.set_cons_zero, List.set_cons_succ]
        refine RD.h_take 9 (.int .i64 (j : Int)) rfl (by kernel_rfl) (by kernel_rfl) (by kernel_rfl) (fun _ _ _ h => h) (by rfl) SX.out (fun X hX => ?_) ?_
        · go_simp
        simp only [Act.put, List.setIfInBounds_toArray, List.set_cons_zero, List.set_cons_succ]
        refine RD.h_take 11 (.int .i64 (j : Int)) rfl (by kernel_rfl) (by kernel_rfl) (by kernel_rfl) (fun _ _ _ h => h) (by rfl) SX.out (fun X hX => ?_) ?_
        · go_simp
        simp only [Act.put, List.setIfInBounds_toArray, List.set_cons_zero, List.set_cons_succ]
        refine RD.h_take 12 (.int .i64 (j1 : Int)) rfl (by kernel_rfl) (by kernel_rfl) (by kernel_rfl) (fun _ _ _ h => h) (by rfl) SX.out (fun X hX => ?_) ?_
        · obtain ⟨i1, i2, i3⟩ := J1.out; go_simp
        simp only [Act.put, List.setIfInBounds_toArray, List.set_cons_zero, List.set_cons_succ]
        refine RD.h_any [7] (by kernel_rfl) (by simp) (RD.one_of ?_)
        refine RD.h_call 82 #[.pointer (some ⟨s, 0, none⟩), .int .i64 (a : Int), .int .i64 (j : Int)] rfl (by rfl) (by go_simp) ((SJ.out _ GD.out).mono ?_)
        rintro e X1 ⟨rfl, b1⟩
        have G1 := Lib.hid (GD.out.trans (b1.mono GD.out.size))
        clear b1
        refine ⟨_, rfl, CJ.out _ G1.out, ?_⟩
        simp only [Act.put, List.setIfInBounds_toArray, List.set_cons_zero, List.set_cons_succ]
        refine RD.h_any [10] (by kernel_rfl) (by simp) (RD.one_of ?_)
        refine RD.h_call 79 #[.int .i64 (j : Int)] rfl (by rfl) (by go_simp) ((A1.out _).mono ?_)
        rintro e X2 ⟨rfl, rfl⟩
        refine ⟨_, rfl, CJ.out _ G1.out, ?_⟩
        simp only [Act.put, List.setIfInBounds_toArray, List.set_cons_zero, List.set_cons_succ]
        refine RD.h_any [13] (by kernel_rfl) (by simp) (RD.one_of ?_)
        refine RD.h_call 79 #[.int .i64 (j1 : Int)] rfl (by rfl) (by go_simp) ((A2.out _).mono ?_)
        rintro e X2 ⟨rfl, rfl⟩
        refine ⟨_, rfl, CJ.out _ G1.out, ?_⟩
        simp only [Act.put, List.setIfInBounds_toArray, List.set_cons_zero, List.set_cons_succ]
        refine RD.h_take 14 (.slice Aj 64 (c - lj)) rfl (by kernel_rfl) (by kernel_rfl) (by kernel_rfl) (fun _ _ _ h => h) (by rfl) (CJ.out _ G1.out) (fun X hX => ?_) ?_
        · go_simp
        simp only [Act.put, List.setIfInBounds_toArray, List.set_cons_zero, List.set_cons_succ]
        refine RD.h_any [15] (by kernel_rfl) (by simp) (RD.one_of ?_)
        refine RD.h_call 85 #[.pointer (some ⟨gd, 0, none⟩), .int .i64 (aj : Int), .slice Aj 64 (c - lj)] rfl (by rfl) (by go_simp) ((WRC.out _ G1.out).mono ?_)
        rintro e X3 ⟨rfl, F7, k7, s7, m7⟩
        have K7 := Lib.hid k7
        have M7 := Lib.hid (show Mv N F w X3 from (MR.out.trans (Mv.of (F := Fj) (Nat.le_trans HN.out MR.out.size) G1.out) FR.out).trans m7 (fun b hb => FR.out b hb))
        have F7S := Lib.hid (show ∀ b, F7 b → F b ∨ w.heap.size ≤ b from fun b hb => (s7 b hb).elim (FR.out b) (fun h => .inr (Nat.le_trans MR.out.size (Nat.le_trans G1.out.size h))))
        have S7 := Lib.hid ((CS.out _ (TS.out.mv M7.out HFS.out)).1)
        clear k7 s7 m7
        refine ⟨_, rfl, S7.out, ?_⟩
        simp only [Act.put, List.setIfInBounds_toArray, List.set_cons_zero, List.set_cons_succ]
        refine RD.h_any [16] (by kernel_rfl) (by simp) (RD.one_of ?_)
        refine RD.h_call 59 #[.int .i64 ((0 : Nat) : Int)] rfl (by rfl) (by go_simp) ((DN.out _).mono ?_)
        rintro e X4 ⟨rfl, rfl⟩
        refine ⟨_, rfl, S7.out, ?_⟩
        simp only [Act.put, List.setIfInBounds_toArray, List.set_cons_zero, List.set_cons_succ]
        refine RD.h_done (by kernel_rfl) ?_
        simp only [Exit.inBlock, Exit.then]
        go_wp2_with (fail)
        go_roundw
        case rel => exact ⟨j1, Dn, F7, HLT.out.1, by first | rw [WJ.out] | go_num, K7.out, ST.out.symm, F7S.out, M7.out, HCN.out, HSL.out⟩
        case measure =>
          have h9 := HLT.out.2
          have e9 := WJ.out
          rw [HJ1.out] at h9 e9
          exact meas_of e9 h9
      · have DN := Lib.hid (show ∀ X, Calls Tryz.prog 59 #[.int .i64 (cd : Int)] X fun e w' => e = .panicked [LV.wrg (cd : Int)] ∧ X = w' from fun X => (done_any cd X).mono fun e w' ⟨h1, h2⟩ => ⟨by rw [h1, stepE, if_neg hcd0], h2⟩)
        have ST := Lib.hid (STEP.out.trans (if_neg hcd0))
        have EC := Lib.hid (show Ending.panicked [LV.wrg (cd : Int)] = stepE cd from by rw [stepE, if_neg hcd0])
        clear hcd0
        go_upto_region 3 with (fail)
        refine wp_region_held_drew (S := fun X => X.cell? ⟨s, 0, none⟩ = some (.pointer (some ⟨gd, 0, none⟩))) (by kernel_rfl) (CJ.out _ GD.out) (fun sx => ?_)
        have SX := Lib.hid sx
        clear sx
        refine RD.h_take 0 (.pointer (some ⟨s, 0, none⟩)) rfl (by kernel_rfl) (by kernel_rfl) (by kernel_rfl) (fun _ _ _ h => h) (by rfl) SX.out (fun X hX => ?_) ?_
        · go_simp
        simp only [Act.put, List.setIfInBounds_toArray, List.set_cons_zero, List.set_cons_succ]
        refine RD.h_take 1 (.pointer (some ⟨s, 0, none⟩)) rfl (by kernel_rfl) (by kernel_rfl) (by kernel_rfl) (fun _ _ _ h => h) (by rfl) SX.out (fun X hX => ?_) ?_
        · go_simp
        simp only [Act.put, List.setIfInBounds_toArray, List.set_cons_zero, List.set_cons_succ]
        refine RD.h_take 2 (.pointer (some ⟨s, 0, none⟩)) rfl (by kernel_rfl) (by kernel_rfl) (by kernel_rfl) (fun _ _ _ h => h) (by rfl) SX.out (fun X hX => ?_) ?_
        · go_simp
        simp only [Act.put, List.setIfInBounds_toArray, List.set_cons_zero, List.set_cons_succ]
        refine RD.h_take 3 (.pointer (some ⟨gd, 0, none⟩)) rfl (by kernel_rfl) (by kernel_rfl) (by kernel_rfl) (fun _ _ _ h => h) (by rfl) SX.out (fun X hX => ?_) ?_
        · go_simp
        simp only [Act.put, List.setIfInBounds_toArray, List.set_cons_zero, List.set_cons_succ]
        refine RD.h_take 4 (.pointer (some ⟨s, 0, none⟩)) rfl (by kernel_rfl) (by kernel_rfl) (by kernel_rfl) (fun _ _ _ h => h) (by rfl) SX.out (fun X hX => ?_) ?_
        · go_simp
        simp only [Act.put, List.setIfInBounds_toArray, List.set_cons_zero, List.set_cons_succ]
        refine RD.h_take 5 (.int .i64 (a : Int)) rfl (by kernel_rfl) (by kernel_rfl) (by kernel_rfl) (fun _ _ _ h => h) (by rfl) SX.out (fun X hX => ?_) ?_
        · go_simp
        simp only [Act.put, List.setIfInBounds_toArray, List.set_cons_zero, List.set_cons_succ]
        refine RD.h_take 6 (.int .i64 (j : Int)) rfl (by kernel_rfl) (by kernel_rfl) (by kernel_rfl) (fun _ _ _ h => h) (by rfl) SX.out (fun X hX => ?_) ?_
        · go_simp
        simp only [Act.put, List.setIfInBounds_toArray, List.set_cons_zero, List.set_cons_succ]
        refine RD.h_take 8 (.slice A m c) rfl (by kernel_rfl) (by kernel_rfl) (by kernel_rfl) (fun _ _ _ h => h) (by rfl) SX.out (fun X hX => ?_) ?_
        · go_simp
        simp only [Act.put, List.setIfInBounds_toArray, List.set_cons_zero, List.set_cons_succ]
        refine RD.h_take 9 (.int .i64 (j : Int)) rfl (by kernel_rfl) (by kernel_rfl) (by kernel_rfl) (fun _ _ _ h => h) (by rfl) SX.out (fun X hX => ?_) ?_
        · go_simp
        simp only [Act.put, List.setIfInBounds_toArray, List.set_cons_zero, List.set_cons_succ]
        refine RD.h_take 11 (.int .i64 (j : Int)) rfl (by kernel_rfl) (by kernel_rfl) (by kernel_rfl) (fun _ _ _ h => h) (by rfl) SX.out (fun X hX => ?_) ?_
        · go_simp
        simp only [Act.put, List.setIfInBounds_toArray, List.set_cons_zero, List.set_cons_succ]
        refine RD.h_take 12 (.int .i64 (j1 : Int)) rfl (by kernel_rfl) (by kernel_rfl) (by kernel_rfl) (fun _ _ _ h => h) (by rfl) SX.out (fun X hX => ?_) ?_
        · obtain ⟨i1, i2, i3⟩ := J1.out; go_simp
        simp only [Act.put, List.setIfInBounds_toArray, List.set_cons_zero, List.set_cons_succ]
        refine RD.h_any [7] (by kernel_rfl) (by simp) (RD.one_of ?_)
        refine RD.h_call 82 #[.pointer (some ⟨s, 0, none⟩), .int .i64 (a : Int), .int .i64 (j : Int)] rfl (by rfl) (by go_simp) ((SJ.out _ GD.out).mono ?_)
        rintro e X1 ⟨rfl, b1⟩
        have G1 := Lib.hid (GD.out.trans (b1.mono GD.out.size))
        clear b1
        refine ⟨_, rfl, CJ.out _ G1.out, ?_⟩
        simp only [Act.put, List.setIfInBounds_toArray, List.set_cons_zero, List.set_cons_succ]
        refine RD.h_any [10] (by kernel_rfl) (by simp) (RD.one_of ?_)
        refine RD.h_call 79 #[.int .i64 (j : Int)] rfl (by rfl) (by go_simp) ((A1.out _).mono ?_)
        rintro e X2 ⟨rfl, rfl⟩
        refine ⟨_, rfl, CJ.out _ G1.out, ?_⟩
        simp only [Act.put, List.setIfInBounds_toArray, List.set_cons_zero, List.set_cons_succ]
        refine RD.h_any [13] (by kernel_rfl) (by simp) (RD.one_of ?_)
        refine RD.h_call 79 #[.int .i64 (j1 : Int)] rfl (by rfl) (by go_simp) ((A2.out _).mono ?_)
        rintro e X2 ⟨rfl, rfl⟩
        refine ⟨_, rfl, CJ.out _ G1.out, ?_⟩
        simp only [Act.put, List.setIfInBounds_toArray, List.set_cons_zero, List.set_cons_succ]
        refine RD.h_take 14 (.slice Aj 64 (c - lj)) rfl (by kernel_rfl) (by kernel_rfl) (by kernel_rfl) (fun _ _ _ h => h) (by rfl) (CJ.out _ G1.out) (fun X hX => ?_) ?_
        · go_simp
        simp only [Act.put, List.setIfInBounds_toArray, List.set_cons_zero, List.set_cons_succ]
        refine RD.h_any [15] (by kernel_rfl) (by simp) (RD.one_of ?_)
        refine RD.h_call 85 #[.pointer (some ⟨gd, 0, none⟩), .int .i64 (aj : Int), .slice Aj 64 (c - lj)] rfl (by rfl) (by go_simp) ((WRC.out _ G1.out).mono ?_)
        rintro e X3 ⟨rfl, F7, k7, s7, m7⟩
        have K7 := Lib.hid k7
        have M7 := Lib.hid (show Mv N F w X3 from (MR.out.trans (Mv.of (F := Fj) (Nat.le_trans HN.out MR.out.size) G1.out) FR.out).trans m7 (fun b hb => FR.out b hb))
        have F7S := Lib.hid (show ∀ b, F7 b → F b ∨ w.heap.size ≤ b from fun b hb => (s7 b hb).elim (FR.out b) (fun h => .inr (Nat.le_trans MR.out.size (Nat.le_trans G1.out.size h))))
        have S7 := Lib.hid ((CS.out _ (TS.out.mv M7.out HFS.out)).1)
        clear k7 s7 m7
        refine ⟨_, rfl, S7.out, ?_⟩
        simp only [Act.put, List.setIfInBounds_toArray, List.set_cons_zero, List.set_cons_succ]
        refine RD.h_any [16] (by kernel_rfl) (by simp) (RD.one_of ?_)
        refine h_panic 59 #[.int .i64 (cd : Int)] rfl (by rfl) (by go_simp) ((DN.out _).mono ?_)
        rintro e X4 ⟨rfl, rfl⟩
        refine ⟨_, rfl, rfl, ?_⟩
        rw [ST.out]
        exact ⟨EC.out, F7, K7.out, F7S.out, M7.out⟩
    · obtain rfl : j = n := by omega
      have t0 : ¬ (j : Int) < (j : Int) := by omega
      have hw := WR.out
      have e0 : Sl.writes at0 xs (j - j) j Dj = (0, Dj) := by rw [Nat.sub_self]; rfl
      rw [e0] at hw
      have E0 := Lib.hid hw
      clear hw e0
      go_wp2_with (fail)
      go_end0
      rw [← E0.out]
      exact ⟨rfl, Fj, KR.out, FR.out, MR.out⟩
end Go.Proofs.YtnoflgkjdibblaaGreatDoor.S20
