/-
  The walk of layer 19's fifth statement, over the contracts. No statement is proved here. (Written by gendk3.py.)
-/
import Derived.Test.YtammgingmkdfhaaDk5
import Derived.Test.YtammgingmkdfhaaRnd
namespace Go.Proofs.Ytammgingmkdfhaa.S19
set_option linter.unusedSimpArgs false
set_option linter.unusedVariables false
set_option maxRecDepth 4096
open Go.RowKit

/-- Is a number among the first ones? -/
def inF (fs : List Int) (i : Nat) (k : Int) : Bool := decide (k ∈ fs.take i)
theorem inF_zero (fs : List Int) (k : Int) : inF fs 0 k = false := by simp [inF]
theorem inF_succ (fs : List Int) (i : Nat) (k : Int) (hi : i < fs.length) : inF fs (i + 1) k = (inF fs i k || (fs.getD i 0 == k)) := by
  unfold inF
  have e : fs.getD i 0 = fs[i] := by simp [List.getD, hi]
  have e2 : fs.take (i + 1) = fs.take i ++ [fs[i]] := by simp
  have e3 : (k ∈ fs.take (i + 1)) ↔ (k ∈ fs.take i ∨ k = fs[i]) := by rw [e2, List.mem_append, List.mem_singleton]
  rw [e, Bool.eq_iff_iff]
  simp only [decide_eq_true_eq, Bool.or_eq_true, beq_iff_eq]
  rw [e3]
  constructor
  · rintro (h | h)
    · exact .inl h
    · exact .inr h.symm
  · rintro (h | h)
    · exact .inl h
    · exact .inr h.symm
theorem inF_all (fs : List Int) (k : Int) : inF fs fs.length k = decide (k ∈ fs) := by simp [inF]
structure Fl (fs : List Int) (k p : Nat) (D : Dk) : Prop where
  ok : D.Ok
  len : D.sure.length = 2
  off : D.off = false
  stop : D.stop = 0
  fails : D.fails = fs
  cnt : D.cnt = k
  pend : D.pend.length = p
theorem Fl.start (fs : List Int) : Fl fs 0 0 ((Dk.new 2).plan fs 0) := ⟨Dk.plan_ok (Dk.new_ok (by omega) (by omega)) _ _, rfl, rfl, rfl, rfl, rfl, rfl⟩
theorem Fl.write {fs : List Int} {k p : Nat} {D : Dk} (h : Fl fs k p D) (i : Nat) (hi : i < 2) (b : List UInt8) (hb : b.length = 64) :
    D.writeC i b = (if ((k : Int) + 1) ∈ fs then 7 else 0) ∧ Fl fs (k + 1) (if ((k : Int) + 1) ∈ fs then p else p + 1) (D.write i b) := by
  have h9 : D.has i := by unfold Dk.has; rw [h.len]; omega
  have hs : D.stepC = if ((k : Int) + 1) ∈ fs then 7 else 0 := by
    unfold Dk.stepC
    rw [h.off, h.stop, h.cnt, h.fails, if_neg (by simp), if_neg (by omega)]
  have hst : D.step = { D with cnt := D.cnt + 1 } := by
    unfold Dk.step
    rw [if_neg (by rw [h.stop]; omega)]
  have ho := Dk.write_ok h.ok i b
  refine ⟨?_, ?_⟩
  · unfold Dk.writeC
    rw [h.off, if_neg (by simp), if_pos ⟨h9, hb⟩, hs]
  · by_cases hm : ((k : Int) + 1) ∈ fs
    · rw [if_pos hm] at hs ⊢
      have hw : D.write i b = D.step := by
        unfold Dk.write
        rw [h.off, if_neg (by simp), if_pos ⟨h9, hb⟩, if_neg (by rw [hs]; omega)]
      rw [hw, hst] at ho ⊢
      exact ⟨ho, h.len, h.off, h.stop, h.fails, by simp [h.cnt], h.pend⟩
    · rw [if_neg hm] at hs ⊢
      have hw : D.write i b = { D.step with pend := D.pend ++ [((i : Int).toNat, b)] } := by
        unfold Dk.write
        rw [h.off, if_neg (by simp), if_pos ⟨h9, hb⟩, if_pos hs]
      rw [hw, hst] at ho ⊢
      exact ⟨ho, h.len, h.off, h.stop, h.fails, by simp [h.cnt], by simp [h.pend]⟩
set_option maxHeartbeats 8000000 in
theorem diskFails_walk (M : DC) (w : World) (hk : M.ok w) (A : Option Addr) (nf cf : Nat) (fs : List Int) (hf : RI w .i8 A nf cf fs) (hb8 : ∀ z ∈ fs, -128 ≤ z ∧ z < 128) (nn : Nat) (hnn : nn < 256) : Calls Try.prog 7 #[.slice A nf cf, .int .u8 (nn : Int)] w fun e w' => e = .returned (.bool true) ∧ Below w.heap.size w w' := by
  have HK := Lib.hid hk
  obtain ⟨N, hN⟩ : ∃ N, w.heap.size = N := ⟨_, rfl⟩
  have OKN := Lib.hid (show ∀ X, Below N w X → M.ok X from fun X hX => M.bel hk (by rw [hN]; exact hX))
  have C1 := Lib.hid (show ∀ X, Below N w X → Calls Try.prog 9 #[.int .i64 2] X fun e w' => ∃ g F, e = .returned (.tuple #[.pointer (some ⟨g, 0, none⟩), .int .i64 0]) ∧ M.Is N w' g (Dk.new 2) F ∧ (∀ b, F b → X.heap.size ≤ b) ∧ Below X.heap.size X w' from fun X hX => M.new N X 2 (OKN.out X hX) (by rw [← hN]; exact hX.size) (by omega) (by omega))
  have C2 := Lib.hid (show ∀ X g F A n c fs, Below N w X → M.Is N X g (Dk.new 2) F → RI X .i64 A n c fs → n ≤ 20 → Calls Try.prog 21 #[.pointer (some ⟨g, 0, none⟩), .agg #[.slice A n c, .int .i64 0]] X fun e w' => e = .returned (.tuple #[]) ∧ ∃ F', M.Is N w' g ((Dk.new 2).plan fs 0) F' ∧ Mv N F X w' from fun X g F A n c fs hX hI hR h20 => (M.plan N X g (Dk.new 2) F A n c fs 0 (OKN.out X hX) hI hR (Nat.le_trans h20 (by decide))).mono (by
    rintro e w' ⟨h1, F', h2, h3, h4⟩
    exact ⟨h1, F', h2, h4⟩))
  have RF := Lib.hid (show ∀ X, Below N w X → RI X .i8 A nf cf fs from fun X hX => hf.below (by rw [hN]; exact hX))
  have HL := Lib.hid hf.len
  have HB8 := Lib.hid hb8
  have hN0 := Lib.hid hN
  have BN := Lib.hid (show ∀ X Y, Below N w X → Below X.heap.size X Y → Below N w Y from fun X Y h h' => h.trans (h'.mono (by have := h.size; omega)))
  obtain ⟨r, hr⟩ : ∃ r, r = nn % 40 := ⟨_, rfl⟩
  have rB : r < 40 := by rw [hr]; exact Nat.mod_lt _ (by omega)
  have f1' : (nn : Int) % 40 = (r : Int) := by rw [hr]; simp
  have f1 : (nn : Int).tmod 40 = (r : Int) := by rw [Int.tmod_eq_emod_of_nonneg (Int.natCast_nonneg nn), f1']
  clear hk hf hb8 hr
  by_cases h20 : 20 < nf
  · have u1 : (20 : Int) < (nf : Int) := by omega
    clear h20 f1 f1'
    go_enter Try.func7, Try.ntmps7
    go_wp2_with (go_at_call 8; ((with_reducible refine (awake_any M w HK.out).mono ?_); rintro e w1 ⟨rfl, b1⟩; have B1 := Lib.hid b1; clear b1))
    go_ret
    exact ⟨rfl, by rw [hN0.out]; rw [← hN0.out]; exact B1.out⟩
  have u1 : ¬ (20 : Int) < (nf : Int) := by omega
  have u2 : nf ≤ 20 := by omega
  have U20 := Lib.hid u2
  clear h20
  have U2 := Lib.hid u2
  go_enter Try.func7, Try.ntmps7
  go_upto_region 9 with (first
    | (go_at_call 8; ((with_reducible refine (awake_any M w HK.out).mono ?_); rintro e w1 ⟨rfl, b1⟩; have B1 := Lib.hid (b1.mono (Nat.le_of_eq hN0.out.symm)); clear b1))
    | (go_at_call 9; ((with_reducible refine (C1.out _ B1.out).mono ?_); rintro e w2 ⟨g, F2, rfl, i2, s2, b2⟩; have I2 := Lib.hid i2; have B2 := Lib.hid (BN.out _ _ B1.out b2); clear i2 s2 b2)))
  obtain ⟨P, hP⟩ : ∃ P, w2.heap.size = P := ⟨_, rfl⟩
  obtain ⟨w3, hw3⟩ : ∃ w3, w2.alloc (.cells #[.slice none 0 0, .int .i64 0] 33) = w3 := ⟨_, rfl⟩
  have T3 := Lib.hid (show Bk w3 P 33 #[.slice none 0 0, .int .i64 0] by rw [← hw3]; exact Bk.newAt _ _ _ _ hP)
  have B3 := Lib.hid (show Below P w2 w3 by rw [← hw3, ← hP]; exact (Below.refl _ _).alloc (Nat.le_refl _) _)
  have HP := Lib.hid hP
  have NP := Lib.hid (show N ≤ P by have := B2.out.size; have := hN0.out; have := HP.out; omega)
  have BP := Lib.hid (show ∀ X, Below P w2 X → Below N w X from fun X hX => B2.out.trans (hX.mono NP.out))
  rw [hw3, hP]
  clear hw3 hP
  go_wp2_with (fail)
  go_loopw [8] (fun ix wr => ∃ (i : Nat) (v : Value), i ≤ nf ∧ ix = .int .i64 (i : Int) ∧ Bk wr P 33 #[v, .int .i64 0] ∧ wr.ownsRow (P + 1) 3 1 v i (zv (fs.take i)) ∧ Below P w2 wr)
    (fun ix _ => nf - (intOf ix).toNat)
  case atStart => exact ⟨0, _, Nat.zero_le _, rfl, T3.out, World.ownsRow_nil _ _ _ _, B3.out⟩
  case round =>
    obtain ⟨i, v, hi, rfl, hbk, hown, hbel⟩ := hrel
    obtain ⟨Av, cv, rfl⟩ := own_form hown
    have TK := Lib.hid hbk
    have OW := Lib.hid hown
    have BL := Lib.hid hbel
    clear T3 B3 hbk hown hbel
    by_cases hlt : i < nf
    · have t0 : (i : Int) < (nf : Int) := by omega
      obtain ⟨b, off, rfl, hb, hcell⟩ := (RF.out _ (BP.out _ BL.out)).cell hlt
      obtain ⟨z, hz⟩ : ∃ z, z = fs.getD i 0 := ⟨_, rfl⟩
      rw [← hz] at hcell
      have zB : -128 ≤ z ∧ z < 128 := HB8.out z (by rw [hz, List.getD, List.getElem?_eq_getElem (by have := HL.out; omega)]; exact List.getElem_mem _)
      have e1 : IntKind.i64.wrap z = z := by rw [IntKind.wrap_i64]; omega
      have KS := Lib.hid (show ∀ X, Below N w X → X.cell? ⟨b, off + i, none⟩ = some (.int .i8 z) from fun X hX => by
        obtain ⟨b', off', e, _, h⟩ := (RF.out X hX).cell hlt
        injection e with e
        injection e with e1 e2
        subst e1 e2
        rw [hz]; exact h)
      have HZ := Lib.hid (show fs.take (i + 1) = fs.take i ++ [z] by rw [List.take_add_one, List.getElem?_eq_getElem (by have := HL.out; omega), hz, List.getD, List.getElem?_eq_getElem (by have := HL.out; omega)]; rfl)
      have i20 : i + 1 ≤ 2000000000000 := by have := U2.out; omega
      clear hcell zB hb hz
      go_upto_region 12 with (fail)
      refine wp_region_any (by kernel_rfl) ?_
      rename_i K hK
      obtain ⟨wd, hwd⟩ : ∃ wd, wr.drew = wd := ⟨_, rfl⟩
      have D0 : Below P w2 wd := by rw [← hwd]; exact BL.out.drew
      have T0 : Bk wd P 33 #[.slice Av i cv, .int .i64 0] := by rw [← hwd]; exact TK.out.drew
      have O0 : wd.ownsRow (P + 1) 3 1 (.slice Av i cv) i (zv (fs.take i)) := by rw [← hwd]; exact own_below OW.out (Below.refl _ _).drew
      change wpAny _ _ _ _ _ _ _ wr.drew
      rw [hwd]
      clear hwd
      refine wpAny_of_held (S := fun X => X.cell? ⟨b, off + i, none⟩ = some (.int .i8 z)) _ _ _ _ ?_
      have S0 := KS.out _ (BP.out _ D0)
      refine RD.h_take 0 (.pointer (some ⟨P, 0, none⟩)) rfl (by kernel_rfl) (by kernel_rfl) (by kernel_rfl) (fun _ _ _ h => h) (by rfl) S0 (fun X hX => ?_) ?_
      · go_simp
      simp only [Act.put, List.setIfInBounds_toArray, List.set_cons_zero, List.set_cons_succ]
      refine RD.h_take 2 (.slice (some ⟨b, off, none⟩) nf cf) rfl (by kernel_rfl) (by kernel_rfl) (by kernel_rfl) (fun _ _ _ h => h) (by rfl) S0 (fun X hX => ?_) ?_
      · go_simp
      simp only [Act.put, List.setIfInBounds_toArray, List.set_cons_zero, List.set_cons_succ]
      refine RD.h_take 3 (.int .i64 (i : Int)) rfl (by kernel_rfl) (by kernel_rfl) (by kernel_rfl) (fun _ _ _ h => h) (by rfl) S0 (fun X hX => ?_) ?_
      · go_simp
      simp only [Act.put, List.setIfInBounds_toArray, List.set_cons_zero, List.set_cons_succ]
      refine RD.h_take 4 (.pointer (some ⟨b, off + i, none⟩)) rfl (by kernel_rfl) (by kernel_rfl) (by kernel_rfl) (fun _ _ _ h => h) (by rfl) S0 (fun X hX => ?_) ?_
      · go_simp
      simp only [Act.put, List.setIfInBounds_toArray, List.set_cons_zero, List.set_cons_succ]
      refine RD.h_take 5 (.int .i8 z) rfl (by kernel_rfl) (by kernel_rfl) (by kernel_rfl) (fun _ _ _ h => h) (by rfl) S0 (fun X hX => ?_) ?_
      · go_simp
      simp only [Act.put, List.setIfInBounds_toArray, List.set_cons_zero, List.set_cons_succ]
      refine RD.h_take 6 (.int .i64 z) rfl (by kernel_rfl) (by kernel_rfl) (by kernel_rfl) (fun _ _ _ h => h) (by rfl) S0 (fun X hX => ?_) ?_
      · go_simp
      simp only [Act.put, List.setIfInBounds_toArray, List.set_cons_zero, List.set_cons_succ]
      have ST := fun (X : World) (h : Below P w2 X) => KS.out X (BP.out X h)
      have SP0 := D0.size
      have HPZ := HP.out
      refine RD.h_any [1, 7] (by kernel_rfl) (by simp) (RD.two_of ?_ ?_)
      · refine RD.h_run (.slice Av i cv) wd rfl (by rfl) (by have c0 := T0.cell 0; simp only [List.getElem?_toArray, List.getElem?_cons_zero] at c0; go_simp) ⟨S0, ?_⟩
        simp only [Act.put, List.setIfInBounds_toArray, List.set_cons_zero, List.set_cons_succ]
        refine RD.h_any [7] (by kernel_rfl) (by simp) (RD.one_of ?_)
        refine RD.h_run (.slice (some ⟨wd.heap.size, 0, none⟩) 1 1) (wd.alloc (.cells #[.int .i64 z] 3)) rfl (by rfl) (by go_simp) ⟨ST _ (D0.alloc (by omega) _), ?_⟩
        simp only [Act.put, List.setIfInBounds_toArray, List.set_cons_zero, List.set_cons_succ]
        refine RD.h_any [8] (by kernel_rfl) (by simp) (RD.one_of ?_)
        refine RD.h_op rfl (step_append_zi (by rfl) (.tmp 34) (.tmp 40) rfl (P + 1) (.slice Av i cv) i (fs.take i) rfl (own_below O0 ((Below.refl _ _).alloc (Nat.le_refl _) _)) ⟨wd.heap.size, 0, none⟩ 1 1 [z] rfl (ri_lit wd z _ rfl) i20 (by have := O0.1; simp; have := T0.lt; omega) (fun v' w' h1 h2 h3 => ⟨?_, ?_⟩))
        · exact ST _ ((D0.alloc (by omega) _).grown h2 (by have := (D0.alloc (by omega) (.cells #[.int .i64 z] 3)).size; omega) (fun q hq => by have := (O0.lt q hq).1; omega))
        obtain ⟨A', c', rfl⟩ := own_form h1
        have D4 : Below P w2 w' := (D0.alloc (by omega) _).grown h2 (by have := (D0.alloc (by omega) (.cells #[.int .i64 z] 3)).size; omega) (fun q hq => by have := (O0.lt q hq).1; omega)
        have T4 : Bk w' P 33 #[.slice Av i cv, .int .i64 0] := (T0.alloc _).only h2 (fun e => by have := (O0.lt P e.symm).1; omega)
        simp only [Act.put, List.setIfInBounds_toArray, List.set_cons_zero, List.set_cons_succ]
        refine RD.h_any [9] (by kernel_rfl) (by simp) (RD.one_of ?_)
        refine RD.h_run (.pointer (some ⟨P, 0, none⟩)) w' rfl (by rfl) (by go_simp) ⟨ST _ D4, ?_⟩
        simp only [Act.put, List.setIfInBounds_toArray, List.set_cons_zero, List.set_cons_succ]
        refine RD.h_any [10] (by kernel_rfl) (by simp) (RD.one_of ?_)
        refine RD.h_skip (w'.setCell ⟨P, 0, none⟩ (.slice A' (i + 1) c')) rfl (by rfl) (by have c0 := T4.cell 0; have fz := T4.frozen; simp only [List.getElem?_toArray, List.getElem?_cons_zero] at c0; go_simp) ⟨ST _ (D4.setCell (Nat.le_refl _) _), ?_⟩
        simp only [Act.put, List.setIfInBounds_toArray, List.set_cons_zero, List.set_cons_succ]
        refine RD.h_done (by kernel_rfl) ?_
        change K _ _
        apply hK
        have T5 : Bk (w'.setCell ⟨P, 0, none⟩ (.slice A' (i + 1) c')) P 33 #[.slice A' (i + 1) c', .int .i64 0] := T4.put 0 _
        have O5 : (w'.setCell ⟨P, 0, none⟩ (.slice A' (i + 1) c')).ownsRow (P + 1) 3 1 (.slice A' (i + 1) c') (i + 1) (zv (fs.take (i + 1))) := by
          rw [HZ.out]
          exact own_only h1 (only_put (World.grownBy.refl _ _) (.inl rfl) _) (own_free (g := P) h1 (Nat.lt_succ_self P))
        have D5 : Below P w2 (w'.setCell ⟨P, 0, none⟩ (.slice A' (i + 1) c')) := D4.setCell (Nat.le_refl _) _
        generalize w'.setCell ⟨P, 0, none⟩ (.slice A' (i + 1) c') = w5 at *
        go_wp2_with (fail)
        go_roundw
        case rel => exact ⟨i + 1, .slice A' (i + 1) c', by omega, by go_num, T5, O5, D5⟩
        case measure => simp [intOf]; omega
      · refine RD.h_run (.slice (some ⟨wd.heap.size, 0, none⟩) 1 1) (wd.alloc (.cells #[.int .i64 z] 3)) rfl (by rfl) (by go_simp) ⟨ST _ (D0.alloc (by omega) _), ?_⟩
        simp only [Act.put, List.setIfInBounds_toArray, List.set_cons_zero, List.set_cons_succ]
        refine RD.h_any [1] (by kernel_rfl) (by simp) (RD.one_of ?_)
        refine RD.h_run (.slice Av i cv) (wd.alloc (.cells #[.int .i64 z] 3)) rfl (by rfl) (by have c0 := (T0.alloc (.cells #[.int .i64 z] 3)).cell 0; simp only [List.getElem?_toArray, List.getElem?_cons_zero] at c0; go_simp) ⟨ST _ (D0.alloc (by omega) _), ?_⟩
        simp only [Act.put, List.setIfInBounds_toArray, List.set_cons_zero, List.set_cons_succ]
        refine RD.h_any [8] (by kernel_rfl) (by simp) (RD.one_of ?_)
        refine RD.h_op rfl (step_append_zi (by rfl) (.tmp 34) (.tmp 40) rfl (P + 1) (.slice Av i cv) i (fs.take i) rfl (own_below O0 ((Below.refl _ _).alloc (Nat.le_refl _) _)) ⟨wd.heap.size, 0, none⟩ 1 1 [z] rfl (ri_lit wd z _ rfl) i20 (by have := O0.1; simp; have := T0.lt; omega) (fun v' w' h1 h2 h3 => ⟨?_, ?_⟩))
        · exact ST _ ((D0.alloc (by omega) _).grown h2 (by have := (D0.alloc (by omega) (.cells #[.int .i64 z] 3)).size; omega) (fun q hq => by have := (O0.lt q hq).1; omega))
        obtain ⟨A', c', rfl⟩ := own_form h1
        have D4 : Below P w2 w' := (D0.alloc (by omega) _).grown h2 (by have := (D0.alloc (by omega) (.cells #[.int .i64 z] 3)).size; omega) (fun q hq => by have := (O0.lt q hq).1; omega)
        have T4 : Bk w' P 33 #[.slice Av i cv, .int .i64 0] := (T0.alloc _).only h2 (fun e => by have := (O0.lt P e.symm).1; omega)
        simp only [Act.put, List.setIfInBounds_toArray, List.set_cons_zero, List.set_cons_succ]
        refine RD.h_any [9] (by kernel_rfl) (by simp) (RD.one_of ?_)
        refine RD.h_run (.pointer (some ⟨P, 0, none⟩)) w' rfl (by rfl) (by go_simp) ⟨ST _ D4, ?_⟩
        simp only [Act.put, List.setIfInBounds_toArray, List.set_cons_zero, List.set_cons_succ]
        refine RD.h_any [10] (by kernel_rfl) (by simp) (RD.one_of ?_)
        refine RD.h_skip (w'.setCell ⟨P, 0, none⟩ (.slice A' (i + 1) c')) rfl (by rfl) (by have c0 := T4.cell 0; have fz := T4.frozen; simp only [List.getElem?_toArray, List.getElem?_cons_zero] at c0; go_simp) ⟨ST _ (D4.setCell (Nat.le_refl _) _), ?_⟩
        simp only [Act.put, List.setIfInBounds_toArray, List.set_cons_zero, List.set_cons_succ]
        refine RD.h_done (by kernel_rfl) ?_
        change K _ _
        apply hK
        have T5 : Bk (w'.setCell ⟨P, 0, none⟩ (.slice A' (i + 1) c')) P 33 #[.slice A' (i + 1) c', .int .i64 0] := T4.put 0 _
        have O5 : (w'.setCell ⟨P, 0, none⟩ (.slice A' (i + 1) c')).ownsRow (P + 1) 3 1 (.slice A' (i + 1) c') (i + 1) (zv (fs.take (i + 1))) := by
          rw [HZ.out]
          exact own_only h1 (only_put (World.grownBy.refl _ _) (.inl rfl) _) (own_free (g := P) h1 (Nat.lt_succ_self P))
        have D5 : Below P w2 (w'.setCell ⟨P, 0, none⟩ (.slice A' (i + 1) c')) := D4.setCell (Nat.le_refl _) _
        generalize w'.setCell ⟨P, 0, none⟩ (.slice A' (i + 1) c') = w5 at *
        go_wp2_with (fail)
        go_roundw
        case rel => exact ⟨i + 1, .slice A' (i + 1) c', by omega, by go_num, T5, O5, D5⟩
        case measure => simp [intOf]; omega
    · obtain rfl : i = nf := by omega
      have t0 : ¬ (i : Int) < (i : Int) := by omega
      have k0 : wr.cell? ⟨P, 0, none⟩ = some (.slice Av i cv) := TK.out.cell 0
      have k1 : wr.cell? ⟨P, 1, none⟩ = some (.int .i64 0) := TK.out.cell 1
      have RZ := Lib.hid (show RI wr .i64 Av i cv fs from by
        have h := OW.out
        rw [List.take_of_length_le (by have := HL.out; omega)] at h
        exact RI.own h)
      have I3 := Lib.hid (show M.Is N wr g (Dk.new 2) F2 from M.keep I2.out BL.out.size fun b _ hlt => BL.out.block b (by rw [← HP.out]; exact hlt))
      go_upto_region 14 with (go_at_call 21; ((with_reducible refine (C2.out _ g F2 Av i cv fs (BP.out _ BL.out) I3.out RZ.out U20.out).mono ?_); rintro e w4 ⟨rfl, F4, i4, m4⟩; have I4 := Lib.hid i4; have B4 := Lib.hid ((BP.out _ BL.out).trans m4.bel); clear i4 m4))
      clear k0 k1 RZ I3 TK OW
      go_wp2_with (fail)
      clear t0
      go_loopw [9, 10, 11, 12, 13, 14, 15] (fun pv kv fv iv ev cv mv wr => ∃ (k p : Nat) (D : Dk) (F : Nat → Prop), k ≤ r ∧ p ≤ k ∧ pv = .int .i64 (p : Int) ∧ kv = .int .i64 ((k + 1 : Nat) : Int) ∧ M.Is N wr g D F ∧ Fl fs k p D ∧ Below N w wr)
        (fun _ kv _ _ _ _ _ _ => r + 1 - (intOf kv).toNat)
      case atStart => exact ⟨0, 0, _, F4, Nat.zero_le _, Nat.le_refl _, rfl, rfl, I4.out, Fl.start fs, B4.out⟩
      case round =>
        obtain ⟨k, p, D, F, hkr, hpk, rfl, rfl, hI, hD, hB⟩ := hrel
        have IR := Lib.hid hI
        have DR := Lib.hid hD
        have BR := Lib.hid hB
        clear hI hD hB I4 B4
        obtain ⟨q, hq⟩ : ∃ q, q = k + 1 := ⟨_, rfl⟩
        rw [← hq]
        have HQ := Lib.hid hq
        have q41 : q ≤ 41 := by omega
        have p41 : p ≤ 41 := by omega
        by_cases hlt : k + 1 ≤ r
        · have t0 : (q : Int) ≤ (r : Int) := by omega
          have HR := Lib.hid (show q ≤ r ∧ p + 1 ≤ q from ⟨by omega, by omega⟩)
          clear hq hlt
          go_upto_region 19 with (fail)
          go_wp2_with (fail)
          clear t0
          obtain ⟨wo, rfl⟩ : ∃ wo : World, wo = wr := ⟨_, rfl⟩
          go_loopw [11, 12] (fun fv iv wi => ∃ (i' : Nat), i' ≤ i ∧ fv = .bool (inF fs i' (q : Int)) ∧ iv = .int .i64 (i' : Int) ∧ wi = wo)
            (fun _ iv _ => i - (intOf iv).toNat)
          case atStart => exact ⟨0, Nat.zero_le _, by rw [inF_zero], rfl, rfl⟩
          case round =>
            obtain ⟨j, hj, rfl, rfl, rfl⟩ := hrel
            by_cases hlj : j < i
            · have t1 : (j : Int) < (i : Int) := by omega
              have hs := inF_succ fs j (q : Int) (by have := HL.out; omega)
              by_cases hf : inF fs j (q : Int) = true
              · have hs' : inF fs (j + 1) (q : Int) = true := by rw [hs, hf]; rfl
                have HS := Lib.hid hs'
                rw [hf]
                clear hs hs' hf
                go_wp2_with (fail)
                go_roundw
                case rel => exact ⟨j + 1, by omega, by rw [HS.out], by go_num, trivial⟩
                case measure => simp [intOf]; omega
              · have hf : inF fs j (q : Int) = false := by simpa using hf
                have HS := Lib.hid (show inF fs (j + 1) (q : Int) = (fs.getD j 0 == (q : Int)) by rw [hs, hf]; rfl)
                rw [hf]
                clear hs hf
                obtain ⟨b, off, rfl, hb, hcell⟩ := (RF.out _ BR.out).cell hlj
                obtain ⟨z, hz⟩ : ∃ z, z = fs.getD j 0 := ⟨_, rfl⟩
                rw [← hz] at hcell HS
                have zB : -128 ≤ z ∧ z < 128 := HB8.out z (by rw [hz, List.getD, List.getElem?_eq_getElem (by have := HL.out; omega)]; exact List.getElem_mem _)
                have e1 : IntKind.i64.wrap z = z := by rw [IntKind.wrap_i64]; omega
                clear hz zB hb
                go_wp2_with (fail)
                go_roundw
                case rel => exact ⟨j + 1, by omega, by rw [HS.out], by go_num, trivial⟩
                case measure => simp [intOf]; omega
            · obtain rfl : j = i := by omega
              have t1 : ¬ (j : Int) < (j : Int) := by omega
              have hin : inF fs j (q : Int) = decide ((q : Int) ∈ fs) := by rw [show j = fs.length from HL.out.symm]; exact inF_all _ _
              obtain ⟨m2, hm2⟩ : ∃ m2, m2 = q % 2 := ⟨_, rfl⟩
              have m2B : m2 < 2 := by rw [hm2]; exact Nat.mod_lt _ (by omega)
              have e1 : (q : Int) % 2 = (m2 : Int) := by rw [hm2]; simp
              have e2 : (q : Int).tmod 2 = (m2 : Int) := by rw [Int.tmod_eq_emod_of_nonneg (Int.natCast_nonneg q), e1]
              obtain ⟨cu, hcu⟩ : ∃ cu, cu = UInt8.ofNat q := ⟨_, rfl⟩
              have e3 : (q : Int) % 256 = (cu.toNat : Int) := by rw [hcu]; simp
              have e4 : IntKind.u8.wrap (q : Int) = (cu.toNat : Int) := by rw [IntKind.wrap_u8]; exact e3
              obtain ⟨x, hx⟩ : ∃ x, x = rowL cu 64 := ⟨_, rfl⟩
              have LX := Lib.hid (show x.length = 64 by rw [hx]; exact rowL_len _ _)
              have C3 := Lib.hid (show ∀ X, Calls Try.prog 16 #[.int .u8 (cu.toNat : Int), .bool false] X (New X.heap.size X x) from fun X => by rw [hx]; exact row_any cu false X)
              have hw := DR.out.write m2 m2B x LX.out
              have hqk : (k : Int) + 1 = (q : Int) := by have := HQ.out; omega
              rw [hqk] at hw
              have W4 : ∀ X A c, Below N w X → M.Is N X g D F → Rd X A 64 c x → (∀ a, 0 < 64 → A = some a → ¬ F a.block) → Calls Try.prog 15 #[.pointer (some ⟨g, 0, none⟩), .int .i64 (m2 : Int), .slice A 64 c] X (Post M.Is N F g X (D.write m2 x) (.int .i64 ((if (q : Int) ∈ fs then 7 else 0 : Nat) : Int))) := fun X A c hX hI hR hZ => by
                have h := M.write N X g D F m2 A 64 c x (OKN.out X hX) hI hR hZ (by rw [DR.out.cnt]; omega)
                rw [hw.1] at h
                exact h
              have hw2 := hw.2
              generalize D.write m2 x = D5 at *
              rw [hin]
              have BG := BN.out
              clear hm2 m2B hcu hx hw hin hqk
              by_cases hm : (q : Int) ∈ fs
              · rw [if_pos hm] at hw2
                simp only [if_pos hm] at W4
                have C4 := Lib.hid (show ∀ X A c, Below N w X → M.Is N X g D F → Rd X A 64 c x → (∀ a, 0 < 64 → A = some a → ¬ F a.block) → Calls Try.prog 15 #[.pointer (some ⟨g, 0, none⟩), .int .i64 (m2 : Int), .slice A 64 c] X (Post M.Is N F g X D5 (.int .i64 7)) from W4)
                have HW := Lib.hid hw2
                have C5 := Lib.hid (show ∀ X F, Below N w X → M.Is N X g D5 F → Calls Try.prog 14 #[.pointer (some ⟨g, 0, none⟩)] X (Post M.Is N F g X D5 (.tuple #[.int .i64 (q : Int), .int .i64 (p : Int)])) from fun X F hX hI => by
                  have h := M.count N X g D5 F (OKN.out X hX) hI
                  rw [hw2.cnt, hw2.pend, ← HQ.out] at h
                  exact h)
                rw [show decide ((q : Int) ∈ fs) = true from decide_eq_true hm]
                clear W4 hw2 hm
                go_wp2_with (first
                  | (go_at_call 16; ((with_reducible refine (C3.out _).mono ?_); rintro e w5 ⟨A5, n5, c5, rfl, q5, b5⟩; obtain rfl : n5 = 64 := (own_len q5).symm.trans LX.out; have R5 := Lib.hid (Rd.own q5); have Z5 := Lib.hid (own_off M IR.out q5); have I5 := Lib.hid (M.grow IR.out b5); have B5 := Lib.hid (BN.out _ _ BR.out b5); clear q5 b5))
                  | (go_at_call 15; ((with_reducible refine (C4.out _ A5 c5 B5.out I5.out R5.out Z5.out).mono ?_); rintro e w6 ⟨rfl, F6, i6, s6, m6⟩; have I6 := Lib.hid i6; have B6 := Lib.hid (B5.out.trans m6.bel); clear i6 s6 m6))
                  | (go_at_call 14; ((with_reducible refine (C5.out _ F6 B6.out I6.out).mono ?_); rintro e w7 ⟨rfl, F7, i7, s7, m7⟩; have I7 := Lib.hid i7; have B7 := Lib.hid (B6.out.trans m7.bel); clear i7 s7 m7)))
                go_roundw
                case rel => exact ⟨q, p, D5, F7, HR.out.1, Nat.le_of_succ_le HR.out.2, rfl, by go_num, I7.out, by have := HW.out; rw [← HQ.out] at this; exact this, B7.out⟩
                case measure => clear e1 e2 e3 e4 f1 f1'; have hr1 := HR.out.1; simp [intOf]; omega
              · rw [if_neg hm] at hw2
                simp only [if_neg hm] at W4
                have C4 := Lib.hid (show ∀ X A c, Below N w X → M.Is N X g D F → Rd X A 64 c x → (∀ a, 0 < 64 → A = some a → ¬ F a.block) → Calls Try.prog 15 #[.pointer (some ⟨g, 0, none⟩), .int .i64 (m2 : Int), .slice A 64 c] X (Post M.Is N F g X D5 (.int .i64 0)) from W4)
                have HW := Lib.hid hw2
                obtain ⟨p1, hp1⟩ : ∃ p1, p1 = p + 1 := ⟨_, rfl⟩
                have e5 : IntKind.i64.wrap ((p : Int) + 1) = (p1 : Int) := by rw [IntKind.wrap_i64]; omega
                have e6 : wrap64 ((p : Int) + 1) = (p1 : Int) := by unfold wrap64; omega
                have HP1 := Lib.hid hp1
                have C5 := Lib.hid (show ∀ X F, Below N w X → M.Is N X g D5 F → Calls Try.prog 14 #[.pointer (some ⟨g, 0, none⟩)] X (Post M.Is N F g X D5 (.tuple #[.int .i64 (q : Int), .int .i64 (p1 : Int)])) from fun X F hX hI => by
                  have h := M.count N X g D5 F (OKN.out X hX) hI
                  rw [hw2.cnt, hw2.pend, ← HQ.out, ← HP1.out] at h
                  exact h)
                rw [show decide ((q : Int) ∈ fs) = false from decide_eq_false hm]
                clear W4 hw2 hm hp1
                go_wp2_with (first
                  | (go_at_call 16; ((with_reducible refine (C3.out _).mono ?_); rintro e w5 ⟨A5, n5, c5, rfl, q5, b5⟩; obtain rfl : n5 = 64 := (own_len q5).symm.trans LX.out; have R5 := Lib.hid (Rd.own q5); have Z5 := Lib.hid (own_off M IR.out q5); have I5 := Lib.hid (M.grow IR.out b5); have B5 := Lib.hid (BN.out _ _ BR.out b5); clear q5 b5))
                  | (go_at_call 15; ((with_reducible refine (C4.out _ A5 c5 B5.out I5.out R5.out Z5.out).mono ?_); rintro e w6 ⟨rfl, F6, i6, s6, m6⟩; have I6 := Lib.hid i6; have B6 := Lib.hid (B5.out.trans m6.bel); clear i6 s6 m6))
                  | (go_at_call 14; ((with_reducible refine (C5.out _ F6 B6.out I6.out).mono ?_); rintro e w7 ⟨rfl, F7, i7, s7, m7⟩; have I7 := Lib.hid i7; have B7 := Lib.hid (B6.out.trans m7.bel); clear i7 s7 m7)))
                go_roundw
                case rel => exact ⟨q, p1, D5, F7, HR.out.1, by rw [HP1.out]; exact HR.out.2, rfl, by go_num, I7.out, by have := HW.out; rw [← HQ.out, ← HP1.out] at this; exact this, B7.out⟩
                case measure => clear e1 e2 e3 e4 f1 f1'; have hr1 := HR.out.1; simp [intOf]; omega
        · have t0 : ¬ (q : Int) ≤ (r : Int) := by omega
          go_wp2_with (fail)
          go_ret
          exact ⟨rfl, BR.out⟩
end Go.Proofs.Ytammgingmkdfhaa.S19
