/-
  The walk of layer 19's first statement, over the contracts. No statement is proved here. (Written by gendk5.py.)
-/
import Derived.Test.YtammgingmkdfhaaDkI
import Derived.Deep.CutRange
import Derived.Deep.LoopGhost
import Derived.Deep.CutBlock
namespace Go.Proofs.Ytammgingmkdfhaa.S19
set_option linter.unusedSimpArgs false
set_option linter.unusedVariables false
set_option maxRecDepth 4096
open Go.RowKit

/-- The document's own disk, its rows' lengths written out; so it is in any world where its blocks, and those below N, are as they were. -/
theorem Rk.form {L : Value} {N : Nat} {w : World} {h : Nat} {D : Dk} {G : Nat → Prop} (r : Rk N w h L D G) : ∃ (V : RkV) (AS : Option Addr) (cS : Nat) (AW : Option Addr) (cW : Nat), ∀ X : World, w.heap.size ≤ X.heap.size → (∀ b, (b < N ∨ G b) → b < w.heap.size → X.heap[b]? = w.heap[b]?) → Bk X h 42 #[L, .slice AS D.sure.length cS, .slice AW D.pend.length cW, V.vB, .slice V.AF V.nF V.cF, .int .i64 D.stop, .int .i64 (D.cnt : Int), .bool D.off] ∧ Rw X AS D.sure.length D.sure := by
  obtain ⟨V, hb, hr⟩ := r.ex
  obtain ⟨AW, cW, eW⟩ := own_form hr.oW
  obtain ⟨AS, cS, eS⟩ := own_form hr.oS
  rw [pendZ_len] at eW
  refine ⟨V, AS, cS, AW, cW, fun X h1 h2 => ⟨?_, (hr.keep h1 h2).rw eS⟩⟩
  rw [← eS, ← eW]
  exact (h2 h (.inr r.lo.2) hb.lt).trans hb
set_option maxHeartbeats 16000000 in
theorem diskPlays_walk (M : DC) (w : World) (hk : M.ok w) (sn : Nat) (hsn : sn < 256) (A : Option Addr) (nA cA : Nat) (acts : List AcV) (hA : RA w A nA cA acts) : Calls Try.prog 3 #[.int .u8 (sn : Int), .slice A nA cA] w fun e w' => e = .returned (.bool true) ∧ Below w.heap.size w w' := by
  have HK := Lib.hid hk
  obtain ⟨N, hN⟩ : ∃ N, w.heap.size = N := ⟨_, rfl⟩
  have OKN := Lib.hid (show ∀ X, Below N w X → M.ok X from fun X hX => M.bel hk (by rw [hN]; exact hX))
  have hN0 := Lib.hid hN
  have BN := Lib.hid (show ∀ X Y, Below N w X → Below X.heap.size X Y → Below N w Y from fun X Y h h' => h.trans (h'.mono (by have := h.size; omega)))
  obtain ⟨r, hr⟩ : ∃ r, r = sn % 20 := ⟨_, rfl⟩
  have rB : r < 20 := by rw [hr]; exact Nat.mod_lt _ (by omega)
  have f1' : (sn : Int) % 20 = (r : Int) := by rw [hr]; simp
  have f1 : (sn : Int).tmod 20 = (r : Int) := by rw [Int.tmod_eq_emod_of_nonneg (Int.natCast_nonneg sn), f1']
  clear hr
  obtain ⟨k, hkk⟩ : ∃ k, k = 1 + r := ⟨_, rfl⟩
  have k1 : 1 ≤ k := by omega
  have k20 : k ≤ 20 := by omega
  have f2' : (1 : Int) + (r : Int) = (k : Int) := by omega
  have f2 : IntKind.i64.wrap (1 + (r : Int)) = (k : Int) := by rw [f2']; exact IntWalk.i64_in _ (by omega)
  have f3 : wrap64 (1 + (r : Int)) = (k : Int) := by rw [f2']; unfold wrap64; omega
  have HKB := Lib.hid (show 1 ≤ k ∧ k ≤ 20 from ⟨k1, k20⟩)
  have C1 := Lib.hid (show ∀ X, Below N w X → Calls Try.prog 9 #[.int .i64 (k : Int)] X fun e w' => ∃ g F, e = .returned (.tuple #[.pointer (some ⟨g, 0, none⟩), .int .i64 0]) ∧ M.Is N w' g (Dk.new k) F ∧ (∀ b, F b → X.heap.size ≤ b) ∧ Below X.heap.size X w' from fun X hX => M.new N X k (OKN.out X hX) (by rw [← hN]; exact hX.size) k1 (Nat.le_trans k20 (by decide)))
  have C2 := Lib.hid (show ∀ X, Below N w X → Calls Try.prog 10 #[.int .i64 (k : Int)] X fun e w' => ∃ h G, e = .returned (.pointer (some ⟨h, 0, none⟩)) ∧ Rk N w' h (.slice none 0 0) (Dk.new k) G ∧ (∀ b, G b → X.heap.size ≤ b) ∧ Below X.heap.size X w' from fun X hX => rnewD_any N X k (by rw [← hN]; exact hX.size) k1 (Nat.le_trans k20 (by decide)))
  have HA := Lib.hid hA
  clear hk hkk f2' rB hA
  go_enter Try.func3, Try.ntmps3
  go_upto_region 8 with (first
    | (go_at_call 8; ((with_reducible refine (awake_any M w HK.out).mono ?_); rintro e w1 ⟨rfl, b1⟩; have B1 := Lib.hid (b1.mono (Nat.le_of_eq hN0.out.symm)); clear b1))
    | (go_at_call 9; ((with_reducible refine (C1.out _ B1.out).mono ?_); rintro e w2 ⟨g, F, rfl, i2, s2, b2⟩; have I2 := Lib.hid i2; have B2 := Lib.hid (BN.out _ _ B1.out b2); clear i2 s2 b2))
    | (go_at_call 10; ((with_reducible refine (C2.out _ B2.out).mono ?_); rintro e w3 ⟨h, G, rfl, r3, s3, b3⟩; have I3 := Lib.hid (show Two M N w3 g h (.slice none 0 0) (Dk.new k) (Dk.new k) F G from ⟨M.grow I2.out b3, r3, fun b q1 q2 => by have h1 := (M.lt I2.out b q1).2; have h2 := s3 b q2; omega⟩); have B3 := Lib.hid (BN.out _ _ B2.out b3); clear r3 s3 b3)))
  clear C1 C2 I2
  go_wp2_with (fail)
  go_loopg [9, 10, 11] 81 (fun f iv s10 s11 wr => ∃ (i : Nat) (D : Dk) (F G : Nat → Prop), i + f = 81 ∧ i ≤ nA ∧ iv = .int .i64 (i : Int) ∧ Two M N wr g h (.slice none 0 0) D D F G ∧ D.cnt ≤ i ∧ Below N w wr)
  case atStart => exact ⟨0, Dk.new k, F, G, rfl, Nat.zero_le _, rfl, I3.out, Nat.le_refl _, B3.out⟩
  case round =>
    clear I3 B3 F G
    obtain ⟨i, D, F, G, hif, hin, rfl, hI, hcn, hB⟩ := hrel
    have IR := Lib.hid hI
    have BR := Lib.hid hB
    clear hI hB
    by_cases h1 : i < nA ∧ i < 80
    · obtain ⟨h1, h2⟩ := h1
      have t1 : (i : Int) < (nA : Int) := by omega
      have t2 : (i : Int) < 80 := by omega
      obtain ⟨ba, oa, rfl, hba, hat⟩ := HA.out.at_ (by omega)
      obtain ⟨ac, hac⟩ : ∃ ac, ac = acts.getD i default := ⟨_, rfl⟩
      obtain ⟨hok, hcl⟩ := hat i h1
      rw [← hac] at hok hcl
      have HBA := Lib.hid (show ba < N by rw [← hN0.out]; exact hba)
      have KC := Lib.hid (show ∀ X, Below N w X → ∀ q, q < 7 → X.cell? ⟨ba, oa + i * 7 + q, none⟩ = ac.cells[q]? from fun X hX q hq => (hX.cell (p := ⟨ba, oa + i * 7 + q, none⟩) HBA.out).trans (hcl q hq))
      have HOK := Lib.hid hok
      have HIF := Lib.hid hif
      clear hac hba hat hok hcl hif
      obtain ⟨kk, ai, ac1, as1, ca, cn, cc, ch, fa, fn, fc, fs, st⟩ := ac
      have KD := Lib.hid (show ∀ X, Below N w X → X.cell? ⟨ba, oa + i * 7, none⟩ = some (.int .i64 kk) ∧ X.cell? ⟨ba, oa + i * 7 + 1, none⟩ = some (.int .i64 ai) ∧ X.cell? ⟨ba, oa + i * 7 + 2, none⟩ = some (.int .u8 (ac1.toNat : Int)) ∧ X.cell? ⟨ba, oa + i * 7 + 3, none⟩ = some (.bool as1) ∧ X.cell? ⟨ba, oa + i * 7 + 4, none⟩ = some (.slice ca cn cc) ∧ X.cell? ⟨ba, oa + i * 7 + 5, none⟩ = some (.slice fa fn fc) ∧ X.cell? ⟨ba, oa + i * 7 + 6, none⟩ = some (.int .i64 st) from fun X hX => ⟨KC.out X hX 0 (by omega), KC.out X hX 1 (by omega), KC.out X hX 2 (by omega), KC.out X hX 3 (by omega), KC.out X hX 4 (by omega), KC.out X hX 5 (by omega), KC.out X hX 6 (by omega)⟩)
      have RCH := Lib.hid (show ∀ X, Below N w X → Rd X ca cn cc ch from fun X hX => HOK.out.ch.below (by rw [hN0.out]; exact hX))
      have RFS := Lib.hid (show ∀ X, Below N w X → RI X .i64 fa fn fc fs from fun X hX => HOK.out.fs.below (by rw [hN0.out]; exact hX))
      have FLN := Lib.hid (show ∀ a, 0 < fn → fa = some a → a.block < N from fun a h1 h2 => by
        obtain ⟨b, off, e, hb, _⟩ := HOK.out.fs.at_ h1
        rw [h2] at e
        injection e with e
        subst e
        rw [← hN0.out]; exact hb)
      have CLN := Lib.hid (show ∀ a, 0 < cn → ca = some a → a.block < N from fun a h1 h2 => by
        obtain ⟨b, off, e, hb, _⟩ := HOK.out.ch.at_ h1
        rw [h2] at e
        injection e with e
        subst e
        rw [← hN0.out]; exact hb)
      clear KC HOK HBA
      obtain ⟨c0, c1, c2, c3, c4, c5, c6⟩ := KD.out _ BR.out
      by_cases g1 : 300 < cn
      · have u1 : (300 : Int) < (cn : Int) := by omega
        clear g1
        go_wp2_with (fail)
        go_ret
        exact ⟨rfl, by first | exact BR.out | (rw [hN0.out]; exact BR.out)⟩
      have u1 : ¬ (300 : Int) < (cn : Int) := by omega
      by_cases g2 : 300 < fn
      · have u2 : (300 : Int) < (fn : Int) := by omega
        clear g2
        go_wp2_with (fail)
        go_ret
        exact ⟨rfl, by first | exact BR.out | (rw [hN0.out]; exact BR.out)⟩
      have u2 : ¬ (300 : Int) < (fn : Int) := by omega
      have FN3 := Lib.hid (show fn ≤ 1099511627776 by omega)
      clear g1 g2
      go_upto_region 13 with (fail)
      clear u1 u2 c0 c1 c2 c3 c4 c5 c6
      have hiN : (i : Int) < (nA : Int) := t1
      refine wp_region_any (by kernel_rfl) ?_
      rename_i K hK
      obtain ⟨wd, hwd⟩ : ∃ wd, wr.drew = wd := ⟨_, rfl⟩
      have D0 : Below wr.heap.size wr wd := by rw [← hwd]; exact (Below.refl _ _).drew
      change wpAny _ _ _ _ _ _ _ wr.drew
      rw [hwd]
      clear hwd
      have ID := Lib.hid (IR.out.grow D0)
      have BD := BN.out _ _ BR.out D0
      refine wpAny_of_held (S := fun X => Below N w X) _ _ _ _ ?_
      refine RD.h_take 0 (.pointer (some ⟨g, 0, none⟩)) rfl (by kernel_rfl) (by kernel_rfl) (by kernel_rfl) (fun _ _ _ h => h) (by rfl) BD (fun X hX => ?_) ?_
      · go_simp
      simp only [Act.put, List.setIfInBounds_toArray, List.set_cons_zero, List.set_cons_succ]
      refine RD.h_take 1 (.pointer (some ⟨h, 0, none⟩)) rfl (by kernel_rfl) (by kernel_rfl) (by kernel_rfl) (fun _ _ _ h => h) (by rfl) BD (fun X hX => ?_) ?_
      · go_simp
      simp only [Act.put, List.setIfInBounds_toArray, List.set_cons_zero, List.set_cons_succ]
      refine RD.h_take 2 (.slice (some ⟨ba, oa, none⟩) nA cA) rfl (by kernel_rfl) (by kernel_rfl) (by kernel_rfl) (fun _ _ _ h => h) (by rfl) BD (fun X hX => ?_) ?_
      · go_simp
      simp only [Act.put, List.setIfInBounds_toArray, List.set_cons_zero, List.set_cons_succ]
      refine RD.h_take 3 (.int .i64 (i : Int)) rfl (by kernel_rfl) (by kernel_rfl) (by kernel_rfl) (fun _ _ _ h => h) (by rfl) BD (fun X hX => ?_) ?_
      · go_simp
      simp only [Act.put, List.setIfInBounds_toArray, List.set_cons_zero, List.set_cons_succ]
      refine RD.h_take 4 (.pointer (some ⟨ba, oa + i * 7, none⟩)) rfl (by kernel_rfl) (by kernel_rfl) (by kernel_rfl) (fun _ _ _ h => h) (by rfl) BD (fun X hX => ?_) ?_
      · go_simp
      simp only [Act.put, List.setIfInBounds_toArray, List.set_cons_zero, List.set_cons_succ]
      refine RD.h_take 5 (.agg #[.int .i64 kk, .int .i64 ai, .int .u8 (ac1.toNat : Int), .bool as1, .slice ca cn cc, .slice fa fn fc, .int .i64 st]) rfl (by kernel_rfl) (by kernel_rfl) (by kernel_rfl) (fun _ _ _ h => h) (by rfl) BD (fun X hX => ?_) ?_
      · obtain ⟨c0, c1, c2, c3, c4, c5, c6⟩ := KD.out X hX
        go_simp
      simp only [Act.put, List.setIfInBounds_toArray, List.set_cons_zero, List.set_cons_succ]
      have DO := do_any M N wd g h D F G ID.out (by have := BD.size; have := hN0.out; omega) (fun X hX => OKN.out X (BD.trans hX)) (by omega) kk ai ac1 as1 ca cn cc ch fa fn fc fs st (fun X hX => RCH.out X (BD.trans hX)) (fun X hX => RFS.out X (BD.trans hX)) CLN.out FLN.out FN3.out
      refine RD.h_any [6] (by kernel_rfl) (by simp) (RD.one_of ?_)
      refine RD.h_call 11 _ rfl (by rfl) (by go_simp) (DO.mono ?_)
      rintro e w5 ⟨rfl, D1, F1, G1, i5, b5, n5⟩
      have I5 := Lib.hid i5
      have B5 := BD.trans b5
      have N5 := Lib.hid n5
      clear DO i5 b5 n5 ID
      refine ⟨_, rfl, B5, ?_⟩
      simp only [Act.put, List.setIfInBounds_toArray, List.set_cons_zero, List.set_cons_succ]
      refine RD.h_take 7 (.bool false) rfl (by kernel_rfl) (by kernel_rfl) (by kernel_rfl) (fun _ _ _ h => h) (by rfl) B5 (fun X hX => ?_) ?_
      · go_simp
      simp only [Act.put, List.setIfInBounds_toArray, List.set_cons_zero, List.set_cons_succ]
      refine RD.h_take 8 (.bool false) rfl (by kernel_rfl) (by kernel_rfl) (by kernel_rfl) (fun _ _ _ h => h) (by rfl) B5 (fun X hX => ?_) ?_
      · go_simp
      simp only [Act.put, List.setIfInBounds_toArray, List.set_cons_zero, List.set_cons_succ]
      refine RD.h_take 9 (.pointer (some ⟨g, 0, none⟩)) rfl (by kernel_rfl) (by kernel_rfl) (by kernel_rfl) (fun _ _ _ h => h) (by rfl) B5 (fun X hX => ?_) ?_
      · go_simp
      simp only [Act.put, List.setIfInBounds_toArray, List.set_cons_zero, List.set_cons_succ]
      refine RD.h_take 11 (.pointer (some ⟨h, 0, none⟩)) rfl (by kernel_rfl) (by kernel_rfl) (by kernel_rfl) (fun _ _ _ h => h) (by rfl) B5 (fun X hX => ?_) ?_
      · go_simp
      simp only [Act.put, List.setIfInBounds_toArray, List.set_cons_zero, List.set_cons_succ]
      refine RD.h_take 12 (.pointer (some ⟨h, 0, none⟩)) rfl (by kernel_rfl) (by kernel_rfl) (by kernel_rfl) (fun _ _ _ h => h) (by rfl) B5 (fun X hX => ?_) ?_
      · go_simp
      simp only [Act.put, List.setIfInBounds_toArray, List.set_cons_zero, List.set_cons_succ]
      refine RD.h_take 13 (.pointer (some ⟨h, 1, none⟩)) rfl (by kernel_rfl) (by kernel_rfl) (by kernel_rfl) (fun _ _ _ h => h) (by rfl) B5 (fun X hX => ?_) ?_
      · go_simp
      simp only [Act.put, List.setIfInBounds_toArray, List.set_cons_zero, List.set_cons_succ]
      obtain ⟨V, AS, cS, AW, cW, hV⟩ := I5.out.rk.form
      have HV := Lib.hid hV
      have T5 := (hV w5 (Nat.le_refl _) (fun _ _ _ => rfl)).1
      clear hV
      obtain ⟨sl, hsl⟩ : ∃ sl, sl = D1.sure.length := ⟨_, rfl⟩
      have HSL := Lib.hid (show sl ≤ 256 by rw [hsl]; exact I5.out.rk.ok.most)
      have SU := Lib.hid (show Calls Try.prog 13 #[.pointer (some ⟨g, 0, none⟩)] w5 (fun e w' => ∃ A c F', e = .returned (.slice A sl c) ∧ Rw w' A sl D1.sure ∧ Two M N w' g h (.slice none 0 0) D1 D1 F' G1 ∧ Rw w' AS sl D1.sure ∧ Bk w' h 42 #[.slice none 0 0, .slice AS sl cS, .slice AW D1.pend.length cW, V.vB, .slice V.AF V.nF V.cF, .int .i64 D1.stop, .int .i64 (D1.cnt : Int), .bool D1.off] ∧ Below N w w') from by
        rw [hsl]
        exact (M.sure N w5 g D1 F1 (OKN.out _ B5) I5.out.is).mono fun e w' ⟨A, c, F', q1, q2, q3, q4, q5⟩ => by
          have q6 := HV.out w' q5.size (fun b hb hl => q5.same b hl (fun hF => hb.elim (fun q => by have := (M.lt I5.out.is b hF).1; omega) (fun q => I5.out.dj b hF q)))
          exact ⟨A, c, F', q1, q2.rw, I5.out.left q3 q4 q5, q6.2, q6.1, B5.trans q5.bel⟩)
      rw [← hsl] at T5
      clear hsl HV
      refine RD.h_any [10, 14] (by kernel_rfl) (by simp) (RD.two_of ?_ ?_)
      · refine RD.h_call 13 _ rfl (by rfl) (by go_simp) (SU.out.mono ?_)
        rintro e w6 ⟨A6, c6, F6, rfl, r6, i6, s6, t6, b6⟩
        have I6 := Lib.hid i6
        have R6 := Lib.hid r6
        have S6 := Lib.hid s6
        clear i6 r6 s6
        refine ⟨_, rfl, b6, ?_⟩
        simp only [Act.put, List.setIfInBounds_toArray, List.set_cons_zero, List.set_cons_succ]
        refine RD.h_any [14] (by kernel_rfl) (by simp) (RD.one_of ?_)
        refine RD.h_run (.slice AS sl cS) w6 rfl (by rfl) (by have c3 := t6.cell 1; simp only [List.getElem?_toArray, List.getElem?_cons_zero, List.getElem?_cons_succ] at c3; go_simp) ⟨b6, ?_⟩
        simp only [Act.put, List.setIfInBounds_toArray, List.set_cons_zero, List.set_cons_succ]
        refine RD.h_any [15] (by kernel_rfl) (by simp) (RD.one_of ?_)
        refine RD.h_call 12 _ rfl (by rfl) (by go_simp) ((rall_any A6 AS sl c6 cS D1.sure w6 R6.out S6.out (by have := HSL.out; omega)).mono ?_)
        rintro e w7 ⟨rfl, b7⟩
        have I7 := Lib.hid (I6.out.grow b7)
        have B7 := BN.out _ _ b6 b7
        clear b7
        refine ⟨_, rfl, B7, ?_⟩
        simp only [Act.put, List.setIfInBounds_toArray, List.set_cons_zero, List.set_cons_succ]
        refine RD.h_take 16 (.bool false) rfl (by kernel_rfl) (by kernel_rfl) (by kernel_rfl) (fun _ _ _ h => h) (by rfl) B7 (fun X hX => ?_) ?_
        · go_simp
        simp only [Act.put, List.setIfInBounds_toArray, List.set_cons_zero, List.set_cons_succ]
        refine RD.h_take 17 (.bool false) rfl (by kernel_rfl) (by kernel_rfl) (by kernel_rfl) (fun _ _ _ h => h) (by rfl) B7 (fun X hX => ?_) ?_
        · go_simp
        simp only [Act.put, List.setIfInBounds_toArray, List.set_cons_zero, List.set_cons_succ]
        refine RD.h_done (by kernel_rfl) ?_
        change K _ _
        apply hK
        have CT := Lib.hid (M.count N w7 g D1 F6 (OKN.out _ B7) I7.out.is)
        have BB := Lib.hid B7
        clear T5 t6 B7 b6 B5 BD D0
        go_wp2_with (go_at_call 14; ((with_reducible refine CT.out.mono ?_); rintro e w8 hp; obtain ⟨rfl, F8, i8, m8⟩ := I7.out.postL hp; have I8 := Lib.hid i8; have B8 := Lib.hid (BB.out.trans m8.bel); obtain ⟨V8, AS8, cS8, AW8, cW8, h8⟩ := i8.rk.form; have t8 := (h8 w8 (Nat.le_refl _) (fun _ _ _ => rfl)).1; have k2 : w8.cell? ⟨h, 2, none⟩ = some (.slice AW8 D1.pend.length cW8) := t8.cell 2; have k6 : w8.cell? ⟨h, 6, none⟩ = some (.int .i64 (D1.cnt : Int)) := t8.cell 6; clear i8 m8 hp h8 t8))
        go_roundg (80 - i)
        case rel => exact ⟨i + 1, D1, F8, G1, by omega, by omega, by go_num, I8.out, by have := N5.out; omega, B8.out⟩
        case measure => have := HIF.out; omega
      · refine RD.h_run (.slice AS sl cS) w5 rfl (by rfl) (by have c3 := T5.cell 1; simp only [List.getElem?_toArray, List.getElem?_cons_zero, List.getElem?_cons_succ] at c3; go_simp) ⟨B5, ?_⟩
        simp only [Act.put, List.setIfInBounds_toArray, List.set_cons_zero, List.set_cons_succ]
        refine RD.h_any [10] (by kernel_rfl) (by simp) (RD.one_of ?_)
        refine RD.h_call 13 _ rfl (by rfl) (by go_simp) (SU.out.mono ?_)
        rintro e w6 ⟨A6, c6, F6, rfl, r6, i6, s6, t6, b6⟩
        have I6 := Lib.hid i6
        have R6 := Lib.hid r6
        have S6 := Lib.hid s6
        clear i6 r6 s6
        refine ⟨_, rfl, b6, ?_⟩
        simp only [Act.put, List.setIfInBounds_toArray, List.set_cons_zero, List.set_cons_succ]
        refine RD.h_any [15] (by kernel_rfl) (by simp) (RD.one_of ?_)
        refine RD.h_call 12 _ rfl (by rfl) (by go_simp) ((rall_any A6 AS sl c6 cS D1.sure w6 R6.out S6.out (by have := HSL.out; omega)).mono ?_)
        rintro e w7 ⟨rfl, b7⟩
        have I7 := Lib.hid (I6.out.grow b7)
        have B7 := BN.out _ _ b6 b7
        clear b7
        refine ⟨_, rfl, B7, ?_⟩
        simp only [Act.put, List.setIfInBounds_toArray, List.set_cons_zero, List.set_cons_succ]
        refine RD.h_take 16 (.bool false) rfl (by kernel_rfl) (by kernel_rfl) (by kernel_rfl) (fun _ _ _ h => h) (by rfl) B7 (fun X hX => ?_) ?_
        · go_simp
        simp only [Act.put, List.setIfInBounds_toArray, List.set_cons_zero, List.set_cons_succ]
        refine RD.h_take 17 (.bool false) rfl (by kernel_rfl) (by kernel_rfl) (by kernel_rfl) (fun _ _ _ h => h) (by rfl) B7 (fun X hX => ?_) ?_
        · go_simp
        simp only [Act.put, List.setIfInBounds_toArray, List.set_cons_zero, List.set_cons_succ]
        refine RD.h_done (by kernel_rfl) ?_
        change K _ _
        apply hK
        have CT := Lib.hid (M.count N w7 g D1 F6 (OKN.out _ B7) I7.out.is)
        have BB := Lib.hid B7
        clear T5 t6 B7 b6 B5 BD D0
        go_wp2_with (go_at_call 14; ((with_reducible refine CT.out.mono ?_); rintro e w8 hp; obtain ⟨rfl, F8, i8, m8⟩ := I7.out.postL hp; have I8 := Lib.hid i8; have B8 := Lib.hid (BB.out.trans m8.bel); obtain ⟨V8, AS8, cS8, AW8, cW8, h8⟩ := i8.rk.form; have t8 := (h8 w8 (Nat.le_refl _) (fun _ _ _ => rfl)).1; have k2 : w8.cell? ⟨h, 2, none⟩ = some (.slice AW8 D1.pend.length cW8) := t8.cell 2; have k6 : w8.cell? ⟨h, 6, none⟩ = some (.int .i64 (D1.cnt : Int)) := t8.cell 6; clear i8 m8 hp h8 t8))
        go_roundg (80 - i)
        case rel => exact ⟨i + 1, D1, F8, G1, by omega, by omega, by go_num, I8.out, by have := N5.out; omega, B8.out⟩
        case measure => have := HIF.out; omega
    · have HB := BR.out
      by_cases h3 : i < nA
      · have t1 : (i : Int) < (nA : Int) := by omega
        have t2 : ¬ (i : Int) < 80 := by omega
        clear h1 h3
        go_wp2_with (fail)
        go_ret
        exact ⟨rfl, by first | exact BR.out | (rw [hN0.out]; exact BR.out)⟩
      · have t1 : ¬ (i : Int) < (nA : Int) := by omega
        clear h1 h3
        go_wp2_with (fail)
        go_ret
        exact ⟨rfl, by first | exact BR.out | (rw [hN0.out]; exact BR.out)⟩
end Go.Proofs.Ytammgingmkdfhaa.S19
