/-
  Texts put together: Yf3, YfL, XmK, XmL. No statement is proved here.
-/
import Derived.Test.YtkpfppiedadmbaaGreatDoorWn38
import Derived.Test.YtkpfppiedadmbaaGreatDoorWn36
import Derived.Test.YtkpfppiedadmbaaGreatDoorWn18
import Derived.Test.YtkpfppiedadmbaaGreatDoorWn29

/-
  The document's own Fits of layer 16, of whatever is handed over. No statement is proved here.
-/
namespace Go.Proofs.YtkpfppiedadmbaaGreatDoor.S16
set_option linter.unusedSimpArgs false
set_option linter.unusedVariables false
set_option maxRecDepth 4096
open Go.RowKit S15

set_option maxHeartbeats 4000000 in
theorem rfits_beyond (l k : Nat) (Ap : Option Addr) (cp : Nat) (At : Option Addr) (nt ct : Nat) (Ag : Option Addr) (cg : Nat) (sig : List UInt8) (w : World) (hg : Rd w Ag (sizeN l k) cg sig) (hm : mayX l k = true) (h6 : nt ≤ 65536) (hn : totN l k ≤ getL (sig.take 8)) :
    Calls Tryz.prog 15 #[.agg (shA l k), .slice Ap 64 cp, .slice At nt ct, .slice Ag (sizeN l k) cg] w (GivesB false w) := by
  obtain ⟨nn, hnn⟩ : ∃ nn, nn = getL (sig.take 8) := ⟨_, rfl⟩
  obtain ⟨S, hS⟩ : ∃ S, S = sizeN l k := ⟨_, rfl⟩
  have SB : 8 ≤ S := by rw [hS]; unfold sizeN; omega
  rw [← hnn] at hn
  rw [← hS] at hg ⊢
  have HG := Lib.hid hg
  have cgS := hg.cap
  have G3 : ∀ W, (Instr.slice 24 (.slice Ag S cg) none (some (.int .i64 8)) none).run Tryz.prog W = .ok (.slice Ag 8 cg) W := fun W => run_cutSlH (m := 8) rfl (by omega) W
  have G4 : ∀ W, (Instr.sliceAt 24 (.slice Ag S cg) none (some (.int .i64 8)) none).run Tryz.prog W = .ok (.slice Ag 8 cg) W := fun W => run_cutSlHAt (m := 8) rfl (by omega) W
  have CM := Lib.hid (show ∀ X, Calls Tryz.prog 19 #[.agg #[.int .i64 (l : Int), .int .i64 (k : Int)]] X (GivesB true X) from fun X => by rw [← hm]; exact rmay16_any l k X)
  have CS := Lib.hid (show ∀ X, Calls Tryz.prog 48 #[.agg #[.int .i64 (l : Int), .int .i64 (k : Int)]] X (GivesV (.int .i64 (S : Int)) X) from fun X => by rw [hS, ← sizeX_may hm]; exact rsize_any l k X)
  obtain ⟨T, hT⟩ : ∃ T, T = totX l k := ⟨_, rfl⟩
  have CT := Lib.hid (show ∀ X, Calls Tryz.prog 32 #[.agg #[.int .i64 (l : Int), .int .i64 (k : Int)]] X (GivesV (.int .u64 (T : Int)) X) from fun X => by rw [hT]; exact rtot_any l k X)
  have tn : (T : Int) ≤ (nn : Int) := by
    have : T = totN l k := by rw [hT, totX, if_pos hm]; rfl
    omega
  have CG := Lib.hid (show ∀ X, Below w.heap.size w X → Calls Tryz.prog 49 #[.slice Ag 8 cg] X fun e w' => e = .returned (.tuple #[.int .u64 (nn : Int), .bool true]) ∧ X = w' from fun X hX => by rw [hnn]; exact rget_any16 Ag 8 cg (sig.take 8) X (by omega) ((HG.out.below hX).take (by omega)))
  have t6 : ¬ (65536 : Int) < (nt : Int) := by omega
  clear hn hnn hT hm hS hg h6
  obtain ⟨g, hgg⟩ : ∃ g, w.heap.size = g := ⟨_, rfl⟩
  obtain ⟨w0, hw0⟩ : ∃ w0, w.alloc (.cells (shA l k) 23) = w0 := ⟨_, rfl⟩
  have M0 := Lib.hid (show Bk w0 g 23 (shA l k) by rw [← hw0, ← hgg]; exact Bk.new _ _ _)
  have B0 := Lib.hid (show Below w.heap.size w w0 by rw [← hw0]; exact (Below.refl _ _).alloc (Nat.le_refl _) _)
  have k0 : w0.cell? ⟨g, 0, none⟩ = some (.int .i64 (l : Int)) := M0.out.cell 0
  have k1 : w0.cell? ⟨g, 1, none⟩ = some (.int .i64 (k : Int)) := M0.out.cell 1
  go_enter Tryz.func15, Tryz.ntmps15
  go_upto_region 1 with (fail)
  clear hw0 hgg
  go_wp2_with (first
    | (go_at_call 19; ((with_reducible refine (CM.out _).mono ?_); rintro e w1 ⟨rfl, b1⟩; have B1 := Lib.hid (B0.out.trans (b1.mono B0.out.size)); have M1 := Lib.hid (M0.out.below b1 M0.out.lt); have j1 := M1.out.cell 0; have i1 := M1.out.cell 1; simp only [List.getElem?_toArray, List.getElem?_cons_zero, List.getElem?_cons_succ] at j1 i1; clear b1))
    | (go_at_call 48; ((with_reducible refine (CS.out _).mono ?_); rintro e w2 ⟨rfl, b2⟩; have B2 := Lib.hid (B1.out.trans (b2.mono B1.out.size)); have M2 := Lib.hid (M1.out.below b2 M1.out.lt); have j2 := M2.out.cell 0; have i2 := M2.out.cell 1; simp only [List.getElem?_toArray, List.getElem?_cons_zero, List.getElem?_cons_succ] at j2 i2; clear b2))
    | (go_at_call 49; ((with_reducible refine (CG.out _ B2.out).mono ?_); rintro e w9 ⟨rfl, rfl⟩))
    | (go_at_call 32; ((with_reducible refine (CT.out _).mono ?_); rintro e w3 ⟨rfl, b3⟩; have B3 := Lib.hid (B2.out.trans (b3.mono B2.out.size)); clear b3)))
  go_ret
  exact ⟨rfl, B3.out⟩

theorem rfits_any (L H : Int) (Ap : Option Addr) (np cp : Nat) (pub : List UInt8) (At : Option Addr) (nt ct : Nat) (text : List UInt8) (Ag : Option Addr) (ng cg : Nat) (sig : List UInt8) (w : World) (hp : Rd w Ap np cp pub) (ht : Rd w At nt ct text) (hg : Rd w Ag ng cg sig) :
    Calls Tryz.prog 15 #[.agg (shA L H), .slice Ap np cp, .slice At nt ct, .slice Ag ng cg] w (GivesB (fitX L H pub text sig) w) := by
  by_cases hm : mayX L H = true
  · obtain ⟨l, k, rfl, rfl, h1, h2, h3, h4, h5⟩ := mayX_nat hm
    by_cases hc : np = 64 ∧ ng = sizeN l k ∧ nt ≤ 65536
    · obtain ⟨rfl, rfl, h6⟩ := hc
      have e : fitX l k pub text sig = fitN l k pub text sig := by
        rw [fitX, if_pos ⟨hm, hp.len, hg.len, by rw [ht.len]; exact h6⟩]
        rfl
      rw [e]
      by_cases hn : getL (sig.take 8) < totN l k
      · exact rfits_may l k Ap cp pub At nt ct text Ag cg sig w hp ht hg hm h6 hn
      · have e2 : fitN l k pub text sig = false := by simp [fitN, hn]
        rw [e2]
        exact rfits_beyond l k Ap cp At nt ct Ag cg sig w hg hm h6 (by omega)
    · have e : fitX l k pub text sig = false := by
        rw [fitX, if_neg]
        rintro ⟨_, q1, q2, q3⟩
        exact hc ⟨hp.len.symm.trans q1, hg.len.symm.trans q2, by rw [← ht.len]; exact q3⟩
      rw [e]
      exact rfits_not l k Ap np cp At nt ct Ag ng cg w (by rw [sizeX_may hm]; omega)
  · have e : fitX L H pub text sig = false := by rw [fitX, if_neg fun c => hm c.1]
    rw [e]
    exact rfits_not L H Ap np cp At nt ct Ag ng cg w (.inl (by simpa using hm))
end Go.Proofs.YtkpfppiedadmbaaGreatDoor.S16

/-
  The walk of layer 16's third statement. No statement is proved here. (Written by genyl.py.)
-/
namespace Go.Proofs.YtkpfppiedadmbaaGreatDoor.S16
set_option linter.unusedSimpArgs false
set_option linter.unusedVariables false
set_option maxRecDepth 4096
open Go.RowKit S15

set_option maxHeartbeats 4000000 in
theorem xmssFits_walk (M : XC) (w : World) (hk : M.ok w) (L H : Int) (Ap : Option Addr) (np cp : Nat) (pub : List UInt8) (hp : Rd w Ap np cp pub) (At : Option Addr) (nt ct : Nat) (text : List UInt8) (ht : Rd w At nt ct text) (Ag : Option Addr) (ng cg : Nat) (sig : List UInt8) (hg : Rd w Ag ng cg sig) :
    Calls Tryz.prog 4 #[.agg (shA L H), .slice Ap np cp, .agg #[.slice At nt ct, .slice Ag ng cg]] w (GivesB true w) := by
  have HK := Lib.hid hk
  obtain ⟨fb, hfb⟩ : ∃ fb, fb = fitX L H pub text sig := ⟨_, rfl⟩
  have C1 := Lib.hid (show ∀ X, Below w.heap.size w X → Calls Tryz.prog 14 #[.agg #[.int .i64 L, .int .i64 H], .slice Ap np cp, .slice At nt ct, .slice Ag ng cg] X (GivesB fb X) from fun X h => by rw [hfb]; exact M.fits L H Ap np cp pub At nt ct text Ag ng cg sig X (M.bel HK.out h) (hp.below h) (ht.below h) (hg.below h))
  have C2 := Lib.hid (show ∀ X, Below w.heap.size w X → Calls Tryz.prog 15 #[.agg #[.int .i64 L, .int .i64 H], .slice Ap np cp, .slice At nt ct, .slice Ag ng cg] X (GivesB fb X) from fun X h => by rw [hfb]; exact rfits_any L H Ap np cp pub At nt ct text Ag ng cg sig X (hp.below h) (ht.below h) (hg.below h))
  have z1 : (fb == fb) = true := by simp
  clear hfb hk hp ht hg
  obtain ⟨g, hgg⟩ : ∃ g, w.heap.size = g := ⟨_, rfl⟩
  obtain ⟨w0, hw0⟩ : ∃ w0, (w.alloc (.cells (shA L H) 23)).alloc (.cells #[.slice At nt ct, .slice Ag ng cg] 41) = w0 := ⟨_, rfl⟩
  have M0 := Lib.hid (show Bk w0 g 23 (shA L H) by rw [← hw0, ← hgg]; exact (Bk.new _ _ _).alloc _)
  have G0 := Lib.hid (show Bk w0 (g + 1) 41 #[.slice At nt ct, .slice Ag ng cg] by rw [← hw0, ← hgg]; exact Bk.newAt _ _ _ _ (by simp))
  have B0 := Lib.hid (show Below w.heap.size w w0 by rw [← hw0]; exact ((Below.refl _ _).alloc (Nat.le_refl _) _).alloc (by simp) _)
  by_cases q1 : 200 < np
  · have u1 : (200 : Int) < (np : Int) := by omega
    go_enter Tryz.func4, Tryz.ntmps4
    go_upto_region 1 with (fail)
    clear hw0 hgg
    go_wp2_with (go_at_call 5; ((with_reducible refine (awake16 M _ (M.bel HK.out B0.out)).mono ?_); rintro e w1 ⟨rfl, b1⟩; have B1 := Lib.hid (B0.out.trans (b1.mono B0.out.size)); have M1 := Lib.hid (M0.out.below b1 M0.out.lt); have G1 := Lib.hid (G0.out.below b1 G0.out.lt); have j0 := G1.out.cell 0; have j1 := G1.out.cell 1; simp only [List.getElem?_toArray, List.getElem?_cons_zero, List.getElem?_cons_succ] at j0 j1; clear b1))
    go_ret
    exact ⟨rfl, B1.out⟩
  have u1 : ¬ (200 : Int) < (np : Int) := by omega
  by_cases q2 : 2000 < nt
  · have u2 : (2000 : Int) < (nt : Int) := by omega
    go_enter Tryz.func4, Tryz.ntmps4
    go_upto_region 1 with (fail)
    clear hw0 hgg
    go_wp2_with (go_at_call 5; ((with_reducible refine (awake16 M _ (M.bel HK.out B0.out)).mono ?_); rintro e w1 ⟨rfl, b1⟩; have B1 := Lib.hid (B0.out.trans (b1.mono B0.out.size)); have M1 := Lib.hid (M0.out.below b1 M0.out.lt); have G1 := Lib.hid (G0.out.below b1 G0.out.lt); have j0 := G1.out.cell 0; have j1 := G1.out.cell 1; simp only [List.getElem?_toArray, List.getElem?_cons_zero, List.getElem?_cons_succ] at j0 j1; clear b1))
    go_ret
    exact ⟨rfl, B1.out⟩
  have u2 : ¬ (2000 : Int) < (nt : Int) := by omega
  by_cases q3 : 40000 < ng
  · have u3 : (40000 : Int) < (ng : Int) := by omega
    go_enter Tryz.func4, Tryz.ntmps4
    go_upto_region 1 with (fail)
    clear hw0 hgg
    go_wp2_with (go_at_call 5; ((with_reducible refine (awake16 M _ (M.bel HK.out B0.out)).mono ?_); rintro e w1 ⟨rfl, b1⟩; have B1 := Lib.hid (B0.out.trans (b1.mono B0.out.size)); have M1 := Lib.hid (M0.out.below b1 M0.out.lt); have G1 := Lib.hid (G0.out.below b1 G0.out.lt); have j0 := G1.out.cell 0; have j1 := G1.out.cell 1; simp only [List.getElem?_toArray, List.getElem?_cons_zero, List.getElem?_cons_succ] at j0 j1; clear b1))
    go_ret
    exact ⟨rfl, B1.out⟩
  have u3 : ¬ (40000 : Int) < (ng : Int) := by omega
  go_enter Tryz.func4, Tryz.ntmps4
  go_upto_region 1 with (fail)
  clear hw0 hgg
  go_upto_region 5 with (go_at_call 5; ((with_reducible refine (awake16 M _ (M.bel HK.out B0.out)).mono ?_); rintro e w1 ⟨rfl, b1⟩; have B1 := Lib.hid (B0.out.trans (b1.mono B0.out.size)); have M1 := Lib.hid (M0.out.below b1 M0.out.lt); have G1 := Lib.hid (G0.out.below b1 G0.out.lt); have j0 := G1.out.cell 0; have j1 := G1.out.cell 1; simp only [List.getElem?_toArray, List.getElem?_cons_zero, List.getElem?_cons_succ] at j0 j1; clear b1))
  have KS := Lib.hid (show ∀ X, Below w1.heap.size w1 X → X.cell? ⟨g, 0, none⟩ = some (.int .i64 L) ∧ X.cell? ⟨g, 1, none⟩ = some (.int .i64 H) ∧ X.cell? ⟨g + 1, 0, none⟩ = some (.slice At nt ct) ∧ X.cell? ⟨g + 1, 1, none⟩ = some (.slice Ag ng cg) from fun X hX => ⟨(M1.out.below hX M1.out.lt).cell 0, (M1.out.below hX M1.out.lt).cell 1, (G1.out.below hX G1.out.lt).cell 0, (G1.out.below hX G1.out.lt).cell 1⟩)
  have BW := Lib.hid (show ∀ X, Below w1.heap.size w1 X → Below w.heap.size w X from fun X hX => B1.out.trans (hX.mono B1.out.size))
  have NX := Lib.hid (show ∀ X Y, Below w1.heap.size w1 X → Below X.heap.size X Y → Below w1.heap.size w1 Y from fun X Y h h' => h.trans (h'.mono h.size))
  clear j0 j1 u1 u2 u3 q1 q2 q3
  refine wp_region_steady (fun X => Below w1.heap.size w1 X) (by kernel_rfl) (by kernel_rfl) (Below.refl _ _).drew ?_
  repeat (first | (refine seq_pure (v := ?_) (by rfl) ?_ ?_; rotate_left; (· (intro w' hS; obtain ⟨c0, c1, c2, c3⟩ := KS.out w' hS; go_simp; try with_reducible rfl)); simp only [Act.put, List.setIfInBounds_toArray, List.set_cons_zero, List.set_cons_succ]) | fail)
  refine seq_call (f := 14) (args := #[.agg #[.int .i64 L, .int .i64 H], .slice Ap np cp, .slice At nt ct, .slice Ag ng cg]) (v := .bool fb) (by rfl) ?_ ?_ ?_
  · intro w' hS; obtain ⟨c0, c1, c2, c3⟩ := KS.out w' hS; go_simp
  · intro w' hS; exact (C1.out _ (BW.out _ hS)).mono fun e w'' ⟨h1, h2⟩ => ⟨h1, NX.out _ _ hS h2⟩
  simp only [Act.put, List.setIfInBounds_toArray, List.set_cons_zero, List.set_cons_succ]
  repeat (first | (refine seq_pure (v := ?_) (by rfl) ?_ ?_; rotate_left; (· (intro w' hS; obtain ⟨c0, c1, c2, c3⟩ := KS.out w' hS; go_simp; try with_reducible rfl)); simp only [Act.put, List.setIfInBounds_toArray, List.set_cons_zero, List.set_cons_succ]) | fail)
  refine seq_call (f := 15) (args := #[.agg #[.int .i64 L, .int .i64 H], .slice Ap np cp, .slice At nt ct, .slice Ag ng cg]) (v := .bool fb) (by rfl) ?_ ?_ ?_
  · intro w' hS; obtain ⟨c0, c1, c2, c3⟩ := KS.out w' hS; go_simp
  · intro w' hS; exact (C2.out _ (BW.out _ hS)).mono fun e w'' ⟨h1, h2⟩ => ⟨h1, NX.out _ _ hS h2⟩
  simp only [Act.put, List.setIfInBounds_toArray, List.set_cons_zero, List.set_cons_succ]
  repeat (first | (refine seq_pure (v := ?_) (by rfl) ?_ ?_; rotate_left; (· (intro w' hS; obtain ⟨c0, c1, c2, c3⟩ := KS.out w' hS; go_simp; try with_reducible rfl)); simp only [Act.put, List.setIfInBounds_toArray, List.set_cons_zero, List.set_cons_succ]) | fail)
  refine seq_nil ?_
  intro w9 s9
  go_wp2
  go_ret
  exact ⟨rfl, BW.out _ s9⟩
end Go.Proofs.YtkpfppiedadmbaaGreatDoor.S16

/-
  The landed package xmss: one tree more, one row more. No statement is proved here.
-/
namespace Go.Proofs.YtkpfppiedadmbaaGreatDoor.S16
set_option linter.unusedSimpArgs false
set_option linter.unusedVariables false
set_option maxRecDepth 1024
open Go.RowKit S15 RD

theorem Tryz.infoSums : (Tryz.prog.info? 54).map (fun i => (i.zero, i.size, i.bytes)) = some (some (.slice none 0 0), 1, 24) := by kernel_rfl
theorem grown_set (X : World) (g i : Nat) (v : Value) : X.grownBy (X.setCell ⟨g, i, none⟩ v) (some g) := by
  have h := (Below.refl g X).setCell (p := ⟨g, i, none⟩) (Nat.le_refl _) v
  exact ⟨h.os, h.tape, h.output, h.size, fun k _ hk => Below.heap_setCell X ⟨g, i, none⟩ v k fun e => hk (by rw [show k = g from e])⟩
theorem own_cells {w : World} {B e n b : Nat} {v : Value} {xs : List Value} (h : w.ownsRow B e 1 v n xs) (hb : v.ownBlock = some b) : ∃ o : Obj, w.heap[b]? = some o ∧ o.isCells = true := by
  rcases h.2 with ⟨rfl, _⟩ | ⟨g, cap, cur, rfl, _, hh, _⟩
  · simp [Value.ownBlock] at hb
  · simp [Value.ownBlock] at hb
    subst hb
    exact ⟨_, hh, rfl⟩
theorem Gr.far {P : El} {T : TypeId} {w : World} {B n q g : Nat} {v u : Value} {vs : List Value} (hP : FP P) (h : Gr P T w B v n q vs) (hg : g < B) (i : Nat) : Gr P T (w.setCell ⟨g, i, none⟩ u) B v n q vs :=
  h.keep hP (grown_set w g i u) fun b e => by cases e; exact hg
/-- One tree more. -/
theorem TI.step {w wL W X1 X3 : World} {sec sd : List UInt8} {h n ET bn k z gg cap c5 : Nat} {v : Value} {vs : List Value} {A5 : Option Addr} (hw : w.heap.size ≤ ET) (hd : ET < bn) (hb : bn < wL.heap.size) (hI : TI w wL sec sd h n ET bn k z W) (hzw : wL.heap.size ≤ z) (hz : z ≤ W.heap.size)
    (hB : Bk W ET 47 #[v]) (hR : Gr (treesE sec sd h n) 54 W wL.heap.size v k k vs) (hlt : ∀ b, v.ownBlock = some b → b < z)
    (b5 : Below W.drew.heap.size W.drew X1) (s5 : Sl (treeE sec sd k (nT h n (k + 1)) h) X1 (fun b => W.drew.heap.size ≤ b) A5 (h + 1) c5)
    (o3 : X3.ownsRow wL.heap.size 54 1 (.slice (some ⟨gg, 0, none⟩) (k + 1) cap) (k + 1) (vs ++ [.slice A5 (h + 1) c5])) (g3 : (X1.alloc (.cells #[.slice A5 (h + 1) c5] 54)).grownBy X3 v.ownBlock) (a3 : v.ownBlock = some gg ∨ gg = X1.heap.size + 1) (l3 : gg < X3.heap.size) :
    KeepsFrom wL.heap.size W (X3.setCell ⟨ET, 0, none⟩ (.slice (some ⟨gg, 0, none⟩) (k + 1) cap)) ∧ (∀ (b : Nat) (o : Obj), z ≤ b → W.heap[b]? = some o → o.isCells = true → (X3.setCell ⟨ET, 0, none⟩ (.slice (some ⟨gg, 0, none⟩) (k + 1) cap)).heap[b]? = some o) ∧
      Bk (X3.setCell ⟨ET, 0, none⟩ (.slice (some ⟨gg, 0, none⟩) (k + 1) cap)) bn 27 #[.int .u64 ((nT h n k : Nat) : Int)] ∧
      ∀ z', (X3.setCell ⟨ET, 0, none⟩ (.slice (some ⟨gg, 0, none⟩) (k + 1) cap)).heap.size ≤ z' → TI w wL sec sd h n ET bn (k + 1) z' ((X3.setCell ⟨ET, 0, none⟩ (.slice (some ⟨gg, 0, none⟩) (k + 1) cap)).setCell ⟨bn, 0, none⟩ (.int .u64 ((nT h n (k + 1) : Nat) : Int))) := by
  have hbW : Below W.heap.size W X1 := (Below.refl _ _).drew.trans b5
  have hbA : Below W.heap.size W (X1.alloc (.cells #[.slice A5 (h + 1) c5] 54)) := hbW.alloc hbW.size _
  have hrow : ∀ r, v.ownBlock = some r → wL.heap.size ≤ r := fun r e => (hR.own.lt r e).1
  have k3 : KX W.heap.size (fun b => b = ET ∨ v.ownBlock = some b) W X3 := (KX.bel hbA (Nat.le_refl _)).trans (KX.grown' g3 hbA.size fun r e => .inr (.inr e))
  have k8 : KX W.heap.size (fun b => b = ET ∨ v.ownBlock = some b) W (X3.setCell ⟨ET, 0, none⟩ (.slice (some ⟨gg, 0, none⟩) (k + 1) cap)) := k3.trans (KX.set (.inl rfl) _ _ _)
  have hkw := hI.ke.size
  have hbn : Bk (X3.setCell ⟨ET, 0, none⟩ (.slice (some ⟨gg, 0, none⟩) (k + 1) cap)) bn 27 #[.int .u64 ((nT h n k : Nat) : Int)] := k8.bk hI.box hI.box.lt (by
    rintro (e | e)
    · omega
    · have := hrow _ e; omega)
  have hE3 : Bk X3 ET 47 #[v] := (hB.below hbA hB.lt).only g3 (fun e => by have := hrow _ e.symm; omega)
  refine ⟨⟨k8.size, fun b o hb' ho hoc => (k8.same b (Array.getElem?_eq_some_iff.1 ho).1 ?_).trans ho⟩, fun b o hb' ho hoc => (k8.same b (Array.getElem?_eq_some_iff.1 ho).1 ?_).trans ho, hbn, fun z' hz' => ⟨?_, ?_, hbn.put 0 _, .slice (some ⟨gg, 0, none⟩) (k + 1) cap, vs ++ [.slice A5 (h + 1) c5], ?_, ?_, ?_⟩⟩
  · rintro (e | e)
    · omega
    · obtain ⟨o', h1, h2⟩ := own_cells hR.own e
      rw [ho] at h1
      cases h1
      rw [hoc] at h2
      cases h2
  · rintro (e | e)
    · omega
    · have := hlt _ e; omega
  · refine (hI.ke.trans (k8.mono hkw fun b hb' e => ?_)).trans (KX.set (.inr rfl) _ _ _)
    rcases e with e | e
    · exact .inl e
    · have := hrow _ e; omega
  · have h1 : Below w.heap.size w X3 := (hI.bel.trans (hbA.mono hI.bel.size)).grown g3 (Nat.le_trans hI.bel.size hbA.size) (fun r e => by have := hrow _ e; omega)
    exact (h1.setCell (p := ⟨ET, 0, none⟩) hw _).setCell (p := ⟨bn, 0, none⟩) (by show w.heap.size ≤ bn; omega) _
  · exact (hE3.put 0 _).far (by show ET ≠ bn; omega) _
  · have h1 : Gr (treesE sec sd h n) 54 X3 wL.heap.size (.slice (some ⟨gg, 0, none⟩) (k + 1) cap) (k + 1) (k + 1) (vs ++ [.slice A5 (h + 1) c5]) := by
      refine (hR.below (treesE_fp _ _ _ _) hbA).push (treesE_fp _ _ _ _) o3 g3 ?_ fun i hi => ?_
      · rcases a3 with a3 | a3
        · exact .inl a3.symm
        · exact .inr (by simp [Value.ownBlock, a3])
      · obtain rfl : i = 0 := by omega
        refine ⟨_, rfl, A5, c5, rfl, ?_⟩
        refine (s5.below (treeE_fp _ _ _ _ _) ((Below.refl _ _).alloc (Nat.le_refl _) _)).weak (treeE_fp _ _ _ _ _) fun b hb' => ⟨?_, fun e => ?_⟩
        · have : W.drew.heap.size = W.heap.size := rfl
          omega
        · have h2 := hlt b e
          have : W.drew.heap.size = W.heap.size := rfl
          omega
    exact (h1.far (treesE_fp _ _ _ _) (by omega) 0).far (treesE_fp _ _ _ _) hb 0
  · intro b e
    simp [Value.ownBlock] at e
    simp at hz'
    omega
end Go.Proofs.YtkpfppiedadmbaaGreatDoor.S16

/-
  The landed package xmss: parts put behind others. No statement is proved here.
-/
namespace Go.Proofs.YtkpfppiedadmbaaGreatDoor.S16
set_option linter.unusedSimpArgs false
set_option linter.unusedVariables false
set_option maxRecDepth 1024
open Go.RowKit S15 RD

/-- Rows are not touched where a box of no byte is set. -/
theorem Gr.boxR {f : Nat → List UInt8} {T T' : TypeId} {w : World} {B n q g : Nat} {v u0 u : Value} {vs : List Value} (h : Gr (rowE f) T w B v n q vs) (hb : Bk w g T' #[u0]) (hu : ∀ x : UInt8, u0 ≠ .int .u8 (x.toNat : Int)) (hv : v.ownBlock ≠ some g) : Gr (rowE f) T (w.setCell ⟨g, 0, none⟩ u) B v n q vs :=
  ⟨own_only h.own (grown_set w g 0 u) hv, fun j hj => by
    obtain ⟨x, h1, A, m, c, rfl, h2, h3⟩ := h.el j hj
    exact ⟨_, h1, A, m, c, rfl, rd_box h2 hb hu 0 u, h3⟩⟩
theorem push_step {f : Nat → List UInt8} {w W Y Y1 X3 : World} {E2 : Nat → Prop} {EP cnt m gg cap : Nat} {v : Value} {vs news : List Value}
    (hk : KX W.heap.size E2 W Y) (hb : Below w.heap.size w Y) (hEP : E2 EP) (hw : w.heap.size ≤ EP) (hB : Bk Y EP 61 #[v]) (hR : Gr (rowE f) 24 Y w.heap.size v cnt cnt vs) (hv : v.ownBlock ≠ some EP) (hown : ∀ r, v.ownBlock = some r → W.heap.size ≤ r ∨ E2 r) (hn0 : 0 < cnt)
    (b1 : Below Y.heap.size Y Y1) (hn : ∀ i, i < m → ∃ u, news[i]? = some u ∧ rowE f Y1 (fun b => w.heap.size ≤ b ∧ v.ownBlock ≠ some b) (cnt + i) u)
    (o3 : X3.ownsRow w.heap.size 24 1 (.slice (some ⟨gg, 0, none⟩) (cnt + m) cap) (cnt + m) (vs ++ news)) (g3 : Y1.grownBy X3 v.ownBlock) (a3 : v.ownBlock = some gg ∨ gg = Y1.heap.size) (l3 : gg < X3.heap.size) :
    KX W.heap.size E2 W X3 ∧ Bk X3 EP 61 #[v] ∧ KX W.heap.size E2 W (X3.setCell ⟨EP, 0, none⟩ (.slice (some ⟨gg, 0, none⟩) (cnt + m) cap)) ∧ Below w.heap.size w (X3.setCell ⟨EP, 0, none⟩ (.slice (some ⟨gg, 0, none⟩) (cnt + m) cap)) ∧
      Bk (X3.setCell ⟨EP, 0, none⟩ (.slice (some ⟨gg, 0, none⟩) (cnt + m) cap)) EP 61 #[.slice (some ⟨gg, 0, none⟩) (cnt + m) cap] ∧
      Gr (rowE f) 24 (X3.setCell ⟨EP, 0, none⟩ (.slice (some ⟨gg, 0, none⟩) (cnt + m) cap)) w.heap.size (.slice (some ⟨gg, 0, none⟩) (cnt + m) cap) (cnt + m) (cnt + m) (vs ++ news) ∧ gg ≠ EP ∧ (v.ownBlock = some gg ∨ W.heap.size ≤ gg) ∧ gg < (X3.setCell ⟨EP, 0, none⟩ (.slice (some ⟨gg, 0, none⟩) (cnt + m) cap)).heap.size := by
  have h1 : KX W.heap.size E2 W Y1 := hk.trans (KX.bel b1 hk.size)
  have h3 : KX W.heap.size E2 W X3 := h1.trans (KX.grown' g3 h1.size hown)
  have hB3 : Bk X3 EP 61 #[v] := (hB.below b1 hB.lt).only g3 fun e => hv e.symm
  have hb3 : Below w.heap.size w X3 := (hb.trans (b1.mono hb.size)).grown g3 (Nat.le_trans hb.size b1.size) (fun r e => (hR.own.lt r e).1)
  have hne : gg ≠ EP := by
    rcases a3 with a3 | a3
    · intro e
      exact hv (by rw [a3, e])
    · have h5 := hB.lt
      have h6 := b1.size
      omega
  have hG : Gr (rowE f) 24 X3 w.heap.size (.slice (some ⟨gg, 0, none⟩) (cnt + m) cap) (cnt + m) (cnt + m) (vs ++ news) := by
    refine (hR.below (rowE_fp _) b1).push (rowE_fp _) o3 g3 ?_ hn
    rcases a3 with a3 | a3
    · exact .inl a3.symm
    · exact .inr (by simp [Value.ownBlock, a3])
  have hnu : ∀ x : UInt8, v ≠ .int .u8 (x.toNat : Int) := by
    obtain ⟨A, c, rfl⟩ := hR.form
    exact no_u8_slice
  refine ⟨h3, hB3, h3.trans (KX.set hEP _ _ _), hb3.setCell (p := ⟨EP, 0, none⟩) hw _, hB3.put 0 _, hG.boxR hB3 hnu (by simp [Value.ownBlock]; omega), hne, ?_, by simpa using l3⟩
  rcases a3 with a3 | a3
  · exact .inl a3
  · exact .inr (by have := h1.size; omega)
/-- What a round has come to: all that follows. -/
theorem PI.done {w wL W X : World} {sec salt sd : List UInt8} {h n ES EP bn dP k z gg cap c : Nat} {tx : List UInt8} {A : Option Addr} {v : Value} {vs : List Value} (hw : w.heap.size ≤ ES) (h1 : ES < dP) (h2 : dP < EP) (h3 : EP < bn) (h4 : bn < wL.heap.size) (hI : PI w wL sec salt sd h n ES EP bn dP tx k z W) (hzw : wL.heap.size ≤ z)
    (hv : ∀ b, v.ownBlock = some b → b < z ∧ (b = dP ∨ wL.heap.size ≤ b)) (hvc : ∀ b, v.ownBlock = some b → ∃ o : Obj, W.heap[b]? = some o ∧ o.isCells = true)
    (hk : KX W.heap.size (fun b => b = ES ∨ b = EP ∨ v.ownBlock = some b) W X) (hb : Below w.heap.size w X) (hS : Bk X ES 24 #[.slice A 32 c]) (hr : Rd X A 32 c (ofN sec sd h n tx (k + 1))) (ha : ∀ a, A = some a → a.block < ES)
    (hP : Bk X EP 61 #[.slice (some ⟨gg, 0, none⟩) (2 + (k + 1) * (h + 1)) cap]) (hG : Gr (rowE (partR sec salt sd h n tx)) 24 X w.heap.size (.slice (some ⟨gg, 0, none⟩) (2 + (k + 1) * (h + 1)) cap) (2 + (k + 1) * (h + 1)) (2 + (k + 1) * (h + 1)) vs) (hgg : v.ownBlock = some gg ∨ W.heap.size ≤ gg) (hlt : gg < X.heap.size) :
    KeepsFrom wL.heap.size W X ∧ (∀ (b : Nat) (o : Obj), z ≤ b → W.heap[b]? = some o → o.isCells = true → X.heap[b]? = some o) ∧ Bk X bn 27 #[.int .u64 ((nT h n k : Nat) : Int)] ∧
      ∀ z', X.heap.size ≤ z' → PI w wL sec salt sd h n ES EP bn dP tx (k + 1) z' (X.setCell ⟨bn, 0, none⟩ (.int .u64 ((nT h n (k + 1) : Nat) : Int))) := by
  have hkw := hI.ke.size
  have hbn : Bk X bn 27 #[.int .u64 ((nT h n k : Nat) : Int)] := hk.bk hI.box hI.box.lt (by
    rintro (e | e | e)
    · omega
    · omega
    · have := (hv _ e).2; omega)
  have hgw : gg = dP ∨ wL.heap.size ≤ gg := by
    rcases hgg with e | e
    · exact (hv _ e).2
    · exact .inr (by omega)
  refine ⟨⟨hk.size, fun b o hb' ho hoc => (hk.same b (Array.getElem?_eq_some_iff.1 ho).1 ?_).trans ho⟩, fun b o hb' ho hoc => (hk.same b (Array.getElem?_eq_some_iff.1 ho).1 ?_).trans ho, hbn, fun z' hz' => ⟨?_, ?_, hbn.put 0 _, ⟨A, c, hS.far (by show ES ≠ bn; omega) _, rd_box hr hbn no_u8_u64 0 _, ha⟩, .slice (some ⟨gg, 0, none⟩) (2 + (k + 1) * (h + 1)) cap, vs, hP.far (by show EP ≠ bn; omega) _, hG.boxR hbn no_u8_u64 (by simp [Value.ownBlock]; omega), fun b e => ?_⟩⟩
  · rintro (e | e | e)
    · omega
    · omega
    · obtain ⟨o', q1, q2⟩ := hvc _ e
      rw [ho] at q1
      cases q1
      rw [hoc] at q2
      cases q2
  · rintro (e | e | e)
    · omega
    · omega
    · have := (hv _ e).1; omega
  · refine (hI.ke.trans (hk.mono hkw fun b hb' e => ?_)).trans (KX.set (.inr (.inr (.inl rfl))) _ _ _)
    rcases e with e | e | e
    · exact .inl e
    · exact .inr (.inl e)
    · have := (hv _ e).2
      exact .inr (.inr (.inr (by omega)))
  · exact hb.setCell (p := ⟨bn, 0, none⟩) (by show w.heap.size ≤ bn; omega) _
  · simp [Value.ownBlock] at e
    subst e
    exact ⟨by omega, hgw⟩
end Go.Proofs.YtkpfppiedadmbaaGreatDoor.S16
