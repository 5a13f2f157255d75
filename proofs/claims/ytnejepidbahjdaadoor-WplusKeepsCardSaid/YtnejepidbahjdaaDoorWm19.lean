/-
  Texts put together: WpL5. No statement is proved here.
-/
import Derived.Test.YtnejepidbahjdaaDoorWm18

/-
  The walk of layer 15's fifth statement. No statement is proved here. (Written by genwl5.py.)
-/
namespace Go.Proofs.YtnejepidbahjdaaDoor.S15
set_option linter.unusedSimpArgs false
set_option linter.unusedVariables false
set_option maxRecDepth 4096
open Go.RowKit

theorem mk_cells {w' : World} {g : Nat} {T : TypeId} {As Al Ae : Option Addr} {ns cs nl cl ne ce : Nat} (h : Bk w' g T (mkA As ns cs Al nl cl Ae ne ce)) : w'.cell? ⟨g, 0, none⟩ = some (.slice As ns cs) ∧ w'.cell? ⟨g, 1, none⟩ = some (.slice Al nl cl) ∧ w'.cell? ⟨g, 2, none⟩ = some (.slice Ae ne ce) := ⟨h.cell 0, h.cell 1, h.cell 2⟩

set_option maxHeartbeats 8000000 in
theorem lens_a (M : WC) (w : World) (hk : M.ok w) (As : Option Addr) (ns cs : Nat) (sec : List UInt8) (hs : Rd w As ns cs sec) (Al : Option Addr) (nl cl : Nat) (salt : List UInt8) (hl : Rd w Al nl cl salt) (Ae : Option Addr) (ne ce : Nat) (sd : List UInt8) (he : Rd w Ae ne ce sd) (At : Option Addr) (nt ct : Nat) (text : List UInt8) (ht : Rd w At nt ct text) (Ag : Option Addr) (ng cg : Nat) (sig : List UInt8) (hg : Rd w Ag ng cg sig) (q1 : ¬ (100 : Int) < (ns : Int)) (q2 : ¬ (100 : Int) < (nl : Int)) (q3 : ¬ (100 : Int) < (ne : Int)) (q4 : ¬ (100 : Int) < (nt : Int)) (q5 : ¬ (3000 : Int) < (ng : Int)) (e1 : ((ne : Int) == 32) = false)
    (my : ∀ X, Below w.heap.size w X → Calls Tryd.prog 10 #[.agg #[.slice As ns cs, .slice Al nl cl, .slice Ae ne ce]] X fun e w' => e = .returned (.bool false) ∧ Below X.heap.size X w') (ry : ∀ X, Calls Tryd.prog 11 #[.agg #[.slice As ns cs, .slice Al nl cl, .slice Ae ne ce]] X fun e w' => e = .returned (.bool false) ∧ Below X.heap.size X w')
    (SG : List UInt8) (l1 : SG.length = 0) (sg : ∀ X, Below w.heap.size w X → Calls Tryd.prog 15 #[.agg #[.slice As ns cs, .slice Al nl cl, .slice Ae ne ce], .int .u32 0, .int .u64 0, .int .u32 0, .slice At nt ct] X (New X.heap.size X SG)) (ST : List UInt8) (l2 : ST.length = 0) (stc : ∀ X, Below w.heap.size w X → Calls Tryd.prog 17 #[.slice Ae ne ce, .int .u32 0, .int .u64 0, .int .u32 0, .slice At nt ct, .slice Ag ng cg] X (New X.heap.size X ST)) :
    Calls Tryd.prog 7 #[.agg (mkA As ns cs Al nl cl Ae ne ce), .slice At nt ct, .slice Ag ng cg] w fun e w' => e = .returned (.bool true) ∧ Below w.heap.size w w' := by
  obtain ⟨g, hgs⟩ : ∃ g, g = w.heap.size := ⟨_, rfl⟩
  obtain ⟨w0, hw0⟩ : ∃ w0, w.alloc (.cells (mkA As ns cs Al nl cl Ae ne ce) 24) = w0 := ⟨_, rfl⟩
  have M0 := Lib.hid (show Bk w0 g 24 (mkA As ns cs Al nl cl Ae ne ce) by rw [← hw0, hgs]; exact Bk.new _ _ _)
  have B0 := Lib.hid (show Below w.heap.size w w0 by rw [← hw0]; exact (Below.refl _ _).alloc (Nat.le_refl _) _)
  have HW := Lib.hid hw0
  have HGS := Lib.hid hgs
  have HAW := Lib.hid (fun X g => awake_true M X g)
  have HK := Lib.hid hk
  have MY := Lib.hid my
  have RY := Lib.hid ry
  have L1 := Lib.hid l1
  have L2 := Lib.hid l2
  have HSG := Lib.hid sg
  have HST := Lib.hid stc
  clear hk hs hl he ht hg hw0 hgs my ry l1 l2 sg stc
  go_enter Tryd.func7, Tryd.ntmps7
  go_upto_region 1 with (fail)
  rw [HW.out, ← HGS.out]
  go_upto_region 3 with (go_at_call 8; ((with_reducible refine (HAW.out _ (M.bel HK.out B0.out)).mono ?_); rintro e w1 ⟨rfl, b1⟩; have B1 := Lib.hid (B0.out.trans (b1.mono B0.out.size)); have M1 := Lib.hid (M0.out.below b1 M0.out.lt); clear b1))
  obtain ⟨k0, k1, k2⟩ := mk_cells M1.out
  go_upto_region 6 with (go_at_call 15; ((with_reducible refine (HSG.out _ B1.out).mono ?_); rintro e w2 ⟨A2, n2, c2, rfl, o2, b2⟩; obtain rfl : n2 = 0 := (own_len o2).symm.trans L1.out; have B2 := Lib.hid (B1.out.trans (b2.mono B1.out.size)); have M2 := Lib.hid (M1.out.below b2 M1.out.lt); clear k0 k1 k2; obtain ⟨k0, k1, k2⟩ := mk_cells M2.out; clear o2 b2))
  go_upto_region 7 with (go_at_call 17; ((with_reducible refine (HST.out _ B2.out).mono ?_); rintro e w3 ⟨A3, n3, c3, rfl, o3, b3⟩; obtain rfl : n3 = 0 := (own_len o3).symm.trans L2.out; have B3 := Lib.hid (B2.out.trans (b3.mono B2.out.size)); have M3 := Lib.hid (M2.out.below b3 M2.out.lt); clear k0 k1 k2; obtain ⟨k0, k1, k2⟩ := mk_cells M3.out; clear o3 b3))
  go_upto_region 8 with (go_at_call 11; ((with_reducible refine (RY.out _).mono ?_); rintro e w4 ⟨rfl, b4⟩; have B4 := Lib.hid (B3.out.trans (b4.mono B3.out.size)); have M4 := Lib.hid (M3.out.below b4 M3.out.lt); clear k0 k1 k2; obtain ⟨k0, k1, k2⟩ := mk_cells M4.out; clear b4))
  go_upto_region 9 with (fail)
  have KP := Lib.hid (show ∀ w', Below w4.heap.size w4 w' → w'.cell? ⟨g, 0, none⟩ = some (.slice As ns cs) ∧ w'.cell? ⟨g, 1, none⟩ = some (.slice Al nl cl) ∧ w'.cell? ⟨g, 2, none⟩ = some (.slice Ae ne ce) from fun w' hw' => mk_cells (M4.out.below hw' M4.out.lt))
  have BZ := Lib.hid (Below.refl w4.heap.size w4)
  have BB := Lib.hid (show ∀ w', Below w4.heap.size w4 w' → Below w.heap.size w w' from fun w' hw' => B4.out.trans (hw'.mono B4.out.size))
  clear k0 k1 k2
  refine wp_region_steady (fun w' => Below w4.heap.size w4 w' ∧ w'.cell? ⟨g, 0, none⟩ = some (.slice As ns cs) ∧ w'.cell? ⟨g, 1, none⟩ = some (.slice Al nl cl) ∧ w'.cell? ⟨g, 2, none⟩ = some (.slice Ae ne ce)) (by kernel_rfl) (by kernel_rfl) ⟨BZ.out.drew, KP.out _ BZ.out.drew⟩ ?_
  (refine seq_pure (v := ?_) (by rfl) ?_ ?_; rotate_left; (· (intro w' hS; go_simp; try with_reducible rfl)); simp only [Act.put, List.setIfInBounds_toArray, List.set_cons_zero, List.set_cons_succ])
  (refine seq_pure (v := ?_) (by rfl) ?_ ?_; rotate_left; (· (intro w' hS; go_simp; try with_reducible rfl)); simp only [Act.put, List.setIfInBounds_toArray, List.set_cons_zero, List.set_cons_succ])
  (refine seq_pure (v := ?_) (by rfl) ?_ ?_; rotate_left; (· (intro w' hS; go_simp; try with_reducible rfl)); simp only [Act.put, List.setIfInBounds_toArray, List.set_cons_zero, List.set_cons_succ])
  (refine seq_pure (v := ?_) (by rfl) ?_ ?_; rotate_left; (· (intro w' hS; go_simp; try with_reducible rfl)); simp only [Act.put, List.setIfInBounds_toArray, List.set_cons_zero, List.set_cons_succ])
  (refine seq_pure (v := ?_) (by rfl) ?_ ?_; rotate_left; (· (intro w' hS; go_simp; try with_reducible rfl)); simp only [Act.put, List.setIfInBounds_toArray, List.set_cons_zero, List.set_cons_succ])
  (refine seq_pure (v := ?_) (by rfl) ?_ ?_; rotate_left; (· (intro w' hS; go_simp; try with_reducible rfl)); simp only [Act.put, List.setIfInBounds_toArray, List.set_cons_zero, List.set_cons_succ])
  (refine seq_pure (v := ?_) (by rfl) ?_ ?_; rotate_left; (· (intro w' hS; go_simp; try with_reducible rfl)); simp only [Act.put, List.setIfInBounds_toArray, List.set_cons_zero, List.set_cons_succ])
  (refine seq_pure (v := ?_) (by rfl) ?_ ?_; rotate_left; (· (intro w' hS; go_simp; try with_reducible rfl)); simp only [Act.put, List.setIfInBounds_toArray, List.set_cons_zero, List.set_cons_succ])
  (refine seq_pure (v := ?_) (by rfl) ?_ ?_; rotate_left; (· (intro w' hS; go_simp; try with_reducible rfl)); simp only [Act.put, List.setIfInBounds_toArray, List.set_cons_zero, List.set_cons_succ])
  (refine seq_pure (v := ?_) (by rfl) ?_ ?_; rotate_left; (· (intro w' hS; go_simp; try with_reducible rfl)); simp only [Act.put, List.setIfInBounds_toArray, List.set_cons_zero, List.set_cons_succ])
  (refine seq_pure (v := ?_) (by rfl) ?_ ?_; rotate_left; (· (intro w' hS; go_simp; try with_reducible rfl)); simp only [Act.put, List.setIfInBounds_toArray, List.set_cons_zero, List.set_cons_succ])
  (refine seq_pure (v := ?_) (by rfl) ?_ ?_; rotate_left; (· (intro w' hS; go_simp; try with_reducible rfl)); simp only [Act.put, List.setIfInBounds_toArray, List.set_cons_zero, List.set_cons_succ])
  (refine seq_pure (v := ?_) (by rfl) ?_ ?_; rotate_left; (· (intro w' hS; go_simp; try with_reducible rfl)); simp only [Act.put, List.setIfInBounds_toArray, List.set_cons_zero, List.set_cons_succ])
  (refine seq_pure (v := ?_) (by rfl) ?_ ?_; rotate_left; (· (intro w' hS; go_simp; try with_reducible rfl)); simp only [Act.put, List.setIfInBounds_toArray, List.set_cons_zero, List.set_cons_succ])
  (refine seq_pure (v := ?_) (by rfl) ?_ ?_; rotate_left; (· (intro w' hS; go_simp; try with_reducible rfl)); simp only [Act.put, List.setIfInBounds_toArray, List.set_cons_zero, List.set_cons_succ])
  (refine seq_pure (v := ?_) (by rfl) ?_ ?_; rotate_left; (· (intro w' hS; go_simp; try with_reducible rfl)); simp only [Act.put, List.setIfInBounds_toArray, List.set_cons_zero, List.set_cons_succ])
  (refine seq_pure (v := ?_) (by rfl) ?_ ?_; rotate_left; (· (intro w' hS; go_simp; try with_reducible rfl)); simp only [Act.put, List.setIfInBounds_toArray, List.set_cons_zero, List.set_cons_succ])
  (refine seq_pure (v := ?_) (by rfl) ?_ ?_; rotate_left; (· (intro w' hS; go_simp; try with_reducible rfl)); simp only [Act.put, List.setIfInBounds_toArray, List.set_cons_zero, List.set_cons_succ])
  (refine seq_pure (v := ?_) (by rfl) ?_ ?_; rotate_left; (· (intro w' hS; go_simp; try with_reducible rfl)); simp only [Act.put, List.setIfInBounds_toArray, List.set_cons_zero, List.set_cons_succ])
  (refine seq_pure (v := ?_) (by rfl) ?_ ?_; rotate_left; (· (intro w' hS; go_simp; try with_reducible rfl)); simp only [Act.put, List.setIfInBounds_toArray, List.set_cons_zero, List.set_cons_succ])
  (refine seq_pure (v := ?_) (by rfl) ?_ ?_; rotate_left; (· (intro w' hS; go_simp; try with_reducible rfl)); simp only [Act.put, List.setIfInBounds_toArray, List.set_cons_zero, List.set_cons_succ])
  (refine seq_pure (v := ?_) (by rfl) ?_ ?_; rotate_left; (· (intro w' hS; go_simp; try with_reducible rfl)); simp only [Act.put, List.setIfInBounds_toArray, List.set_cons_zero, List.set_cons_succ])
  (refine seq_pure (v := ?_) (by rfl) ?_ ?_; rotate_left; (· (intro w' hS; go_simp; try with_reducible rfl)); simp only [Act.put, List.setIfInBounds_toArray, List.set_cons_zero, List.set_cons_succ])
  (refine seq_pure (v := ?_) (by rfl) ?_ ?_; rotate_left; (· (intro w' hS; go_simp; try with_reducible rfl)); simp only [Act.put, List.setIfInBounds_toArray, List.set_cons_zero, List.set_cons_succ])
  (refine seq_pure (v := ?_) (by rfl) ?_ ?_; rotate_left; (· (intro w' hS; go_simp; try with_reducible rfl)); simp only [Act.put, List.setIfInBounds_toArray, List.set_cons_zero, List.set_cons_succ])
  (refine seq_pure (v := ?_) (by rfl) ?_ ?_; rotate_left; (· (intro w' hS; go_simp; try with_reducible rfl)); simp only [Act.put, List.setIfInBounds_toArray, List.set_cons_zero, List.set_cons_succ])
  (refine seq_pure (v := ?_) (by rfl) ?_ ?_; rotate_left; (· (intro w' hS; go_simp; try with_reducible rfl)); simp only [Act.put, List.setIfInBounds_toArray, List.set_cons_zero, List.set_cons_succ])
  (refine seq_pure (v := ?_) (by rfl) ?_ ?_; rotate_left; (· (intro w' hS; go_simp; try with_reducible rfl)); simp only [Act.put, List.setIfInBounds_toArray, List.set_cons_zero, List.set_cons_succ])
  (refine seq_pure (v := ?_) (by rfl) ?_ ?_; rotate_left; (· (intro w' hS; go_simp; try with_reducible rfl)); simp only [Act.put, List.setIfInBounds_toArray, List.set_cons_zero, List.set_cons_succ])
  (refine seq_pure (v := ?_) (by rfl) ?_ ?_; rotate_left; (· (intro w' hS; obtain ⟨hb, h0, h1, h2⟩ := hS; go_simp; try with_reducible rfl)); simp only [Act.put, List.setIfInBounds_toArray, List.set_cons_zero, List.set_cons_succ])
  refine seq_call (f := 10) (args := #[.agg #[.slice As ns cs, .slice Al nl cl, .slice Ae ne ce]]) (v := .bool false) (by rfl) ?_ ?_ ?_
  · intro w' hS; go_simp
  · intro w' hS; exact (MY.out _ (BB.out _ hS.1)).mono fun e X' ⟨h1, h2⟩ => ⟨h1, hS.1.trans (h2.mono hS.1.size), KP.out _ (hS.1.trans (h2.mono hS.1.size))⟩
  simp only [Act.put, List.setIfInBounds_toArray, List.set_cons_zero, List.set_cons_succ]
  (refine seq_pure (v := ?_) (by rfl) ?_ ?_; rotate_left; (· (intro w' hS; obtain ⟨hb, h0, h1, h2⟩ := hS; go_simp; try with_reducible rfl)); simp only [Act.put, List.setIfInBounds_toArray, List.set_cons_zero, List.set_cons_succ])
  refine seq_call (f := 11) (args := #[.agg #[.slice As ns cs, .slice Al nl cl, .slice Ae ne ce]]) (v := .bool false) (by rfl) ?_ ?_ ?_
  · intro w' hS; go_simp
  · intro w' hS; exact (RY.out _).mono fun e X' ⟨h1, h2⟩ => ⟨h1, hS.1.trans (h2.mono hS.1.size), KP.out _ (hS.1.trans (h2.mono hS.1.size))⟩
  simp only [Act.put, List.setIfInBounds_toArray, List.set_cons_zero, List.set_cons_succ]
  (refine seq_pure (v := ?_) (by rfl) ?_ ?_; rotate_left; (· (intro w' hS; go_simp; try with_reducible rfl)); simp only [Act.put, List.setIfInBounds_toArray, List.set_cons_zero, List.set_cons_succ])
  (refine seq_pure (v := ?_) (by rfl) ?_ ?_; rotate_left; (· (intro w' hS; go_simp; try with_reducible rfl)); simp only [Act.put, List.setIfInBounds_toArray, List.set_cons_zero, List.set_cons_succ])
  (refine seq_pure (v := ?_) (by rfl) ?_ ?_; rotate_left; (· (intro w' hS; go_simp; try with_reducible rfl)); simp only [Act.put, List.setIfInBounds_toArray, List.set_cons_zero, List.set_cons_succ])
  refine seq_nil (fun w6 hS => ?_)
  have B6 := Lib.hid hS.1
  clear hS
  go_wp2
  go_ret
  exact ⟨rfl, BB.out _ B6.out⟩
set_option maxHeartbeats 8000000 in
theorem lens_b0 (M : WC) (w : World) (hk : M.ok w) (As : Option Addr) (ns cs : Nat) (sec : List UInt8) (hs : Rd w As ns cs sec) (Al : Option Addr) (nl cl : Nat) (salt : List UInt8) (hl : Rd w Al nl cl salt) (Ae : Option Addr) (ne ce : Nat) (sd : List UInt8) (he : Rd w Ae ne ce sd) (At : Option Addr) (nt ct : Nat) (text : List UInt8) (ht : Rd w At nt ct text) (Ag : Option Addr) (ng cg : Nat) (sig : List UInt8) (hg : Rd w Ag ng cg sig) (q1 : ¬ (100 : Int) < (ns : Int)) (q2 : ¬ (100 : Int) < (nl : Int)) (q3 : ¬ (100 : Int) < (ne : Int)) (q4 : ¬ (100 : Int) < (nt : Int)) (q5 : ¬ (3000 : Int) < (ng : Int)) (e1 : ((ne : Int) == 32) = true) (e2 : ((nt : Int) == 32) = false)
    (my : ∀ X, Below w.heap.size w X → Calls Tryd.prog 10 #[.agg #[.slice As ns cs, .slice Al nl cl, .slice Ae ne ce]] X fun e w' => e = .returned (.bool false) ∧ Below X.heap.size X w') (ry : ∀ X, Calls Tryd.prog 11 #[.agg #[.slice As ns cs, .slice Al nl cl, .slice Ae ne ce]] X fun e w' => e = .returned (.bool false) ∧ Below X.heap.size X w')
    (SG : List UInt8) (l1 : SG.length = 0) (sg : ∀ X, Below w.heap.size w X → Calls Tryd.prog 15 #[.agg #[.slice As ns cs, .slice Al nl cl, .slice Ae ne ce], .int .u32 0, .int .u64 0, .int .u32 0, .slice At nt ct] X (New X.heap.size X SG)) (ST : List UInt8) (l2 : ST.length = 0) (stc : ∀ X, Below w.heap.size w X → Calls Tryd.prog 17 #[.slice Ae ne ce, .int .u32 0, .int .u64 0, .int .u32 0, .slice At nt ct, .slice Ag ng cg] X (New X.heap.size X ST)) :
    Calls Tryd.prog 7 #[.agg (mkA As ns cs Al nl cl Ae ne ce), .slice At nt ct, .slice Ag ng cg] w fun e w' => e = .returned (.bool true) ∧ Below w.heap.size w w' := by
  obtain ⟨g, hgs⟩ : ∃ g, g = w.heap.size := ⟨_, rfl⟩
  obtain ⟨w0, hw0⟩ : ∃ w0, w.alloc (.cells (mkA As ns cs Al nl cl Ae ne ce) 24) = w0 := ⟨_, rfl⟩
  have M0 := Lib.hid (show Bk w0 g 24 (mkA As ns cs Al nl cl Ae ne ce) by rw [← hw0, hgs]; exact Bk.new _ _ _)
  have B0 := Lib.hid (show Below w.heap.size w w0 by rw [← hw0]; exact (Below.refl _ _).alloc (Nat.le_refl _) _)
  have HW := Lib.hid hw0
  have HGS := Lib.hid hgs
  have HAW := Lib.hid (fun X g => awake_true M X g)
  have HK := Lib.hid hk
  have MY := Lib.hid my
  have RY := Lib.hid ry
  have L1 := Lib.hid l1
  have L2 := Lib.hid l2
  have HSG := Lib.hid sg
  have HST := Lib.hid stc
  clear hk hs hl he ht hg hw0 hgs my ry l1 l2 sg stc
  go_enter Tryd.func7, Tryd.ntmps7
  go_upto_region 1 with (fail)
  rw [HW.out, ← HGS.out]
  go_upto_region 3 with (go_at_call 8; ((with_reducible refine (HAW.out _ (M.bel HK.out B0.out)).mono ?_); rintro e w1 ⟨rfl, b1⟩; have B1 := Lib.hid (B0.out.trans (b1.mono B0.out.size)); have M1 := Lib.hid (M0.out.below b1 M0.out.lt); clear b1))
  obtain ⟨k0, k1, k2⟩ := mk_cells M1.out
  go_upto_region 6 with (go_at_call 15; ((with_reducible refine (HSG.out _ B1.out).mono ?_); rintro e w2 ⟨A2, n2, c2, rfl, o2, b2⟩; obtain rfl : n2 = 0 := (own_len o2).symm.trans L1.out; have B2 := Lib.hid (B1.out.trans (b2.mono B1.out.size)); have M2 := Lib.hid (M1.out.below b2 M1.out.lt); clear k0 k1 k2; obtain ⟨k0, k1, k2⟩ := mk_cells M2.out; clear o2 b2))
  go_upto_region 7 with (go_at_call 17; ((with_reducible refine (HST.out _ B2.out).mono ?_); rintro e w3 ⟨A3, n3, c3, rfl, o3, b3⟩; obtain rfl : n3 = 0 := (own_len o3).symm.trans L2.out; have B3 := Lib.hid (B2.out.trans (b3.mono B2.out.size)); have M3 := Lib.hid (M2.out.below b3 M2.out.lt); clear k0 k1 k2; obtain ⟨k0, k1, k2⟩ := mk_cells M3.out; clear o3 b3))
  go_upto_region 8 with (go_at_call 11; ((with_reducible refine (RY.out _).mono ?_); rintro e w4 ⟨rfl, b4⟩; have B4 := Lib.hid (B3.out.trans (b4.mono B3.out.size)); have M4 := Lib.hid (M3.out.below b4 M3.out.lt); clear k0 k1 k2; obtain ⟨k0, k1, k2⟩ := mk_cells M4.out; clear b4))
  go_upto_region 9 with (fail)
  have KP := Lib.hid (show ∀ w', Below w4.heap.size w4 w' → w'.cell? ⟨g, 0, none⟩ = some (.slice As ns cs) ∧ w'.cell? ⟨g, 1, none⟩ = some (.slice Al nl cl) ∧ w'.cell? ⟨g, 2, none⟩ = some (.slice Ae ne ce) from fun w' hw' => mk_cells (M4.out.below hw' M4.out.lt))
  have BZ := Lib.hid (Below.refl w4.heap.size w4)
  have BB := Lib.hid (show ∀ w', Below w4.heap.size w4 w' → Below w.heap.size w w' from fun w' hw' => B4.out.trans (hw'.mono B4.out.size))
  clear k0 k1 k2
  refine wp_region_steady (fun w' => Below w4.heap.size w4 w' ∧ w'.cell? ⟨g, 0, none⟩ = some (.slice As ns cs) ∧ w'.cell? ⟨g, 1, none⟩ = some (.slice Al nl cl) ∧ w'.cell? ⟨g, 2, none⟩ = some (.slice Ae ne ce)) (by kernel_rfl) (by kernel_rfl) ⟨BZ.out.drew, KP.out _ BZ.out.drew⟩ ?_
  (refine seq_pure (v := ?_) (by rfl) ?_ ?_; rotate_left; (· (intro w' hS; go_simp; try with_reducible rfl)); simp only [Act.put, List.setIfInBounds_toArray, List.set_cons_zero, List.set_cons_succ])
  (refine seq_pure (v := ?_) (by rfl) ?_ ?_; rotate_left; (· (intro w' hS; go_simp; try with_reducible rfl)); simp only [Act.put, List.setIfInBounds_toArray, List.set_cons_zero, List.set_cons_succ])
  (refine seq_pure (v := ?_) (by rfl) ?_ ?_; rotate_left; (· (intro w' hS; go_simp; try with_reducible rfl)); simp only [Act.put, List.setIfInBounds_toArray, List.set_cons_zero, List.set_cons_succ])
  (refine seq_pure (v := ?_) (by rfl) ?_ ?_; rotate_left; (· (intro w' hS; go_simp; try with_reducible rfl)); simp only [Act.put, List.setIfInBounds_toArray, List.set_cons_zero, List.set_cons_succ])
  (refine seq_pure (v := ?_) (by rfl) ?_ ?_; rotate_left; (· (intro w' hS; go_simp; try with_reducible rfl)); simp only [Act.put, List.setIfInBounds_toArray, List.set_cons_zero, List.set_cons_succ])
  (refine seq_pure (v := ?_) (by rfl) ?_ ?_; rotate_left; (· (intro w' hS; go_simp; try with_reducible rfl)); simp only [Act.put, List.setIfInBounds_toArray, List.set_cons_zero, List.set_cons_succ])
  (refine seq_pure (v := ?_) (by rfl) ?_ ?_; rotate_left; (· (intro w' hS; go_simp; try with_reducible rfl)); simp only [Act.put, List.setIfInBounds_toArray, List.set_cons_zero, List.set_cons_succ])
  (refine seq_pure (v := ?_) (by rfl) ?_ ?_; rotate_left; (· (intro w' hS; go_simp; try with_reducible rfl)); simp only [Act.put, List.setIfInBounds_toArray, List.set_cons_zero, List.set_cons_succ])
  (refine seq_pure (v := ?_) (by rfl) ?_ ?_; rotate_left; (· (intro w' hS; go_simp; try with_reducible rfl)); simp only [Act.put, List.setIfInBounds_toArray, List.set_cons_zero, List.set_cons_succ])
  (refine seq_pure (v := ?_) (by rfl) ?_ ?_; rotate_left; (· (intro w' hS; go_simp; try with_reducible rfl)); simp only [Act.put, List.setIfInBounds_toArray, List.set_cons_zero, List.set_cons_succ])
  (refine seq_pure (v := ?_) (by rfl) ?_ ?_; rotate_left; (· (intro w' hS; go_simp; try with_reducible rfl)); simp only [Act.put, List.setIfInBounds_toArray, List.set_cons_zero, List.set_cons_succ])
  (refine seq_pure (v := ?_) (by rfl) ?_ ?_; rotate_left; (· (intro w' hS; go_simp; try with_reducible rfl)); simp only [Act.put, List.setIfInBounds_toArray, List.set_cons_zero, List.set_cons_succ])
  (refine seq_pure (v := ?_) (by rfl) ?_ ?_; rotate_left; (· (intro w' hS; go_simp; try with_reducible rfl)); simp only [Act.put, List.setIfInBounds_toArray, List.set_cons_zero, List.set_cons_succ])
  (refine seq_pure (v := ?_) (by rfl) ?_ ?_; rotate_left; (· (intro w' hS; go_simp; try with_reducible rfl)); simp only [Act.put, List.setIfInBounds_toArray, List.set_cons_zero, List.set_cons_succ])
  (refine seq_pure (v := ?_) (by rfl) ?_ ?_; rotate_left; (· (intro w' hS; go_simp; try with_reducible rfl)); simp only [Act.put, List.setIfInBounds_toArray, List.set_cons_zero, List.set_cons_succ])
  (refine seq_pure (v := ?_) (by rfl) ?_ ?_; rotate_left; (· (intro w' hS; go_simp; try with_reducible rfl)); simp only [Act.put, List.setIfInBounds_toArray, List.set_cons_zero, List.set_cons_succ])
  (refine seq_pure (v := ?_) (by rfl) ?_ ?_; rotate_left; (· (intro w' hS; go_simp; try with_reducible rfl)); simp only [Act.put, List.setIfInBounds_toArray, List.set_cons_zero, List.set_cons_succ])
  (refine seq_pure (v := ?_) (by rfl) ?_ ?_; rotate_left; (· (intro w' hS; go_simp; try with_reducible rfl)); simp only [Act.put, List.setIfInBounds_toArray, List.set_cons_zero, List.set_cons_succ])
  (refine seq_pure (v := ?_) (by rfl) ?_ ?_; rotate_left; (· (intro w' hS; go_simp; try with_reducible rfl)); simp only [Act.put, List.setIfInBounds_toArray, List.set_cons_zero, List.set_cons_succ])
  (refine seq_pure (v := ?_) (by rfl) ?_ ?_; rotate_left; (· (intro w' hS; go_simp; try with_reducible rfl)); simp only [Act.put, List.setIfInBounds_toArray, List.set_cons_zero, List.set_cons_succ])
  (refine seq_pure (v := ?_) (by rfl) ?_ ?_; rotate_left; (· (intro w' hS; go_simp; try with_reducible rfl)); simp only [Act.put, List.setIfInBounds_toArray, List.set_cons_zero, List.set_cons_succ])
  (refine seq_pure (v := ?_) (by rfl) ?_ ?_; rotate_left; (· (intro w' hS; go_simp; try with_reducible rfl)); simp only [Act.put, List.setIfInBounds_toArray, List.set_cons_zero, List.set_cons_succ])
  (refine seq_pure (v := ?_) (by rfl) ?_ ?_; rotate_left; (· (intro w' hS; go_simp; try with_reducible rfl)); simp only [Act.put, List.setIfInBounds_toArray, List.set_cons_zero, List.set_cons_succ])
  (refine seq_pure (v := ?_) (by rfl) ?_ ?_; rotate_left; (· (intro w' hS; go_simp; try with_reducible rfl)); simp only [Act.put, List.setIfInBounds_toArray, List.set_cons_zero, List.set_cons_succ])
  (refine seq_pure (v := ?_) (by rfl) ?_ ?_; rotate_left; (· (intro w' hS; go_simp; try with_reducible rfl)); simp only [Act.put, List.setIfInBounds_toArray, List.set_cons_zero, List.set_cons_succ])
  (refine seq_pure (v := ?_) (by rfl) ?_ ?_; rotate_left; (· (intro w' hS; go_simp; try with_reducible rfl)); simp only [Act.put, List.setIfInBounds_toArray, List.set_cons_zero, List.set_cons_succ])
  (refine seq_pure (v := ?_) (by rfl) ?_ ?_; rotate_left; (· (intro w' hS; go_simp; try with_reducible rfl)); simp only [Act.put, List.setIfInBounds_toArray, List.set_cons_zero, List.set_cons_succ])
  (refine seq_pure (v := ?_) (by rfl) ?_ ?_; rotate_left; (· (intro w' hS; go_simp; try with_reducible rfl)); simp only [Act.put, List.setIfInBounds_toArray, List.set_cons_zero, List.set_cons_succ])
  (refine seq_pure (v := ?_) (by rfl) ?_ ?_; rotate_left; (· (intro w' hS; go_simp; try with_reducible rfl)); simp only [Act.put, List.setIfInBounds_toArray, List.set_cons_zero, List.set_cons_succ])
  (refine seq_pure (v := ?_) (by rfl) ?_ ?_; rotate_left; (· (intro w' hS; obtain ⟨hb, h0, h1, h2⟩ := hS; go_simp; try with_reducible rfl)); simp only [Act.put, List.setIfInBounds_toArray, List.set_cons_zero, List.set_cons_succ])
  refine seq_call (f := 10) (args := #[.agg #[.slice As ns cs, .slice Al nl cl, .slice Ae ne ce]]) (v := .bool false) (by rfl) ?_ ?_ ?_
  · intro w' hS; go_simp
  · intro w' hS; exact (MY.out _ (BB.out _ hS.1)).mono fun e X' ⟨h1, h2⟩ => ⟨h1, hS.1.trans (h2.mono hS.1.size), KP.out _ (hS.1.trans (h2.mono hS.1.size))⟩
  simp only [Act.put, List.setIfInBounds_toArray, List.set_cons_zero, List.set_cons_succ]
  (refine seq_pure (v := ?_) (by rfl) ?_ ?_; rotate_left; (· (intro w' hS; obtain ⟨hb, h0, h1, h2⟩ := hS; go_simp; try with_reducible rfl)); simp only [Act.put, List.setIfInBounds_toArray, List.set_cons_zero, List.set_cons_succ])
  refine seq_call (f := 11) (args := #[.agg #[.slice As ns cs, .slice Al nl cl, .slice Ae ne ce]]) (v := .bool false) (by rfl) ?_ ?_ ?_
  · intro w' hS; go_simp
  · intro w' hS; exact (RY.out _).mono fun e X' ⟨h1, h2⟩ => ⟨h1, hS.1.trans (h2.mono hS.1.size), KP.out _ (hS.1.trans (h2.mono hS.1.size))⟩
  simp only [Act.put, List.setIfInBounds_toArray, List.set_cons_zero, List.set_cons_succ]
  (refine seq_pure (v := ?_) (by rfl) ?_ ?_; rotate_left; (· (intro w' hS; go_simp; try with_reducible rfl)); simp only [Act.put, List.setIfInBounds_toArray, List.set_cons_zero, List.set_cons_succ])
  (refine seq_pure (v := ?_) (by rfl) ?_ ?_; rotate_left; (· (intro w' hS; go_simp; try with_reducible rfl)); simp only [Act.put, List.setIfInBounds_toArray, List.set_cons_zero, List.set_cons_succ])
  (refine seq_pure (v := ?_) (by rfl) ?_ ?_; rotate_left; (· (intro w' hS; go_simp; try with_reducible rfl)); simp only [Act.put, List.setIfInBounds_toArray, List.set_cons_zero, List.set_cons_succ])
  refine seq_nil (fun w6 hS => ?_)
  have B6 := Lib.hid hS.1
  clear hS
  go_wp2
  go_ret
  exact ⟨rfl, BB.out _ B6.out⟩
set_option maxHeartbeats 8000000 in
theorem lens_b1 (M : WC) (w : World) (hk : M.ok w) (As : Option Addr) (ns cs : Nat) (sec : List UInt8) (hs : Rd w As ns cs sec) (Al : Option Addr) (nl cl : Nat) (salt : List UInt8) (hl : Rd w Al nl cl salt) (Ae : Option Addr) (ne ce : Nat) (sd : List UInt8) (he : Rd w Ae ne ce sd) (At : Option Addr) (nt ct : Nat) (text : List UInt8) (ht : Rd w At nt ct text) (Ag : Option Addr) (ng cg : Nat) (sig : List UInt8) (hg : Rd w Ag ng cg sig) (q1 : ¬ (100 : Int) < (ns : Int)) (q2 : ¬ (100 : Int) < (nl : Int)) (q3 : ¬ (100 : Int) < (ne : Int)) (q4 : ¬ (100 : Int) < (nt : Int)) (q5 : ¬ (3000 : Int) < (ng : Int)) (e1 : ((ne : Int) == 32) = true) (e2 : ((nt : Int) == 32) = false)
    (my : ∀ X, Below w.heap.size w X → Calls Tryd.prog 10 #[.agg #[.slice As ns cs, .slice Al nl cl, .slice Ae ne ce]] X fun e w' => e = .returned (.bool true) ∧ Below X.heap.size X w') (ry : ∀ X, Calls Tryd.prog 11 #[.agg #[.slice As ns cs, .slice Al nl cl, .slice Ae ne ce]] X fun e w' => e = .returned (.bool true) ∧ Below X.heap.size X w')
    (SG : List UInt8) (l1 : SG.length = 0) (sg : ∀ X, Below w.heap.size w X → Calls Tryd.prog 15 #[.agg #[.slice As ns cs, .slice Al nl cl, .slice Ae ne ce], .int .u32 0, .int .u64 0, .int .u32 0, .slice At nt ct] X (New X.heap.size X SG)) (ST : List UInt8) (l2 : ST.length = 0) (stc : ∀ X, Below w.heap.size w X → Calls Tryd.prog 17 #[.slice Ae ne ce, .int .u32 0, .int .u64 0, .int .u32 0, .slice At nt ct, .slice Ag ng cg] X (New X.heap.size X ST)) :
    Calls Tryd.prog 7 #[.agg (mkA As ns cs Al nl cl Ae ne ce), .slice At nt ct, .slice Ag ng cg] w fun e w' => e = .returned (.bool true) ∧ Below w.heap.size w w' := by
  obtain ⟨g, hgs⟩ : ∃ g, g = w.heap.size := ⟨_, rfl⟩
  obtain ⟨w0, hw0⟩ : ∃ w0, w.alloc (.cells (mkA As ns cs Al nl cl Ae ne ce) 24) = w0 := ⟨_, rfl⟩
  have M0 := Lib.hid (show Bk w0 g 24 (mkA As ns cs Al nl cl Ae ne ce) by rw [← hw0, hgs]; exact Bk.new _ _ _)
  have B0 := Lib.hid (show Below w.heap.size w w0 by rw [← hw0]; exact (Below.refl _ _).alloc (Nat.le_refl _) _)
  have HW := Lib.hid hw0
  have HGS := Lib.hid hgs
  have HAW := Lib.hid (fun X g => awake_true M X g)
  have HK := Lib.hid hk
  have MY := Lib.hid my
  have RY := Lib.hid ry
  have L1 := Lib.hid l1
  have L2 := Lib.hid l2
  have HSG := Lib.hid sg
  have HST := Lib.hid stc
  clear hk hs hl he ht hg hw0 hgs my ry l1 l2 sg stc
  go_enter Tryd.func7, Tryd.ntmps7
  go_upto_region 1 with (fail)
  rw [HW.out, ← HGS.out]
  go_upto_region 3 with (go_at_call 8; ((with_reducible refine (HAW.out _ (M.bel HK.out B0.out)).mono ?_); rintro e w1 ⟨rfl, b1⟩; have B1 := Lib.hid (B0.out.trans (b1.mono B0.out.size)); have M1 := Lib.hid (M0.out.below b1 M0.out.lt); clear b1))
  obtain ⟨k0, k1, k2⟩ := mk_cells M1.out
  go_upto_region 6 with (go_at_call 15; ((with_reducible refine (HSG.out _ B1.out).mono ?_); rintro e w2 ⟨A2, n2, c2, rfl, o2, b2⟩; obtain rfl : n2 = 0 := (own_len o2).symm.trans L1.out; have B2 := Lib.hid (B1.out.trans (b2.mono B1.out.size)); have M2 := Lib.hid (M1.out.below b2 M1.out.lt); clear k0 k1 k2; obtain ⟨k0, k1, k2⟩ := mk_cells M2.out; clear o2 b2))
  go_upto_region 7 with (go_at_call 17; ((with_reducible refine (HST.out _ B2.out).mono ?_); rintro e w3 ⟨A3, n3, c3, rfl, o3, b3⟩; obtain rfl : n3 = 0 := (own_len o3).symm.trans L2.out; have B3 := Lib.hid (B2.out.trans (b3.mono B2.out.size)); have M3 := Lib.hid (M2.out.below b3 M2.out.lt); clear k0 k1 k2; obtain ⟨k0, k1, k2⟩ := mk_cells M3.out; clear o3 b3))
  go_upto_region 8 with (go_at_call 11; ((with_reducible refine (RY.out _).mono ?_); rintro e w4 ⟨rfl, b4⟩; have B4 := Lib.hid (B3.out.trans (b4.mono B3.out.size)); have M4 := Lib.hid (M3.out.below b4 M3.out.lt); clear k0 k1 k2; obtain ⟨k0, k1, k2⟩ := mk_cells M4.out; clear b4))
  go_upto_region 9 with (fail)
  have KP := Lib.hid (show ∀ w', Below w4.heap.size w4 w' → w'.cell? ⟨g, 0, none⟩ = some (.slice As ns cs) ∧ w'.cell? ⟨g, 1, none⟩ = some (.slice Al nl cl) ∧ w'.cell? ⟨g, 2, none⟩ = some (.slice Ae ne ce) from fun w' hw' => mk_cells (M4.out.below hw' M4.out.lt))
  have BZ := Lib.hid (Below.refl w4.heap.size w4)
  have BB := Lib.hid (show ∀ w', Below w4.heap.size w4 w' → Below w.heap.size w w' from fun w' hw' => B4.out.trans (hw'.mono B4.out.size))
  clear k0 k1 k2
  refine wp_region_steady (fun w' => Below w4.heap.size w4 w' ∧ w'.cell? ⟨g, 0, none⟩ = some (.slice As ns cs) ∧ w'.cell? ⟨g, 1, none⟩ = some (.slice Al nl cl) ∧ w'.cell? ⟨g, 2, none⟩ = some (.slice Ae ne ce)) (by kernel_rfl) (by kernel_rfl) ⟨BZ.out.drew, KP.out _ BZ.out.drew⟩ ?_
  (refine seq_pure (v := ?_) (by rfl) ?_ ?_; rotate_left; (· (intro w' hS; go_simp; try with_reducible rfl)); simp only [Act.put, List.setIfInBounds_toArray, List.set_cons_zero, List.set_cons_succ])
  (refine seq_pure (v := ?_) (by rfl) ?_ ?_; rotate_left; (· (intro w' hS; go_simp; try with_reducible rfl)); simp only [Act.put, List.setIfInBounds_toArray, List.set_cons_zero, List.set_cons_succ])
  (refine seq_pure (v := ?_) (by rfl) ?_ ?_; rotate_left; (· (intro w' hS; go_simp; try with_reducible rfl)); simp only [Act.put, List.setIfInBounds_toArray, List.set_cons_zero, List.set_cons_succ])
  (refine seq_pure (v := ?_) (by rfl) ?_ ?_; rotate_left; (· (intro w' hS; go_simp; try with_reducible rfl)); simp only [Act.put, List.setIfInBounds_toArray, List.set_cons_zero, List.set_cons_succ])
  (refine seq_pure (v := ?_) (by rfl) ?_ ?_; rotate_left; (· (intro w' hS; go_simp; try with_reducible rfl)); simp only [Act.put, List.setIfInBounds_toArray, List.set_cons_zero, List.set_cons_succ])
  (refine seq_pure (v := ?_) (by rfl) ?_ ?_; rotate_left; (· (intro w' hS; go_simp; try with_reducible rfl)); simp only [Act.put, List.setIfInBounds_toArray, List.set_cons_zero, List.set_cons_succ])
  (refine seq_pure (v := ?_) (by rfl) ?_ ?_; rotate_left; (· (intro w' hS; go_simp; try with_reducible rfl)); simp only [Act.put, List.setIfInBounds_toArray, List.set_cons_zero, List.set_cons_succ])
  (refine seq_pure (v := ?_) (by rfl) ?_ ?_; rotate_left; (· (intro w' hS; go_simp; try with_reducible rfl)); simp only [Act.put, List.setIfInBounds_toArray, List.set_cons_zero, List.set_cons_succ])
  (refine seq_pure (v := ?_) (by rfl) ?_ ?_; rotate_left; (· (intro w' hS; go_simp; try with_reducible rfl)); simp only [Act.put, List.setIfInBounds_toArray, List.set_cons_zero, List.set_cons_succ])
  (refine seq_pure (v := ?_) (by rfl) ?_ ?_; rotate_left; (· (intro w' hS; go_simp; try with_reducible rfl)); simp only [Act.put, List.setIfInBounds_toArray, List.set_cons_zero, List.set_cons_succ])
  (refine seq_pure (v := ?_) (by rfl) ?_ ?_; rotate_left; (· (intro w' hS; go_simp; try with_reducible rfl)); simp only [Act.put, List.setIfInBounds_toArray, List.set_cons_zero, List.set_cons_succ])
  (refine seq_pure (v := ?_) (by rfl) ?_ ?_; rotate_left; (· (intro w' hS; go_simp; try with_reducible rfl)); simp only [Act.put, List.setIfInBounds_toArray, List.set_cons_zero, List.set_cons_succ])
  (refine seq_pure (v := ?_) (by rfl) ?_ ?_; rotate_left; (· (intro w' hS; go_simp; try with_reducible rfl)); simp only [Act.put, List.setIfInBounds_toArray, List.set_cons_zero, List.set_cons_succ])
  (refine seq_pure (v := ?_) (by rfl) ?_ ?_; rotate_left; (· (intro w' hS; go_simp; try with_reducible rfl)); simp only [Act.put, List.setIfInBounds_toArray, List.set_cons_zero, List.set_cons_succ])
  (refine seq_pure (v := ?_) (by rfl) ?_ ?_; rotate_left; (· (intro w' hS; go_simp; try with_reducible rfl)); simp only [Act.put, List.setIfInBounds_toArray, List.set_cons_zero, List.set_cons_succ])
  (refine seq_pure (v := ?_) (by rfl) ?_ ?_; rotate_left; (· (intro w' hS; go_simp; try with_reducible rfl)); simp only [Act.put, List.setIfInBounds_toArray, List.set_cons_zero, List.set_cons_succ])
  (refine seq_pure (v := ?_) (by rfl) ?_ ?_; rotate_left; (· (intro w' hS; go_simp; try with_reducible rfl)); simp only [Act.put, List.setIfInBounds_toArray, List.set_cons_zero, List.set_cons_succ])
  (refine seq_pure (v := ?_) (by rfl) ?_ ?_; rotate_left; (· (intro w' hS; go_simp; try with_reducible rfl)); simp only [Act.put, List.setIfInBounds_toArray, List.set_cons_zero, List.set_cons_succ])
  (refine seq_pure (v := ?_) (by rfl) ?_ ?_; rotate_left; (· (intro w' hS; go_simp; try with_reducible rfl)); simp only [Act.put, List.setIfInBounds_toArray, List.set_cons_zero, List.set_cons_succ])
  (refine seq_pure (v := ?_) (by rfl) ?_ ?_; rotate_left; (· (intro w' hS; go_simp; try with_reducible rfl)); simp only [Act.put, List.setIfInBounds_toArray, List.set_cons_zero, List.set_cons_succ])
  (refine seq_pure (v := ?_) (by rfl) ?_ ?_; rotate_left; (· (intro w' hS; go_simp; try with_reducible rfl)); simp only [Act.put, List.setIfInBounds_toArray, List.set_cons_zero, List.set_cons_succ])
  (refine seq_pure (v := ?_) (by rfl) ?_ ?_; rotate_left; (· (intro w' hS; go_simp; try with_reducible rfl)); simp only [Act.put, List.setIfInBounds_toArray, List.set_cons_zero, List.set_cons_succ])
  (refine seq_pure (v := ?_) (by rfl) ?_ ?_; rotate_left; (· (intro w' hS; go_simp; try with_reducible rfl)); simp only [Act.put, List.setIfInBounds_toArray, List.set_cons_zero, List.set_cons_succ])
  (refine seq_pure (v := ?_) (by rfl) ?_ ?_; rotate_left; (· (intro w' hS; go_simp; try with_reducible rfl)); simp only [Act.put, List.setIfInBounds_toArray, List.set_cons_zero, List.set_cons_succ])
  (refine seq_pure (v := ?_) (by rfl) ?_ ?_; rotate_left; (· (intro w' hS; go_simp; try with_reducible rfl)); simp only [Act.put, List.setIfInBounds_toArray, List.set_cons_zero, List.set_cons_succ])
  (refine seq_pure (v := ?_) (by rfl) ?_ ?_; rotate_left; (· (intro w' hS; go_simp; try with_reducible rfl)); simp only [Act.put, List.setIfInBounds_toArray, List.set_cons_zero, List.set_cons_succ])
  (refine seq_pure (v := ?_) (by rfl) ?_ ?_; rotate_left; (· (intro w' hS; go_simp; try with_reducible rfl)); simp only [Act.put, List.setIfInBounds_toArray, List.set_cons_zero, List.set_cons_succ])
  (refine seq_pure (v := ?_) (by rfl) ?_ ?_; rotate_left; (· (intro w' hS; go_simp; try with_reducible rfl)); simp only [Act.put, List.setIfInBounds_toArray, List.set_cons_zero, List.set_cons_succ])
  (refine seq_pure (v := ?_) (by rfl) ?_ ?_; rotate_left; (· (intro w' hS; go_simp; try with_reducible rfl)); simp only [Act.put, List.setIfInBounds_toArray, List.set_cons_zero, List.set_cons_succ])
  (refine seq_pure (v := ?_) (by rfl) ?_ ?_; rotate_left; (· (intro w' hS; obtain ⟨hb, h0, h1, h2⟩ := hS; go_simp; try with_reducible rfl)); simp only [Act.put, List.setIfInBounds_toArray, List.set_cons_zero, List.set_cons_succ])
  refine seq_call (f := 10) (args := #[.agg #[.slice As ns cs, .slice Al nl cl, .slice Ae ne ce]]) (v := .bool true) (by rfl) ?_ ?_ ?_
  · intro w' hS; go_simp
  · intro w' hS; exact (MY.out _ (BB.out _ hS.1)).mono fun e X' ⟨h1, h2⟩ => ⟨h1, hS.1.trans (h2.mono hS.1.size), KP.out _ (hS.1.trans (h2.mono hS.1.size))⟩
  simp only [Act.put, List.setIfInBounds_toArray, List.set_cons_zero, List.set_cons_succ]
  (refine seq_pure (v := ?_) (by rfl) ?_ ?_; rotate_left; (· (intro w' hS; obtain ⟨hb, h0, h1, h2⟩ := hS; go_simp; try with_reducible rfl)); simp only [Act.put, List.setIfInBounds_toArray, List.set_cons_zero, List.set_cons_succ])
  refine seq_call (f := 11) (args := #[.agg #[.slice As ns cs, .slice Al nl cl, .slice Ae ne ce]]) (v := .bool true) (by rfl) ?_ ?_ ?_
  · intro w' hS; go_simp
  · intro w' hS; exact (RY.out _).mono fun e X' ⟨h1, h2⟩ => ⟨h1, hS.1.trans (h2.mono hS.1.size), KP.out _ (hS.1.trans (h2.mono hS.1.size))⟩
  simp only [Act.put, List.setIfInBounds_toArray, List.set_cons_zero, List.set_cons_succ]
  (refine seq_pure (v := ?_) (by rfl) ?_ ?_; rotate_left; (· (intro w' hS; go_simp; try with_reducible rfl)); simp only [Act.put, List.setIfInBounds_toArray, List.set_cons_zero, List.set_cons_succ])
  (refine seq_pure (v := ?_) (by rfl) ?_ ?_; rotate_left; (· (intro w' hS; go_simp; try with_reducible rfl)); simp only [Act.put, List.setIfInBounds_toArray, List.set_cons_zero, List.set_cons_succ])
  (refine seq_pure (v := ?_) (by rfl) ?_ ?_; rotate_left; (· (intro w' hS; go_simp; try with_reducible rfl)); simp only [Act.put, List.setIfInBounds_toArray, List.set_cons_zero, List.set_cons_succ])
  refine seq_nil (fun w6 hS => ?_)
  have B6 := Lib.hid hS.1
  clear hS
  go_wp2
  go_ret
  exact ⟨rfl, BB.out _ B6.out⟩
set_option maxHeartbeats 8000000 in
theorem lens_c00 (M : WC) (w : World) (hk : M.ok w) (As : Option Addr) (ns cs : Nat) (sec : List UInt8) (hs : Rd w As ns cs sec) (Al : Option Addr) (nl cl : Nat) (salt : List UInt8) (hl : Rd w Al nl cl salt) (Ae : Option Addr) (ne ce : Nat) (sd : List UInt8) (he : Rd w Ae ne ce sd) (At : Option Addr) (nt ct : Nat) (text : List UInt8) (ht : Rd w At nt ct text) (Ag : Option Addr) (ng cg : Nat) (sig : List UInt8) (hg : Rd w Ag ng cg sig) (q1 : ¬ (100 : Int) < (ns : Int)) (q2 : ¬ (100 : Int) < (nl : Int)) (q3 : ¬ (100 : Int) < (ne : Int)) (q4 : ¬ (100 : Int) < (nt : Int)) (q5 : ¬ (3000 : Int) < (ng : Int)) (e1 : ((ne : Int) == 32) = true) (e2 : ((nt : Int) == 32) = true) (e3 : ((ng : Int) == 2144) = false)
    (my : ∀ X, Below w.heap.size w X → Calls Tryd.prog 10 #[.agg #[.slice As ns cs, .slice Al nl cl, .slice Ae ne ce]] X fun e w' => e = .returned (.bool false) ∧ Below X.heap.size X w') (ry : ∀ X, Calls Tryd.prog 11 #[.agg #[.slice As ns cs, .slice Al nl cl, .slice Ae ne ce]] X fun e w' => e = .returned (.bool false) ∧ Below X.heap.size X w')
    (SG : List UInt8) (l1 : SG.length = 0) (sg : ∀ X, Below w.heap.size w X → Calls Tryd.prog 15 #[.agg #[.slice As ns cs, .slice Al nl cl, .slice Ae ne ce], .int .u32 0, .int .u64 0, .int .u32 0, .slice At nt ct] X (New X.heap.size X SG)) (ST : List UInt8) (l2 : ST.length = 0) (stc : ∀ X, Below w.heap.size w X → Calls Tryd.prog 17 #[.slice Ae ne ce, .int .u32 0, .int .u64 0, .int .u32 0, .slice At nt ct, .slice Ag ng cg] X (New X.heap.size X ST)) :
    Calls Tryd.prog 7 #[.agg (mkA As ns cs Al nl cl Ae ne ce), .slice At nt ct, .slice Ag ng cg] w fun e w' => e = .returned (.bool true) ∧ Below w.heap.size w w' := by
  obtain ⟨g, hgs⟩ : ∃ g, g = w.heap.size := ⟨_, rfl⟩
  obtain ⟨w0, hw0⟩ : ∃ w0, w.alloc (.cells (mkA As ns cs Al nl cl Ae ne ce) 24) = w0 := ⟨_, rfl⟩
  have M0 := Lib.hid (show Bk w0 g 24 (mkA As ns cs Al nl cl Ae ne ce) by rw [← hw0, hgs]; exact Bk.new _ _ _)
  have B0 := Lib.hid (show Below w.heap.size w w0 by rw [← hw0]; exact (Below.refl _ _).alloc (Nat.le_refl _) _)
  have HW := Lib.hid hw0
  have HGS := Lib.hid hgs
  have HAW := Lib.hid (fun X g => awake_true M X g)
  have HK := Lib.hid hk
  have MY := Lib.hid my
  have RY := Lib.hid ry
  have L1 := Lib.hid l1
  have L2 := Lib.hid l2
  have HSG := Lib.hid sg
  have HST := Lib.hid stc
  clear hk hs hl he ht hg hw0 hgs my ry l1 l2 sg stc
  go_enter Tryd.func7, Tryd.ntmps7
  go_upto_region 1 with (fail)
  rw [HW.out, ← HGS.out]
  go_upto_region 3 with (go_at_call 8; ((with_reducible refine (HAW.out _ (M.bel HK.out B0.out)).mono ?_); rintro e w1 ⟨rfl, b1⟩; have B1 := Lib.hid (B0.out.trans (b1.mono B0.out.size)); have M1 := Lib.hid (M0.out.below b1 M0.out.lt); clear b1))
  obtain ⟨k0, k1, k2⟩ := mk_cells M1.out
  go_upto_region 6 with (go_at_call 15; ((with_reducible refine (HSG.out _ B1.out).mono ?_); rintro e w2 ⟨A2, n2, c2, rfl, o2, b2⟩; obtain rfl : n2 = 0 := (own_len o2).symm.trans L1.out; have B2 := Lib.hid (B1.out.trans (b2.mono B1.out.size)); have M2 := Lib.hid (M1.out.below b2 M1.out.lt); clear k0 k1 k2; obtain ⟨k0, k1, k2⟩ := mk_cells M2.out; clear o2 b2))
  go_upto_region 7 with (go_at_call 17; ((with_reducible refine (HST.out _ B2.out).mono ?_); rintro e w3 ⟨A3, n3, c3, rfl, o3, b3⟩; obtain rfl : n3 = 0 := (own_len o3).symm.trans L2.out; have B3 := Lib.hid (B2.out.trans (b3.mono B2.out.size)); have M3 := Lib.hid (M2.out.below b3 M2.out.lt); clear k0 k1 k2; obtain ⟨k0, k1, k2⟩ := mk_cells M3.out; clear o3 b3))
  go_upto_region 8 with (go_at_call 11; ((with_reducible refine (RY.out _).mono ?_); rintro e w4 ⟨rfl, b4⟩; have B4 := Lib.hid (B3.out.trans (b4.mono B3.out.size)); have M4 := Lib.hid (M3.out.below b4 M3.out.lt); clear k0 k1 k2; obtain ⟨k0, k1, k2⟩ := mk_cells M4.out; clear b4))
  go_upto_region 9 with (fail)
  have KP := Lib.hid (show ∀ w', Below w4.heap.size w4 w' → w'.cell? ⟨g, 0, none⟩ = some (.slice As ns cs) ∧ w'.cell? ⟨g, 1, none⟩ = some (.slice Al nl cl) ∧ w'.cell? ⟨g, 2, none⟩ = some (.slice Ae ne ce) from fun w' hw' => mk_cells (M4.out.below hw' M4.out.lt))
  have BZ := Lib.hid (Below.refl w4.heap.size w4)
  have BB := Lib.hid (show ∀ w', Below w4.heap.size w4 w' → Below w.heap.size w w' from fun w' hw' => B4.out.trans (hw'.mono B4.out.size))
  clear k0 k1 k2
  refine wp_region_steady (fun w' => Below w4.heap.size w4 w' ∧ w'.cell? ⟨g, 0, none⟩ = some (.slice As ns cs) ∧ w'.cell? ⟨g, 1, none⟩ = some (.slice Al nl cl) ∧ w'.cell? ⟨g, 2, none⟩ = some (.slice Ae ne ce)) (by kernel_rfl) (by kernel_rfl) ⟨BZ.out.drew, KP.out _ BZ.out.drew⟩ ?_
  (refine seq_pure (v := ?_) (by rfl) ?_ ?_; rotate_left; (· (intro w' hS; go_simp; try with_reducible rfl)); simp only [Act.put, List.setIfInBounds_toArray, List.set_cons_zero, List.set_cons_succ])
  (refine seq_pure (v := ?_) (by rfl) ?_ ?_; rotate_left; (· (intro w' hS; go_simp; try with_reducible rfl)); simp only [Act.put, List.setIfInBounds_toArray, List.set_cons_zero, List.set_cons_succ])
  (refine seq_pure (v := ?_) (by rfl) ?_ ?_; rotate_left; (· (intro w' hS; go_simp; try with_reducible rfl)); simp only [Act.put, List.setIfInBounds_toArray, List.set_cons_zero, List.set_cons_succ])
  (refine seq_pure (v := ?_) (by rfl) ?_ ?_; rotate_left; (· (intro w' hS; go_simp; try with_reducible rfl)); simp only [Act.put, List.setIfInBounds_toArray, List.set_cons_zero, List.set_cons_succ])
  (refine seq_pure (v := ?_) (by rfl) ?_ ?_; rotate_left; (· (intro w' hS; go_simp; try with_reducible rfl)); simp only [Act.put, List.setIfInBounds_toArray, List.set_cons_zero, List.set_cons_succ])
  (refine seq_pure (v := ?_) (by rfl) ?_ ?_; rotate_left; (· (intro w' hS; go_simp; try with_reducible rfl)); simp only [Act.put, List.setIfInBounds_toArray, List.set_cons_zero, List.set_cons_succ])
  (refine seq_pure (v := ?_) (by rfl) ?_ ?_; rotate_left; (· (intro w' hS; go_simp; try with_reducible rfl)); simp only [Act.put, List.setIfInBounds_toArray, List.set_cons_zero, List.set_cons_succ])
  (refine seq_pure (v := ?_) (by rfl) ?_ ?_; rotate_left; (· (intro w' hS; go_simp; try with_reducible rfl)); simp only [Act.put, List.setIfInBounds_toArray, List.set_cons_zero, List.set_cons_succ])
  (refine seq_pure (v := ?_) (by rfl) ?_ ?_; rotate_left; (· (intro w' hS; go_simp; try with_reducible rfl)); simp only [Act.put, List.setIfInBounds_toArray, List.set_cons_zero, List.set_cons_succ])
  (refine seq_pure (v := ?_) (by rfl) ?_ ?_; rotate_left; (· (intro w' hS; go_simp; try with_reducible rfl)); simp only [Act.put, List.setIfInBounds_toArray, List.set_cons_zero, List.set_cons_succ])
  (refine seq_pure (v := ?_) (by rfl) ?_ ?_; rotate_left; (· (intro w' hS; go_simp; try with_reducible rfl)); simp only [Act.put, List.setIfInBounds_toArray, List.set_cons_zero, List.set_cons_succ])
  (refine seq_pure (v := ?_) (by rfl) ?_ ?_; rotate_left; (· (intro w' hS; go_simp; try with_reducible rfl)); simp only [Act.put, List.setIfInBounds_toArray, List.set_cons_zero, List.set_cons_succ])
  (refine seq_pure (v := ?_) (by rfl) ?_ ?_; rotate_left; (· (intro w' hS; go_simp; try with_reducible rfl)); simp only [Act.put, List.setIfInBounds_toArray, List.set_cons_zero, List.set_cons_succ])
  (refine seq_pure (v := ?_) (by rfl) ?_ ?_; rotate_left; (· (intro w' hS; go_simp; try with_reducible rfl)); simp only [Act.put, List.setIfInBounds_toArray, List.set_cons_zero, List.set_cons_succ])
  (refine seq_pure (v := ?_) (by rfl) ?_ ?_; rotate_left; (· (intro w' hS; go_simp; try with_reducible rfl)); simp only [Act.put, List.setIfInBounds_toArray, List.set_cons_zero, List.set_cons_succ])
  (refine seq_pure (v := ?_) (by rfl) ?_ ?_; rotate_left; (· (intro w' hS; go_simp; try with_reducible rfl)); simp only [Act.put, List.setIfInBounds_toArray, List.set_cons_zero, List.set_cons_succ])
  (refine seq_pure (v := ?_) (by rfl) ?_ ?_; rotate_left; (· (intro w' hS; go_simp; try with_reducible rfl)); simp only [Act.put, List.setIfInBounds_toArray, List.set_cons_zero, List.set_cons_succ])
  (refine seq_pure (v := ?_) (by rfl) ?_ ?_; rotate_left; (· (intro w' hS; go_simp; try with_reducible rfl)); simp only [Act.put, List.setIfInBounds_toArray, List.set_cons_zero, List.set_cons_succ])
  (refine seq_pure (v := ?_) (by rfl) ?_ ?_; rotate_left; (· (intro w' hS; go_simp; try with_reducible rfl)); simp only [Act.put, List.setIfInBounds_toArray, List.set_cons_zero, List.set_cons_succ])
  (refine seq_pure (v := ?_) (by rfl) ?_ ?_; rotate_left; (· (intro w' hS; go_simp; try with_reducible rfl)); simp only [Act.put, List.setIfInBounds_toArray, List.set_cons_zero, List.set_cons_succ])
  (refine seq_pure (v := ?_) (by rfl) ?_ ?_; rotate_left; (· (intro w' hS; go_simp; try with_reducible rfl)); simp only [Act.put, List.setIfInBounds_toArray, List.set_cons_zero, List.set_cons_succ])
  (refine seq_pure (v := ?_) (by rfl) ?_ ?_; rotate_left; (· (intro w' hS; go_simp; try with_reducible rfl)); simp only [Act.put, List.setIfInBounds_toArray, List.set_cons_zero, List.set_cons_succ])
  (refine seq_pure (v := ?_) (by rfl) ?_ ?_; rotate_left; (· (intro w' hS; go_simp; try with_reducible rfl)); simp only [Act.put, List.setIfInBounds_toArray, List.set_cons_zero, List.set_cons_succ])
  (refine seq_pure (v := ?_) (by rfl) ?_ ?_; rotate_left; (· (intro w' hS; go_simp; try with_reducible rfl)); simp only [Act.put, List.setIfInBounds_toArray, List.set_cons_zero, List.set_cons_succ])
  (refine seq_pure (v := ?_) (by rfl) ?_ ?_; rotate_left; (· (intro w' hS; go_simp; try with_reducible rfl)); simp only [Act.put, List.setIfInBounds_toArray, List.set_cons_zero, List.set_cons_succ])
  (refine seq_pure (v := ?_) (by rfl) ?_ ?_; rotate_left; (· (intro w' hS; go_simp; try with_reducible rfl)); simp only [Act.put, List.setIfInBounds_toArray, List.set_cons_zero, List.set_cons_succ])
  (refine seq_pure (v := ?_) (by rfl) ?_ ?_; rotate_left; (· (intro w' hS; go_simp; try with_reducible rfl)); simp only [Act.put, List.setIfInBounds_toArray, List.set_cons_zero, List.set_cons_succ])
  (refine seq_pure (v := ?_) (by rfl) ?_ ?_; rotate_left; (· (intro w' hS; go_simp; try with_reducible rfl)); simp only [Act.put, List.setIfInBounds_toArray, List.set_cons_zero, List.set_cons_succ])
  (refine seq_pure (v := ?_) (by rfl) ?_ ?_; rotate_left; (· (intro w' hS; go_simp; try with_reducible rfl)); simp only [Act.put, List.setIfInBounds_toArray, List.set_cons_zero, List.set_cons_succ])
  (refine seq_pure (v := ?_) (by rfl) ?_ ?_; rotate_left; (· (intro w' hS; obtain ⟨hb, h0, h1, h2⟩ := hS; go_simp; try with_reducible rfl)); simp only [Act.put, List.setIfInBounds_toArray, List.set_cons_zero, List.set_cons_succ])
  refine seq_call (f := 10) (args := #[.agg #[.slice As ns cs, .slice Al nl cl, .slice Ae ne ce]]) (v := .bool false) (by rfl) ?_ ?_ ?_
  · intro w' hS; go_simp
  · intro w' hS; exact (MY.out _ (BB.out _ hS.1)).mono fun e X' ⟨h1, h2⟩ => ⟨h1, hS.1.trans (h2.mono hS.1.size), KP.out _ (hS.1.trans (h2.mono hS.1.size))⟩
  simp only [Act.put, List.setIfInBounds_toArray, List.set_cons_zero, List.set_cons_succ]
  (refine seq_pure (v := ?_) (by rfl) ?_ ?_; rotate_left; (· (intro w' hS; obtain ⟨hb, h0, h1, h2⟩ := hS; go_simp; try with_reducible rfl)); simp only [Act.put, List.setIfInBounds_toArray, List.set_cons_zero, List.set_cons_succ])
  refine seq_call (f := 11) (args := #[.agg #[.slice As ns cs, .slice Al nl cl, .slice Ae ne ce]]) (v := .bool false) (by rfl) ?_ ?_ ?_
  · intro w' hS; go_simp
  · intro w' hS; exact (RY.out _).mono fun e X' ⟨h1, h2⟩ => ⟨h1, hS.1.trans (h2.mono hS.1.size), KP.out _ (hS.1.trans (h2.mono hS.1.size))⟩
  simp only [Act.put, List.setIfInBounds_toArray, List.set_cons_zero, List.set_cons_succ]
  (refine seq_pure (v := ?_) (by rfl) ?_ ?_; rotate_left; (· (intro w' hS; go_simp; try with_reducible rfl)); simp only [Act.put, List.setIfInBounds_toArray, List.set_cons_zero, List.set_cons_succ])
  (refine seq_pure (v := ?_) (by rfl) ?_ ?_; rotate_left; (· (intro w' hS; go_simp; try with_reducible rfl)); simp only [Act.put, List.setIfInBounds_toArray, List.set_cons_zero, List.set_cons_succ])
  (refine seq_pure (v := ?_) (by rfl) ?_ ?_; rotate_left; (· (intro w' hS; go_simp; try with_reducible rfl)); simp only [Act.put, List.setIfInBounds_toArray, List.set_cons_zero, List.set_cons_succ])
  refine seq_nil (fun w6 hS => ?_)
  have B6 := Lib.hid hS.1
  clear hS
  go_wp2
  go_ret
  exact ⟨rfl, BB.out _ B6.out⟩
set_option maxHeartbeats 8000000 in
theorem lens_c01 (M : WC) (w : World) (hk : M.ok w) (As : Option Addr) (ns cs : Nat) (sec : List UInt8) (hs : Rd w As ns cs sec) (Al : Option Addr) (nl cl : Nat) (salt : List UInt8) (hl : Rd w Al nl cl salt) (Ae : Option Addr) (ne ce : Nat) (sd : List UInt8) (he : Rd w Ae ne ce sd) (At : Option Addr) (nt ct : Nat) (text : List UInt8) (ht : Rd w At nt ct text) (Ag : Option Addr) (ng cg : Nat) (sig : List UInt8) (hg : Rd w Ag ng cg sig) (q1 : ¬ (100 : Int) < (ns : Int)) (q2 : ¬ (100 : Int) < (nl : Int)) (q3 : ¬ (100 : Int) < (ne : Int)) (q4 : ¬ (100 : Int) < (nt : Int)) (q5 : ¬ (3000 : Int) < (ng : Int)) (e1 : ((ne : Int) == 32) = true) (e2 : ((nt : Int) == 32) = true) (e3 : ((ng : Int) == 2144) = true)
    (my : ∀ X, Below w.heap.size w X → Calls Tryd.prog 10 #[.agg #[.slice As ns cs, .slice Al nl cl, .slice Ae ne ce]] X fun e w' => e = .returned (.bool false) ∧ Below X.heap.size X w') (ry : ∀ X, Calls Tryd.prog 11 #[.agg #[.slice As ns cs, .slice Al nl cl, .slice Ae ne ce]] X fun e w' => e = .returned (.bool false) ∧ Below X.heap.size X w')
    (SG : List UInt8) (l1 : SG.length = 0) (sg : ∀ X, Below w.heap.size w X → Calls Tryd.prog 15 #[.agg #[.slice As ns cs, .slice Al nl cl, .slice Ae ne ce], .int .u32 0, .int .u64 0, .int .u32 0, .slice At nt ct] X (New X.heap.size X SG)) (ST : List UInt8) (l2 : ST.length = 32) (stc : ∀ X, Below w.heap.size w X → Calls Tryd.prog 17 #[.slice Ae ne ce, .int .u32 0, .int .u64 0, .int .u32 0, .slice At nt ct, .slice Ag ng cg] X (New X.heap.size X ST)) :
    Calls Tryd.prog 7 #[.agg (mkA As ns cs Al nl cl Ae ne ce), .slice At nt ct, .slice Ag ng cg] w fun e w' => e = .returned (.bool true) ∧ Below w.heap.size w w' := by
  obtain ⟨g, hgs⟩ : ∃ g, g = w.heap.size := ⟨_, rfl⟩
  obtain ⟨w0, hw0⟩ : ∃ w0, w.alloc (.cells (mkA As ns cs Al nl cl Ae ne ce) 24) = w0 := ⟨_, rfl⟩
  have M0 := Lib.hid (show Bk w0 g 24 (mkA As ns cs Al nl cl Ae ne ce) by rw [← hw0, hgs]; exact Bk.new _ _ _)
  have B0 := Lib.hid (show Below w.heap.size w w0 by rw [← hw0]; exact (Below.refl _ _).alloc (Nat.le_refl _) _)
  have HW := Lib.hid hw0
  have HGS := Lib.hid hgs
  have HAW := Lib.hid (fun X g => awake_true M X g)
  have HK := Lib.hid hk
  have MY := Lib.hid my
  have RY := Lib.hid ry
  have L1 := Lib.hid l1
  have L2 := Lib.hid l2
  have HSG := Lib.hid sg
  have HST := Lib.hid stc
  clear hk hs hl he ht hg hw0 hgs my ry l1 l2 sg stc
  go_enter Tryd.func7, Tryd.ntmps7
  go_upto_region 1 with (fail)
  rw [HW.out, ← HGS.out]
  go_upto_region 3 with (go_at_call 8; ((with_reducible refine (HAW.out _ (M.bel HK.out B0.out)).mono ?_); rintro e w1 ⟨rfl, b1⟩; have B1 := Lib.hid (B0.out.trans (b1.mono B0.out.size)); have M1 := Lib.hid (M0.out.below b1 M0.out.lt); clear b1))
  obtain ⟨k0, k1, k2⟩ := mk_cells M1.out
  go_upto_region 6 with (go_at_call 15; ((with_reducible refine (HSG.out _ B1.out).mono ?_); rintro e w2 ⟨A2, n2, c2, rfl, o2, b2⟩; obtain rfl : n2 = 0 := (own_len o2).symm.trans L1.out; have B2 := Lib.hid (B1.out.trans (b2.mono B1.out.size)); have M2 := Lib.hid (M1.out.below b2 M1.out.lt); clear k0 k1 k2; obtain ⟨k0, k1, k2⟩ := mk_cells M2.out; clear o2 b2))
  go_upto_region 7 with (go_at_call 17; ((with_reducible refine (HST.out _ B2.out).mono ?_); rintro e w3 ⟨A3, n3, c3, rfl, o3, b3⟩; obtain rfl : n3 = 32 := (own_len o3).symm.trans L2.out; have B3 := Lib.hid (B2.out.trans (b3.mono B2.out.size)); have M3 := Lib.hid (M2.out.below b3 M2.out.lt); clear k0 k1 k2; obtain ⟨k0, k1, k2⟩ := mk_cells M3.out; clear o3 b3))
  go_upto_region 8 with (go_at_call 11; ((with_reducible refine (RY.out _).mono ?_); rintro e w4 ⟨rfl, b4⟩; have B4 := Lib.hid (B3.out.trans (b4.mono B3.out.size)); have M4 := Lib.hid (M3.out.below b4 M3.out.lt); clear k0 k1 k2; obtain ⟨k0, k1, k2⟩ := mk_cells M4.out; clear b4))
  go_upto_region 9 with (fail)
  have KP := Lib.hid (show ∀ w', Below w4.heap.size w4 w' → w'.cell? ⟨g, 0, none⟩ = some (.slice As ns cs) ∧ w'.cell? ⟨g, 1, none⟩ = some (.slice Al nl cl) ∧ w'.cell? ⟨g, 2, none⟩ = some (.slice Ae ne ce) from fun w' hw' => mk_cells (M4.out.below hw' M4.out.lt))
  have BZ := Lib.hid (Below.refl w4.heap.size w4)
  have BB := Lib.hid (show ∀ w', Below w4.heap.size w4 w' → Below w.heap.size w w' from fun w' hw' => B4.out.trans (hw'.mono B4.out.size))
  clear k0 k1 k2
  refine wp_region_steady (fun w' => Below w4.heap.size w4 w' ∧ w'.cell? ⟨g, 0, none⟩ = some (.slice As ns cs) ∧ w'.cell? ⟨g, 1, none⟩ = some (.slice Al nl cl) ∧ w'.cell? ⟨g, 2, none⟩ = some (.slice Ae ne ce)) (by kernel_rfl) (by kernel_rfl) ⟨BZ.out.drew, KP.out _ BZ.out.drew⟩ ?_
  (refine seq_pure (v := ?_) (by rfl) ?_ ?_; rotate_left; (· (intro w' hS; go_simp; try with_reducible rfl)); simp only [Act.put, List.setIfInBounds_toArray, List.set_cons_zero, List.set_cons_succ])
  (refine seq_pure (v := ?_) (by rfl) ?_ ?_; rotate_left; (· (intro w' hS; go_simp; try with_reducible rfl)); simp only [Act.put, List.setIfInBounds_toArray, List.set_cons_zero, List.set_cons_succ])
  (refine seq_pure (v := ?_) (by rfl) ?_ ?_; rotate_left; (· (intro w' hS; go_simp; try with_reducible rfl)); simp only [Act.put, List.setIfInBounds_toArray, List.set_cons_zero, List.set_cons_succ])
  (refine seq_pure (v := ?_) (by rfl) ?_ ?_; rotate_left; (· (intro w' hS; go_simp; try with_reducible rfl)); simp only [Act.put, List.setIfInBounds_toArray, List.set_cons_zero, List.set_cons_succ])
  (refine seq_pure (v := ?_) (by rfl) ?_ ?_; rotate_left; (· (intro w' hS; go_simp; try with_reducible rfl)); simp only [Act.put, List.setIfInBounds_toArray, List.set_cons_zero, List.set_cons_succ])
  (refine seq_pure (v := ?_) (by rfl) ?_ ?_; rotate_left; (· (intro w' hS; go_simp; try with_reducible rfl)); simp only [Act.put, List.setIfInBounds_toArray, List.set_cons_zero, List.set_cons_succ])
  (refine seq_pure (v := ?_) (by rfl) ?_ ?_; rotate_left; (· (intro w' hS; go_simp; try with_reducible rfl)); simp only [Act.put, List.setIfInBounds_toArray, List.set_cons_zero, List.set_cons_succ])
  (refine seq_pure (v := ?_) (by rfl) ?_ ?_; rotate_left; (· (intro w' hS; go_simp; try with_reducible rfl)); simp only [Act.put, List.setIfInBounds_toArray, List.set_cons_zero, List.set_cons_succ])
  (refine seq_pure (v := ?_) (by rfl) ?_ ?_; rotate_left; (· (intro w' hS; go_simp; try with_reducible rfl)); simp only [Act.put, List.setIfInBounds_toArray, List.set_cons_zero, List.set_cons_succ])
  (refine seq_pure (v := ?_) (by rfl) ?_ ?_; rotate_left; (· (intro w' hS; go_simp; try with_reducible rfl)); simp only [Act.put, List.setIfInBounds_toArray, List.set_cons_zero, List.set_cons_succ])
  (refine seq_pure (v := ?_) (by rfl) ?_ ?_; rotate_left; (· (intro w' hS; go_simp; try with_reducible rfl)); simp only [Act.put, List.setIfInBounds_toArray, List.set_cons_zero, List.set_cons_succ])
  (refine seq_pure (v := ?_) (by rfl) ?_ ?_; rotate_left; (· (intro w' hS; go_simp; try with_reducible rfl)); simp only [Act.put, List.setIfInBounds_toArray, List.set_cons_zero, List.set_cons_succ])
  (refine seq_pure (v := ?_) (by rfl) ?_ ?_; rotate_left; (· (intro w' hS; go_simp; try with_reducible rfl)); simp only [Act.put, List.setIfInBounds_toArray, List.set_cons_zero, List.set_cons_succ])
  (refine seq_pure (v := ?_) (by rfl) ?_ ?_; rotate_left; (· (intro w' hS; go_simp; try with_reducible rfl)); simp only [Act.put, List.setIfInBounds_toArray, List.set_cons_zero, List.set_cons_succ])
  (refine seq_pure (v := ?_) (by rfl) ?_ ?_; rotate_left; (· (intro w' hS; go_simp; try with_reducible rfl)); simp only [Act.put, List.setIfInBounds_toArray, List.set_cons_zero, List.set_cons_succ])
  (refine seq_pure (v := ?_) (by rfl) ?_ ?_; rotate_left; (· (intro w' hS; go_simp; try with_reducible rfl)); simp only [Act.put, List.setIfInBounds_toArray, List.set_cons_zero, List.set_cons_succ])
  (refine seq_pure (v := ?_) (by rfl) ?_ ?_; rotate_left; (· (intro w' hS; go_simp; try with_reducible rfl)); simp only [Act.put, List.setIfInBounds_toArray, List.set_cons_zero, List.set_cons_succ])
  (refine seq_pure (v := ?_) (by rfl) ?_ ?_; rotate_left; (· (intro w' hS; go_simp; try with_reducible rfl)); simp only [Act.put, List.setIfInBounds_toArray, List.set_cons_zero, List.set_cons_succ])
  (refine seq_pure (v := ?_) (by rfl) ?_ ?_; rotate_left; (· (intro w' hS; go_simp; try with_reducible rfl)); simp only [Act.put, List.setIfInBounds_toArray, List.set_cons_zero, List.set_cons_succ])
  (refine seq_pure (v := ?_) (by rfl) ?_ ?_; rotate_left; (· (intro w' hS; go_simp; try with_reducible rfl)); simp only [Act.put, List.setIfInBounds_toArray, List.set_cons_zero, List.set_cons_succ])
  (refine seq_pure (v := ?_) (by rfl) ?_ ?_; rotate_left; (· (intro w' hS; go_simp; try with_reducible rfl)); simp only [Act.put, List.setIfInBounds_toArray, List.set_cons_zero, List.set_cons_succ])
  (refine seq_pure (v := ?_) (by rfl) ?_ ?_; rotate_left; (· (intro w' hS; go_simp; try with_reducible rfl)); simp only [Act.put, List.setIfInBounds_toArray, List.set_cons_zero, List.set_cons_succ])
  (refine seq_pure (v := ?_) (by rfl) ?_ ?_; rotate_left; (· (intro w' hS; go_simp; try with_reducible rfl)); simp only [Act.put, List.setIfInBounds_toArray, List.set_cons_zero, List.set_cons_succ])
  refine seq_skip (by rfl) ?_
  simp only [Act.put, List.setIfInBounds_toArray, List.set_cons_zero, List.set_cons_succ]
  refine seq_skip (by rfl) ?_
  simp only [Act.put, List.setIfInBounds_toArray, List.set_cons_zero, List.set_cons_succ]
  refine seq_skip (by rfl) ?_
  simp only [Act.put, List.setIfInBounds_toArray, List.set_cons_zero, List.set_cons_succ]
  (refine seq_pure (v := ?_) (by rfl) ?_ ?_; rotate_left; (· (intro w' hS; go_simp; try with_reducible rfl)); simp only [Act.put, List.setIfInBounds_toArray, List.set_cons_zero, List.set_cons_succ])
  (refine seq_pure (v := ?_) (by rfl) ?_ ?_; rotate_left; (· (intro w' hS; go_simp; try with_reducible rfl)); simp only [Act.put, List.setIfInBounds_toArray, List.set_cons_zero, List.set_cons_succ])
  (refine seq_pure (v := ?_) (by rfl) ?_ ?_; rotate_left; (· (intro w' hS; go_simp; try with_reducible rfl)); simp only [Act.put, List.setIfInBounds_toArray, List.set_cons_zero, List.set_cons_succ])
  (refine seq_pure (v := ?_) (by rfl) ?_ ?_; rotate_left; (· (intro w' hS; obtain ⟨hb, h0, h1, h2⟩ := hS; go_simp; try with_reducible rfl)); simp only [Act.put, List.setIfInBounds_toArray, List.set_cons_zero, List.set_cons_succ])
  refine seq_call (f := 10) (args := #[.agg #[.slice As ns cs, .slice Al nl cl, .slice Ae ne ce]]) (v := .bool false) (by rfl) ?_ ?_ ?_
  · intro w' hS; go_simp
  · intro w' hS; exact (MY.out _ (BB.out _ hS.1)).mono fun e X' ⟨h1, h2⟩ => ⟨h1, hS.1.trans (h2.mono hS.1.size), KP.out _ (hS.1.trans (h2.mono hS.1.size))⟩
  simp only [Act.put, List.setIfInBounds_toArray, List.set_cons_zero, List.set_cons_succ]
  (refine seq_pure (v := ?_) (by rfl) ?_ ?_; rotate_left; (· (intro w' hS; obtain ⟨hb, h0, h1, h2⟩ := hS; go_simp; try with_reducible rfl)); simp only [Act.put, List.setIfInBounds_toArray, List.set_cons_zero, List.set_cons_succ])
  refine seq_call (f := 11) (args := #[.agg #[.slice As ns cs, .slice Al nl cl, .slice Ae ne ce]]) (v := .bool false) (by rfl) ?_ ?_ ?_
  · intro w' hS; go_simp
  · intro w' hS; exact (RY.out _).mono fun e X' ⟨h1, h2⟩ => ⟨h1, hS.1.trans (h2.mono hS.1.size), KP.out _ (hS.1.trans (h2.mono hS.1.size))⟩
  simp only [Act.put, List.setIfInBounds_toArray, List.set_cons_zero, List.set_cons_succ]
  (refine seq_pure (v := ?_) (by rfl) ?_ ?_; rotate_left; (· (intro w' hS; go_simp; try with_reducible rfl)); simp only [Act.put, List.setIfInBounds_toArray, List.set_cons_zero, List.set_cons_succ])
  (refine seq_pure (v := ?_) (by rfl) ?_ ?_; rotate_left; (· (intro w' hS; go_simp; try with_reducible rfl)); simp only [Act.put, List.setIfInBounds_toArray, List.set_cons_zero, List.set_cons_succ])
  (refine seq_pure (v := ?_) (by rfl) ?_ ?_; rotate_left; (· (intro w' hS; go_simp; try with_reducible rfl)); simp only [Act.put, List.setIfInBounds_toArray, List.set_cons_zero, List.set_cons_succ])
  refine seq_nil (fun w6 hS => ?_)
  have B6 := Lib.hid hS.1
  clear hS
  go_wp2
  go_ret
  exact ⟨rfl, BB.out _ B6.out⟩
set_option maxHeartbeats 8000000 in
theorem lens_c10 (M : WC) (w : World) (hk : M.ok w) (As : Option Addr) (ns cs : Nat) (sec : List UInt8) (hs : Rd w As ns cs sec) (Al : Option Addr) (nl cl : Nat) (salt : List UInt8) (hl : Rd w Al nl cl salt) (Ae : Option Addr) (ne ce : Nat) (sd : List UInt8) (he : Rd w Ae ne ce sd) (At : Option Addr) (nt ct : Nat) (text : List UInt8) (ht : Rd w At nt ct text) (Ag : Option Addr) (ng cg : Nat) (sig : List UInt8) (hg : Rd w Ag ng cg sig) (q1 : ¬ (100 : Int) < (ns : Int)) (q2 : ¬ (100 : Int) < (nl : Int)) (q3 : ¬ (100 : Int) < (ne : Int)) (q4 : ¬ (100 : Int) < (nt : Int)) (q5 : ¬ (3000 : Int) < (ng : Int)) (e1 : ((ne : Int) == 32) = true) (e2 : ((nt : Int) == 32) = true) (e3 : ((ng : Int) == 2144) = false)
    (my : ∀ X, Below w.heap.size w X → Calls Tryd.prog 10 #[.agg #[.slice As ns cs, .slice Al nl cl, .slice Ae ne ce]] X fun e w' => e = .returned (.bool true) ∧ Below X.heap.size X w') (ry : ∀ X, Calls Tryd.prog 11 #[.agg #[.slice As ns cs, .slice Al nl cl, .slice Ae ne ce]] X fun e w' => e = .returned (.bool true) ∧ Below X.heap.size X w')
    (SG : List UInt8) (l1 : SG.length = 2144) (sg : ∀ X, Below w.heap.size w X → Calls Tryd.prog 15 #[.agg #[.slice As ns cs, .slice Al nl cl, .slice Ae ne ce], .int .u32 0, .int .u64 0, .int .u32 0, .slice At nt ct] X (New X.heap.size X SG)) (ST : List UInt8) (l2 : ST.length = 0) (stc : ∀ X, Below w.heap.size w X → Calls Tryd.prog 17 #[.slice Ae ne ce, .int .u32 0, .int .u64 0, .int .u32 0, .slice At nt ct, .slice Ag ng cg] X (New X.heap.size X ST)) :
    Calls Tryd.prog 7 #[.agg (mkA As ns cs Al nl cl Ae ne ce), .slice At nt ct, .slice Ag ng cg] w fun e w' => e = .returned (.bool true) ∧ Below w.heap.size w w' := by
  obtain ⟨g, hgs⟩ : ∃ g, g = w.heap.size := ⟨_, rfl⟩
  obtain ⟨w0, hw0⟩ : ∃ w0, w.alloc (.cells (mkA As ns cs Al nl cl Ae ne ce) 24) = w0 := ⟨_, rfl⟩
  have M0 := Lib.hid (show Bk w0 g 24 (mkA As ns cs Al nl cl Ae ne ce) by rw [← hw0, hgs]; exact Bk.new _ _ _)
  have B0 := Lib.hid (show Below w.heap.size w w0 by rw [← hw0]; exact (Below.refl _ _).alloc (Nat.le_refl _) _)
  have HW := Lib.hid hw0
  have HGS := Lib.hid hgs
  have HAW := Lib.hid (fun X g => awake_true M X g)
  have HK := Lib.hid hk
  have MY := Lib.hid my
  have RY := Lib.hid ry
  have L1 := Lib.hid l1
  have L2 := Lib.hid l2
  have HSG := Lib.hid sg
  have HST := Lib.hid stc
  clear hk hs hl he ht hg hw0 hgs my ry l1 l2 sg stc
  go_enter Tryd.func7, Tryd.ntmps7
  go_upto_region 1 with (fail)
  rw [HW.out, ← HGS.out]
  go_upto_region 3 with (go_at_call 8; ((with_reducible refine (HAW.out _ (M.bel HK.out B0.out)).mono ?_); rintro e w1 ⟨rfl, b1⟩; have B1 := Lib.hid (B0.out.trans (b1.mono B0.out.size)); have M1 := Lib.hid (M0.out.below b1 M0.out.lt); clear b1))
  obtain ⟨k0, k1, k2⟩ := mk_cells M1.out
  go_upto_region 6 with (go_at_call 15; ((with_reducible refine (HSG.out _ B1.out).mono ?_); rintro e w2 ⟨A2, n2, c2, rfl, o2, b2⟩; obtain rfl : n2 = 2144 := (own_len o2).symm.trans L1.out; have B2 := Lib.hid (B1.out.trans (b2.mono B1.out.size)); have M2 := Lib.hid (M1.out.below b2 M1.out.lt); clear k0 k1 k2; obtain ⟨k0, k1, k2⟩ := mk_cells M2.out; clear o2 b2))
  go_upto_region 7 with (go_at_call 17; ((with_reducible refine (HST.out _ B2.out).mono ?_); rintro e w3 ⟨A3, n3, c3, rfl, o3, b3⟩; obtain rfl : n3 = 0 := (own_len o3).symm.trans L2.out; have B3 := Lib.hid (B2.out.trans (b3.mono B2.out.size)); have M3 := Lib.hid (M2.out.below b3 M2.out.lt); clear k0 k1 k2; obtain ⟨k0, k1, k2⟩ := mk_cells M3.out; clear o3 b3))
  go_upto_region 8 with (go_at_call 11; ((with_reducible refine (RY.out _).mono ?_); rintro e w4 ⟨rfl, b4⟩; have B4 := Lib.hid (B3.out.trans (b4.mono B3.out.size)); have M4 := Lib.hid (M3.out.below b4 M3.out.lt); clear k0 k1 k2; obtain ⟨k0, k1, k2⟩ := mk_cells M4.out; clear b4))
  go_upto_region 9 with (fail)
  have KP := Lib.hid (show ∀ w', Below w4.heap.size w4 w' → w'.cell? ⟨g, 0, none⟩ = some (.slice As ns cs) ∧ w'.cell? ⟨g, 1, none⟩ = some (.slice Al nl cl) ∧ w'.cell? ⟨g, 2, none⟩ = some (.slice Ae ne ce) from fun w' hw' => mk_cells (M4.out.below hw' M4.out.lt))
  have BZ := Lib.hid (Below.refl w4.heap.size w4)
  have BB := Lib.hid (show ∀ w', Below w4.heap.size w4 w' → Below w.heap.size w w' from fun w' hw' => B4.out.trans (hw'.mono B4.out.size))
  clear k0 k1 k2
  refine wp_region_steady (fun w' => Below w4.heap.size w4 w' ∧ w'.cell? ⟨g, 0, none⟩ = some (.slice As ns cs) ∧ w'.cell? ⟨g, 1, none⟩ = some (.slice Al nl cl) ∧ w'.cell? ⟨g, 2, none⟩ = some (.slice Ae ne ce)) (by kernel_rfl) (by kernel_rfl) ⟨BZ.out.drew, KP.out _ BZ.out.drew⟩ ?_
  (refine seq_pure (v := ?_) (by rfl) ?_ ?_; rotate_left; (· (intro w' hS; go_simp; try with_reducible rfl)); simp only [Act.put, List.setIfInBounds_toArray, List.set_cons_zero, List.set_cons_succ])
  (refine seq_pure (v := ?_) (by rfl) ?_ ?_; rotate_left; (· (intro w' hS; go_simp; try with_reducible rfl)); simp only [Act.put, List.setIfInBounds_toArray, List.set_cons_zero, List.set_cons_succ])
  (refine seq_pure (v := ?_) (by rfl) ?_ ?_; rotate_left; (· (intro w' hS; go_simp; try with_reducible rfl)); simp only [Act.put, List.setIfInBounds_toArray, List.set_cons_zero, List.set_cons_succ])
  (refine seq_pure (v := ?_) (by rfl) ?_ ?_; rotate_left; (· (intro w' hS; go_simp; try with_reducible rfl)); simp only [Act.put, List.setIfInBounds_toArray, List.set_cons_zero, List.set_cons_succ])
  (refine seq_pure (v := ?_) (by rfl) ?_ ?_; rotate_left; (· (intro w' hS; go_simp; try with_reducible rfl)); simp only [Act.put, List.setIfInBounds_toArray, List.set_cons_zero, List.set_cons_succ])
  (refine seq_pure (v := ?_) (by rfl) ?_ ?_; rotate_left; (· (intro w' hS; go_simp; try with_reducible rfl)); simp only [Act.put, List.setIfInBounds_toArray, List.set_cons_zero, List.set_cons_succ])
  (refine seq_pure (v := ?_) (by rfl) ?_ ?_; rotate_left; (· (intro w' hS; go_simp; try with_reducible rfl)); simp only [Act.put, List.setIfInBounds_toArray, List.set_cons_zero, List.set_cons_succ])
  (refine seq_pure (v := ?_) (by rfl) ?_ ?_; rotate_left; (· (intro w' hS; go_simp; try with_reducible rfl)); simp only [Act.put, List.setIfInBounds_toArray, List.set_cons_zero, List.set_cons_succ])
  refine seq_skip (by rfl) ?_
  simp only [Act.put, List.setIfInBounds_toArray, List.set_cons_zero, List.set_cons_succ]
  refine seq_skip (by rfl) ?_
  simp only [Act.put, List.setIfInBounds_toArray, List.set_cons_zero, List.set_cons_succ]
  refine seq_skip (by rfl) ?_
  simp only [Act.put, List.setIfInBounds_toArray, List.set_cons_zero, List.set_cons_succ]
  (refine seq_pure (v := ?_) (by rfl) ?_ ?_; rotate_left; (· (intro w' hS; go_simp; try with_reducible rfl)); simp only [Act.put, List.setIfInBounds_toArray, List.set_cons_zero, List.set_cons_succ])
  (refine seq_pure (v := ?_) (by rfl) ?_ ?_; rotate_left; (· (intro w' hS; go_simp; try with_reducible rfl)); simp only [Act.put, List.setIfInBounds_toArray, List.set_cons_zero, List.set_cons_succ])
  (refine seq_pure (v := ?_) (by rfl) ?_ ?_; rotate_left; (· (intro w' hS; go_simp; try with_reducible rfl)); simp only [Act.put, List.setIfInBounds_toArray, List.set_cons_zero, List.set_cons_succ])
  (refine seq_pure (v := ?_) (by rfl) ?_ ?_; rotate_left; (· (intro w' hS; go_simp; try with_reducible rfl)); simp only [Act.put, List.setIfInBounds_toArray, List.set_cons_zero, List.set_cons_succ])
  (refine seq_pure (v := ?_) (by rfl) ?_ ?_; rotate_left; (· (intro w' hS; go_simp; try with_reducible rfl)); simp only [Act.put, List.setIfInBounds_toArray, List.set_cons_zero, List.set_cons_succ])
  (refine seq_pure (v := ?_) (by rfl) ?_ ?_; rotate_left; (· (intro w' hS; go_simp; try with_reducible rfl)); simp only [Act.put, List.setIfInBounds_toArray, List.set_cons_zero, List.set_cons_succ])
  (refine seq_pure (v := ?_) (by rfl) ?_ ?_; rotate_left; (· (intro w' hS; go_simp; try with_reducible rfl)); simp only [Act.put, List.setIfInBounds_toArray, List.set_cons_zero, List.set_cons_succ])
  (refine seq_pure (v := ?_) (by rfl) ?_ ?_; rotate_left; (· (intro w' hS; go_simp; try with_reducible rfl)); simp only [Act.put, List.setIfInBounds_toArray, List.set_cons_zero, List.set_cons_succ])
  (refine seq_pure (v := ?_) (by rfl) ?_ ?_; rotate_left; (· (intro w' hS; go_simp; try with_reducible rfl)); simp only [Act.put, List.setIfInBounds_toArray, List.set_cons_zero, List.set_cons_succ])
  (refine seq_pure (v := ?_) (by rfl) ?_ ?_; rotate_left; (· (intro w' hS; go_simp; try with_reducible rfl)); simp only [Act.put, List.setIfInBounds_toArray, List.set_cons_zero, List.set_cons_succ])
  (refine seq_pure (v := ?_) (by rfl) ?_ ?_; rotate_left; (· (intro w' hS; go_simp; try with_reducible rfl)); simp only [Act.put, List.setIfInBounds_toArray, List.set_cons_zero, List.set_cons_succ])
  (refine seq_pure (v := ?_) (by rfl) ?_ ?_; rotate_left; (· (intro w' hS; go_simp; try with_reducible rfl)); simp only [Act.put, List.setIfInBounds_toArray, List.set_cons_zero, List.set_cons_succ])
  (refine seq_pure (v := ?_) (by rfl) ?_ ?_; rotate_left; (· (intro w' hS; go_simp; try with_reducible rfl)); simp only [Act.put, List.setIfInBounds_toArray, List.set_cons_zero, List.set_cons_succ])
  (refine seq_pure (v := ?_) (by rfl) ?_ ?_; rotate_left; (· (intro w' hS; go_simp; try with_reducible rfl)); simp only [Act.put, List.setIfInBounds_toArray, List.set_cons_zero, List.set_cons_succ])
  (refine seq_pure (v := ?_) (by rfl) ?_ ?_; rotate_left; (· (intro w' hS; go_simp; try with_reducible rfl)); simp only [Act.put, List.setIfInBounds_toArray, List.set_cons_zero, List.set_cons_succ])
  (refine seq_pure (v := ?_) (by rfl) ?_ ?_; rotate_left; (· (intro w' hS; go_simp; try with_reducible rfl)); simp only [Act.put, List.setIfInBounds_toArray, List.set_cons_zero, List.set_cons_succ])
  (refine seq_pure (v := ?_) (by rfl) ?_ ?_; rotate_left; (· (intro w' hS; go_simp; try with_reducible rfl)); simp only [Act.put, List.setIfInBounds_toArray, List.set_cons_zero, List.set_cons_succ])
  (refine seq_pure (v := ?_) (by rfl) ?_ ?_; rotate_left; (· (intro w' hS; go_simp; try with_reducible rfl)); simp only [Act.put, List.setIfInBounds_toArray, List.set_cons_zero, List.set_cons_succ])
  (refine seq_pure (v := ?_) (by rfl) ?_ ?_; rotate_left; (· (intro w' hS; obtain ⟨hb, h0, h1, h2⟩ := hS; go_simp; try with_reducible rfl)); simp only [Act.put, List.setIfInBounds_toArray, List.set_cons_zero, List.set_cons_succ])
  refine seq_call (f := 10) (args := #[.agg #[.slice As ns cs, .slice Al nl cl, .slice Ae ne ce]]) (v := .bool true) (by rfl) ?_ ?_ ?_
  · intro w' hS; go_simp
  · intro w' hS; exact (MY.out _ (BB.out _ hS.1)).mono fun e X' ⟨h1, h2⟩ => ⟨h1, hS.1.trans (h2.mono hS.1.size), KP.out _ (hS.1.trans (h2.mono hS.1.size))⟩
  simp only [Act.put, List.setIfInBounds_toArray, List.set_cons_zero, List.set_cons_succ]
  (refine seq_pure (v := ?_) (by rfl) ?_ ?_; rotate_left; (· (intro w' hS; obtain ⟨hb, h0, h1, h2⟩ := hS; go_simp; try with_reducible rfl)); simp only [Act.put, List.setIfInBounds_toArray, List.set_cons_zero, List.set_cons_succ])
  refine seq_call (f := 11) (args := #[.agg #[.slice As ns cs, .slice Al nl cl, .slice Ae ne ce]]) (v := .bool true) (by rfl) ?_ ?_ ?_
  · intro w' hS; go_simp
  · intro w' hS; exact (RY.out _).mono fun e X' ⟨h1, h2⟩ => ⟨h1, hS.1.trans (h2.mono hS.1.size), KP.out _ (hS.1.trans (h2.mono hS.1.size))⟩
  simp only [Act.put, List.setIfInBounds_toArray, List.set_cons_zero, List.set_cons_succ]
  (refine seq_pure (v := ?_) (by rfl) ?_ ?_; rotate_left; (· (intro w' hS; go_simp; try with_reducible rfl)); simp only [Act.put, List.setIfInBounds_toArray, List.set_cons_zero, List.set_cons_succ])
  (refine seq_pure (v := ?_) (by rfl) ?_ ?_; rotate_left; (· (intro w' hS; go_simp; try with_reducible rfl)); simp only [Act.put, List.setIfInBounds_toArray, List.set_cons_zero, List.set_cons_succ])
  (refine seq_pure (v := ?_) (by rfl) ?_ ?_; rotate_left; (· (intro w' hS; go_simp; try with_reducible rfl)); simp only [Act.put, List.setIfInBounds_toArray, List.set_cons_zero, List.set_cons_succ])
  refine seq_nil (fun w6 hS => ?_)
  have B6 := Lib.hid hS.1
  clear hS
  go_wp2
  go_ret
  exact ⟨rfl, BB.out _ B6.out⟩
set_option maxHeartbeats 8000000 in
theorem lens_c11 (M : WC) (w : World) (hk : M.ok w) (As : Option Addr) (ns cs : Nat) (sec : List UInt8) (hs : Rd w As ns cs sec) (Al : Option Addr) (nl cl : Nat) (salt : List UInt8) (hl : Rd w Al nl cl salt) (Ae : Option Addr) (ne ce : Nat) (sd : List UInt8) (he : Rd w Ae ne ce sd) (At : Option Addr) (nt ct : Nat) (text : List UInt8) (ht : Rd w At nt ct text) (Ag : Option Addr) (ng cg : Nat) (sig : List UInt8) (hg : Rd w Ag ng cg sig) (q1 : ¬ (100 : Int) < (ns : Int)) (q2 : ¬ (100 : Int) < (nl : Int)) (q3 : ¬ (100 : Int) < (ne : Int)) (q4 : ¬ (100 : Int) < (nt : Int)) (q5 : ¬ (3000 : Int) < (ng : Int)) (e1 : ((ne : Int) == 32) = true) (e2 : ((nt : Int) == 32) = true) (e3 : ((ng : Int) == 2144) = true)
    (my : ∀ X, Below w.heap.size w X → Calls Tryd.prog 10 #[.agg #[.slice As ns cs, .slice Al nl cl, .slice Ae ne ce]] X fun e w' => e = .returned (.bool true) ∧ Below X.heap.size X w') (ry : ∀ X, Calls Tryd.prog 11 #[.agg #[.slice As ns cs, .slice Al nl cl, .slice Ae ne ce]] X fun e w' => e = .returned (.bool true) ∧ Below X.heap.size X w')
    (SG : List UInt8) (l1 : SG.length = 2144) (sg : ∀ X, Below w.heap.size w X → Calls Tryd.prog 15 #[.agg #[.slice As ns cs, .slice Al nl cl, .slice Ae ne ce], .int .u32 0, .int .u64 0, .int .u32 0, .slice At nt ct] X (New X.heap.size X SG)) (ST : List UInt8) (l2 : ST.length = 32) (stc : ∀ X, Below w.heap.size w X → Calls Tryd.prog 17 #[.slice Ae ne ce, .int .u32 0, .int .u64 0, .int .u32 0, .slice At nt ct, .slice Ag ng cg] X (New X.heap.size X ST)) :
    Calls Tryd.prog 7 #[.agg (mkA As ns cs Al nl cl Ae ne ce), .slice At nt ct, .slice Ag ng cg] w fun e w' => e = .returned (.bool true) ∧ Below w.heap.size w w' := by
  obtain ⟨g, hgs⟩ : ∃ g, g = w.heap.size := ⟨_, rfl⟩
  obtain ⟨w0, hw0⟩ : ∃ w0, w.alloc (.cells (mkA As ns cs Al nl cl Ae ne ce) 24) = w0 := ⟨_, rfl⟩
  have M0 := Lib.hid (show Bk w0 g 24 (mkA As ns cs Al nl cl Ae ne ce) by rw [← hw0, hgs]; exact Bk.new _ _ _)
  have B0 := Lib.hid (show Below w.heap.size w w0 by rw [← hw0]; exact (Below.refl _ _).alloc (Nat.le_refl _) _)
  have HW := Lib.hid hw0
  have HGS := Lib.hid hgs
  have HAW := Lib.hid (fun X g => awake_true M X g)
  have HK := Lib.hid hk
  have MY := Lib.hid my
  have RY := Lib.hid ry
  have L1 := Lib.hid l1
  have L2 := Lib.hid l2
  have HSG := Lib.hid sg
  have HST := Lib.hid stc
  clear hk hs hl he ht hg hw0 hgs my ry l1 l2 sg stc
  go_enter Tryd.func7, Tryd.ntmps7
  go_upto_region 1 with (fail)
  rw [HW.out, ← HGS.out]
  go_upto_region 3 with (go_at_call 8; ((with_reducible refine (HAW.out _ (M.bel HK.out B0.out)).mono ?_); rintro e w1 ⟨rfl, b1⟩; have B1 := Lib.hid (B0.out.trans (b1.mono B0.out.size)); have M1 := Lib.hid (M0.out.below b1 M0.out.lt); clear b1))
  obtain ⟨k0, k1, k2⟩ := mk_cells M1.out
  go_upto_region 6 with (go_at_call 15; ((with_reducible refine (HSG.out _ B1.out).mono ?_); rintro e w2 ⟨A2, n2, c2, rfl, o2, b2⟩; obtain rfl : n2 = 2144 := (own_len o2).symm.trans L1.out; have B2 := Lib.hid (B1.out.trans (b2.mono B1.out.size)); have M2 := Lib.hid (M1.out.below b2 M1.out.lt); clear k0 k1 k2; obtain ⟨k0, k1, k2⟩ := mk_cells M2.out; clear o2 b2))
  go_upto_region 7 with (go_at_call 17; ((with_reducible refine (HST.out _ B2.out).mono ?_); rintro e w3 ⟨A3, n3, c3, rfl, o3, b3⟩; obtain rfl : n3 = 32 := (own_len o3).symm.trans L2.out; have B3 := Lib.hid (B2.out.trans (b3.mono B2.out.size)); have M3 := Lib.hid (M2.out.below b3 M2.out.lt); clear k0 k1 k2; obtain ⟨k0, k1, k2⟩ := mk_cells M3.out; clear o3 b3))
  go_upto_region 8 with (go_at_call 11; ((with_reducible refine (RY.out _).mono ?_); rintro e w4 ⟨rfl, b4⟩; have B4 := Lib.hid (B3.out.trans (b4.mono B3.out.size)); have M4 := Lib.hid (M3.out.below b4 M3.out.lt); clear k0 k1 k2; obtain ⟨k0, k1, k2⟩ := mk_cells M4.out; clear b4))
  go_upto_region 9 with (fail)
  have KP := Lib.hid (show ∀ w', Below w4.heap.size w4 w' → w'.cell? ⟨g, 0, none⟩ = some (.slice As ns cs) ∧ w'.cell? ⟨g, 1, none⟩ = some (.slice Al nl cl) ∧ w'.cell? ⟨g, 2, none⟩ = some (.slice Ae ne ce) from fun w' hw' => mk_cells (M4.out.below hw' M4.out.lt))
  have BZ := Lib.hid (Below.refl w4.heap.size w4)
  have BB := Lib.hid (show ∀ w', Below w4.heap.size w4 w' → Below w.heap.size w w' from fun w' hw' => B4.out.trans (hw'.mono B4.out.size))
  clear k0 k1 k2
  refine wp_region_steady (fun w' => Below w4.heap.size w4 w' ∧ w'.cell? ⟨g, 0, none⟩ = some (.slice As ns cs) ∧ w'.cell? ⟨g, 1, none⟩ = some (.slice Al nl cl) ∧ w'.cell? ⟨g, 2, none⟩ = some (.slice Ae ne ce)) (by kernel_rfl) (by kernel_rfl) ⟨BZ.out.drew, KP.out _ BZ.out.drew⟩ ?_
  (refine seq_pure (v := ?_) (by rfl) ?_ ?_; rotate_left; (· (intro w' hS; go_simp; try with_reducible rfl)); simp only [Act.put, List.setIfInBounds_toArray, List.set_cons_zero, List.set_cons_succ])
  (refine seq_pure (v := ?_) (by rfl) ?_ ?_; rotate_left; (· (intro w' hS; go_simp; try with_reducible rfl)); simp only [Act.put, List.setIfInBounds_toArray, List.set_cons_zero, List.set_cons_succ])
  (refine seq_pure (v := ?_) (by rfl) ?_ ?_; rotate_left; (· (intro w' hS; go_simp; try with_reducible rfl)); simp only [Act.put, List.setIfInBounds_toArray, List.set_cons_zero, List.set_cons_succ])
  (refine seq_pure (v := ?_) (by rfl) ?_ ?_; rotate_left; (· (intro w' hS; go_simp; try with_reducible rfl)); simp only [Act.put, List.setIfInBounds_toArray, List.set_cons_zero, List.set_cons_succ])
  (refine seq_pure (v := ?_) (by rfl) ?_ ?_; rotate_left; (· (intro w' hS; go_simp; try with_reducible rfl)); simp only [Act.put, List.setIfInBounds_toArray, List.set_cons_zero, List.set_cons_succ])
  (refine seq_pure (v := ?_) (by rfl) ?_ ?_; rotate_left; (· (intro w' hS; go_simp; try with_reducible rfl)); simp only [Act.put, List.setIfInBounds_toArray, List.set_cons_zero, List.set_cons_succ])
  (refine seq_pure (v := ?_) (by rfl) ?_ ?_; rotate_left; (· (intro w' hS; go_simp; try with_reducible rfl)); simp only [Act.put, List.setIfInBounds_toArray, List.set_cons_zero, List.set_cons_succ])
  (refine seq_pure (v := ?_) (by rfl) ?_ ?_; rotate_left; (· (intro w' hS; go_simp; try with_reducible rfl)); simp only [Act.put, List.setIfInBounds_toArray, List.set_cons_zero, List.set_cons_succ])
  refine seq_skip (by rfl) ?_
  simp only [Act.put, List.setIfInBounds_toArray, List.set_cons_zero, List.set_cons_succ]
  refine seq_skip (by rfl) ?_
  simp only [Act.put, List.setIfInBounds_toArray, List.set_cons_zero, List.set_cons_succ]
  refine seq_skip (by rfl) ?_
  simp only [Act.put, List.setIfInBounds_toArray, List.set_cons_zero, List.set_cons_succ]
  (refine seq_pure (v := ?_) (by rfl) ?_ ?_; rotate_left; (· (intro w' hS; go_simp; try with_reducible rfl)); simp only [Act.put, List.setIfInBounds_toArray, List.set_cons_zero, List.set_cons_succ])
  (refine seq_pure (v := ?_) (by rfl) ?_ ?_; rotate_left; (· (intro w' hS; go_simp; try with_reducible rfl)); simp only [Act.put, List.setIfInBounds_toArray, List.set_cons_zero, List.set_cons_succ])
  (refine seq_pure (v := ?_) (by rfl) ?_ ?_; rotate_left; (· (intro w' hS; go_simp; try with_reducible rfl)); simp only [Act.put, List.setIfInBounds_toArray, List.set_cons_zero, List.set_cons_succ])
  (refine seq_pure (v := ?_) (by rfl) ?_ ?_; rotate_left; (· (intro w' hS; go_simp; try with_reducible rfl)); simp only [Act.put, List.setIfInBounds_toArray, List.set_cons_zero, List.set_cons_succ])
  (refine seq_pure (v := ?_) (by rfl) ?_ ?_; rotate_left; (· (intro w' hS; go_simp; try with_reducible rfl)); simp only [Act.put, List.setIfInBounds_toArray, List.set_cons_zero, List.set_cons_succ])
  (refine seq_pure (v := ?_) (by rfl) ?_ ?_; rotate_left; (· (intro w' hS; go_simp; try with_reducible rfl)); simp only [Act.put, List.setIfInBounds_toArray, List.set_cons_zero, List.set_cons_succ])
  (refine seq_pure (v := ?_) (by rfl) ?_ ?_; rotate_left; (· (intro w' hS; go_simp; try with_reducible rfl)); simp only [Act.put, List.setIfInBounds_toArray, List.set_cons_zero, List.set_cons_succ])
  (refine seq_pure (v := ?_) (by rfl) ?_ ?_; rotate_left; (· (intro w' hS; go_simp; try with_reducible rfl)); simp only [Act.put, List.setIfInBounds_toArray, List.set_cons_zero, List.set_cons_succ])
  (refine seq_pure (v := ?_) (by rfl) ?_ ?_; rotate_left; (· (intro w' hS; go_simp; try with_reducible rfl)); simp only [Act.put, List.setIfInBounds_toArray, List.set_cons_zero, List.set_cons_succ])
  (refine seq_pure (v := ?_) (by rfl) ?_ ?_; rotate_left; (· (intro w' hS; go_simp; try with_reducible rfl)); simp only [Act.put, List.setIfInBounds_toArray, List.set_cons_zero, List.set_cons_succ])
  (refine seq_pure (v := ?_) (by rfl) ?_ ?_; rotate_left; (· (intro w' hS; go_simp; try with_reducible rfl)); simp only [Act.put, List.setIfInBounds_toArray, List.set_cons_zero, List.set_cons_succ])
  (refine seq_pure (v := ?_) (by rfl) ?_ ?_; rotate_left; (· (intro w' hS; go_simp; try with_reducible rfl)); simp only [Act.put, List.setIfInBounds_toArray, List.set_cons_zero, List.set_cons_succ])
  refine seq_skip (by rfl) ?_
  simp only [Act.put, List.setIfInBounds_toArray, List.set_cons_zero, List.set_cons_succ]
  refine seq_skip (by rfl) ?_
  simp only [Act.put, List.setIfInBounds_toArray, List.set_cons_zero, List.set_cons_succ]
  refine seq_skip (by rfl) ?_
  simp only [Act.put, List.setIfInBounds_toArray, List.set_cons_zero, List.set_cons_succ]
  (refine seq_pure (v := ?_) (by rfl) ?_ ?_; rotate_left; (· (intro w' hS; go_simp; try with_reducible rfl)); simp only [Act.put, List.setIfInBounds_toArray, List.set_cons_zero, List.set_cons_succ])
  (refine seq_pure (v := ?_) (by rfl) ?_ ?_; rotate_left; (· (intro w' hS; go_simp; try with_reducible rfl)); simp only [Act.put, List.setIfInBounds_toArray, List.set_cons_zero, List.set_cons_succ])
  (refine seq_pure (v := ?_) (by rfl) ?_ ?_; rotate_left; (· (intro w' hS; go_simp; try with_reducible rfl)); simp only [Act.put, List.setIfInBounds_toArray, List.set_cons_zero, List.set_cons_succ])
  (refine seq_pure (v := ?_) (by rfl) ?_ ?_; rotate_left; (· (intro w' hS; obtain ⟨hb, h0, h1, h2⟩ := hS; go_simp; try with_reducible rfl)); simp only [Act.put, List.setIfInBounds_toArray, List.set_cons_zero, List.set_cons_succ])
  refine seq_call (f := 10) (args := #[.agg #[.slice As ns cs, .slice Al nl cl, .slice Ae ne ce]]) (v := .bool true) (by rfl) ?_ ?_ ?_
  · intro w' hS; go_simp
  · intro w' hS; exact (MY.out _ (BB.out _ hS.1)).mono fun e X' ⟨h1, h2⟩ => ⟨h1, hS.1.trans (h2.mono hS.1.size), KP.out _ (hS.1.trans (h2.mono hS.1.size))⟩
  simp only [Act.put, List.setIfInBounds_toArray, List.set_cons_zero, List.set_cons_succ]
  (refine seq_pure (v := ?_) (by rfl) ?_ ?_; rotate_left; (· (intro w' hS; obtain ⟨hb, h0, h1, h2⟩ := hS; go_simp; try with_reducible rfl)); simp only [Act.put, List.setIfInBounds_toArray, List.set_cons_zero, List.set_cons_succ])
  refine seq_call (f := 11) (args := #[.agg #[.slice As ns cs, .slice Al nl cl, .slice Ae ne ce]]) (v := .bool true) (by rfl) ?_ ?_ ?_
  · intro w' hS; go_simp
  · intro w' hS; exact (RY.out _).mono fun e X' ⟨h1, h2⟩ => ⟨h1, hS.1.trans (h2.mono hS.1.size), KP.out _ (hS.1.trans (h2.mono hS.1.size))⟩
  simp only [Act.put, List.setIfInBounds_toArray, List.set_cons_zero, List.set_cons_succ]
  (refine seq_pure (v := ?_) (by rfl) ?_ ?_; rotate_left; (· (intro w' hS; go_simp; try with_reducible rfl)); simp only [Act.put, List.setIfInBounds_toArray, List.set_cons_zero, List.set_cons_succ])
  (refine seq_pure (v := ?_) (by rfl) ?_ ?_; rotate_left; (· (intro w' hS; go_simp; try with_reducible rfl)); simp only [Act.put, List.setIfInBounds_toArray, List.set_cons_zero, List.set_cons_succ])
  (refine seq_pure (v := ?_) (by rfl) ?_ ?_; rotate_left; (· (intro w' hS; go_simp; try with_reducible rfl)); simp only [Act.put, List.setIfInBounds_toArray, List.set_cons_zero, List.set_cons_succ])
  refine seq_nil (fun w6 hS => ?_)
  have B6 := Lib.hid hS.1
  clear hS
  go_wp2
  go_ret
  exact ⟨rfl, BB.out _ B6.out⟩
end Go.Proofs.YtnejepidbahjdaaDoor.S15
