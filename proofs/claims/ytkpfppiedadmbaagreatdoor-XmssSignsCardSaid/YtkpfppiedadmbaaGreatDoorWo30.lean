/-
  Texts put together: XmA, XmY. No statement is proved here.
-/
import Derived.Test.YtkpfppiedadmbaaGreatDoorWo29
import Derived.Test.YtkpfppiedadmbaaGreatDoorWo23

/-
  The landed package xmss: the public key. No statement is proved here.
-/
namespace Go.Proofs.YtkpfppiedadmbaaGreatDoor.S16
set_option linter.unusedSimpArgs false
set_option linter.unusedVariables false
set_option maxRecDepth 1024
open Go.RowKit S15

set_option maxHeartbeats 1000000 in
theorem pub16_not (L H : Int) (As : Option Addr) (ns cs : Nat) (Al : Option Addr) (nl cl : Nat) (Ae : Option Addr) (ne ce : Nat) (w : World) (hm : madeX L H ns nl ne = false) :
    Calls Tryz.prog 10 #[.agg (shA L H), .agg (mkA As ns cs Al nl cl Ae ne ce)] w (GivesNil w) := by
  have CM := Lib.hid (show ∀ X, Calls Tryz.prog 20 #[.agg #[.int .i64 L, .int .i64 H], .agg #[.slice As ns cs, .slice Al nl cl, .slice Ae ne ce]] X (GivesB false X) from fun X => by rw [← hm]; exact canMake_any L H As ns cs Al nl cl Ae ne ce X)
  clear hm
  obtain ⟨g, hg⟩ : ∃ g, w.heap.size = g := ⟨_, rfl⟩
  obtain ⟨m1, m2, b0⟩ := sh_m (w := w) (L := L) (H := H) (As := As) (ns := ns) (cs := cs) (Al := Al) (nl := nl) (cl := cl) (Ae := Ae) (ne := ne) (ce := ce) hg
  obtain ⟨w0, hw0⟩ : ∃ w0, (w.alloc (.cells (shA L H) 23)).alloc (.cells (mkA As ns cs Al nl cl Ae ne ce) 26) = w0 := ⟨_, rfl⟩
  rw [hw0] at m1 m2 b0
  obtain ⟨k0, k1, k2, k3, k4⟩ := cells5 m1 m2
  have B0 := Lib.hid b0
  clear m1 m2 b0
  go_enter Tryz.func10, Tryz.ntmps10
  go_upto_region 1 with (fail)
  clear hw0 hg
  go_wp2_with (go_at_call 20; ((with_reducible refine (CM.out _).mono ?_); rintro e w1 ⟨rfl, b1⟩; have B1 := Lib.hid (B0.out.trans (b1.mono B0.out.size)); clear b1))
  go_ret
  exact ⟨rfl, B1.out⟩
set_option maxHeartbeats 4000000 in
theorem pub16_may (sec salt sd : List UInt8) (l k : Nat) (As : Option Addr) (cs : Nat) (Al : Option Addr) (cl : Nat) (Ae : Option Addr) (ce : Nat) (w : World) (hk : GK w) (hs : Rd w As 32 cs sec) (hl : Rd w Al 32 cl salt) (he : Rd w Ae 32 ce sd) (hm : madeX l k 32 32 32 = true) (h0 : 0 < l) (h1 : l < 13) (h2 : k < 21) (h3 : l * k ≤ 60) (h6 : k ≤ 6) :
    Calls Tryz.prog 10 #[.agg (shA l k), .agg (mkA As 32 cs Al 32 cl Ae 32 ce)] w (New w.heap.size w (pubN sec sd l k)) := by
  have hpl := pub_len sec sd l k he.len
  obtain ⟨d, hd⟩ : ∃ d, d = l - 1 := ⟨_, rfl⟩
  have ht : treeN l k d 0 = true := by
    simp only [treeN, Bool.and_eq_true, decide_eq_true_eq]
    exact ⟨by omega, Nat.two_pow_pos _⟩
  have hpn : pubN sec sd l k = [sumT sec sd d 0 k 0, sd].flatten := by rw [pubN, hd]; simp
  have CM := Lib.hid (show ∀ X, Calls Tryz.prog 20 #[.agg #[.int .i64 (l : Int), .int .i64 (k : Int)], .agg #[.slice As 32 cs, .slice Al 32 cl, .slice Ae 32 ce]] X (GivesB true X) from fun X => by rw [← hm]; exact canMake_any l k As 32 cs Al 32 cl Ae 32 ce X)
  have RT := Lib.hid (show ∀ X, Below w.heap.size w X → Calls Tryz.prog 12 #[.agg #[.int .i64 (l : Int), .int .i64 (k : Int)], .agg #[.slice As 32 cs, .slice Al 32 cl, .slice Ae 32 ce], .int .u32 (d : Int), .int .u64 0] X (Gives32 X (sumT sec sd d 0 k 0)) from fun X hX => root16_may sec salt sd l k As cs Al cl Ae ce d 0 X (hk.bel hX) (hs.below hX) (hl.below hX) (he.below hX) hm ht (by omega) (by omega) h1 h2 h3 h6)
  have hx32 := sum_32 sec sd d 0 k 0
  generalize sumT sec sd d 0 k 0 = rr at *
  have HE := Lib.hid he
  have HPL := Lib.hid hpl
  rw [hpn] at HPL ⊢
  have t1 : IntKind.i64.wrap ((l : Int) - 1) = (d : Int) := by rw [IntKind.wrap_i64]; omega
  have t2 : IntKind.u32.wrap (d : Int) = (d : Int) := by rw [IntKind.wrap_u32]; omega
  clear hm ht h0 h1 h2 h3 hk hs hl he h6 hd hpn hpl hx32
  obtain ⟨g, hg⟩ : ∃ g, w.heap.size = g := ⟨_, rfl⟩
  obtain ⟨m1, m2, b0⟩ := sh_m (w := w) (L := l) (H := k) (As := As) (ns := 32) (cs := cs) (Al := Al) (nl := 32) (cl := cl) (Ae := Ae) (ne := 32) (ce := ce) hg
  obtain ⟨w0, hw0⟩ : ∃ w0, (w.alloc (.cells (shA l k) 23)).alloc (.cells (mkA As 32 cs Al 32 cl Ae 32 ce) 26) = w0 := ⟨_, rfl⟩
  rw [hw0] at m1 m2 b0
  obtain ⟨k0, k1, k2, k3, k4⟩ := cells5 m1 m2
  have B0 := Lib.hid b0
  have M0 := Lib.hid m1
  have G0 := Lib.hid m2
  clear m1 m2 b0
  go_enter Tryz.func10, Tryz.ntmps10
  go_upto_region 1 with (fail)
  clear hw0 hg
  go_upto_region 3 with (go_at_call 20; ((with_reducible refine (CM.out _).mono ?_); rintro e w1 ⟨rfl, b1⟩; have B1 := Lib.hid (B0.out.trans (b1.mono B0.out.size)); have M1 := Lib.hid (M0.out.below b1 M0.out.lt); have G1 := Lib.hid (G0.out.below b1 G0.out.lt); clear b1))
  have KS := Lib.hid (show ∀ X, Below w1.heap.size w1 X → X.cell? ⟨g, 0, none⟩ = some (.int .i64 (l : Int)) ∧ X.cell? ⟨g, 1, none⟩ = some (.int .i64 (k : Int)) ∧ X.cell? ⟨g + 1, 0, none⟩ = some (.slice As 32 cs) ∧ X.cell? ⟨g + 1, 1, none⟩ = some (.slice Al 32 cl) ∧ X.cell? ⟨g + 1, 2, none⟩ = some (.slice Ae 32 ce) from fun X hX => cells5 (M1.out.below hX M1.out.lt) (G1.out.below hX G1.out.lt))
  have BD := Lib.hid (Below.refl w1.heap.size w1).drew
  have BW := Lib.hid (show ∀ X, Below w1.heap.size w1 X → Below w.heap.size w X from fun X hX => B1.out.trans (hX.mono B1.out.size))
  clear k0 k1 k2 k3 k4
  (go_region_held3 (fun X => X.cell? ⟨g, 0, none⟩ = some (.int .i64 (l : Int)) ∧ X.cell? ⟨g, 1, none⟩ = some (.int .i64 (k : Int)) ∧ X.cell? ⟨g + 1, 0, none⟩ = some (.slice As 32 cs) ∧ X.cell? ⟨g + 1, 1, none⟩ = some (.slice Al 32 cl) ∧ X.cell? ⟨g + 1, 2, none⟩ = some (.slice Ae 32 ce)) (first
    | exact KS.out _ B4.out
    | exact KS.out _ (B3.out.alloc B3.out.size _)
    | exact KS.out _ B3.out
    | exact KS.out _ BD.out) (first
    | (go_at_call 12; ((with_reducible refine (RT.out _ (BW.out _ BD.out)).mono ?_); rintro e w3 ⟨A3, c3, rfl, r3, b3⟩; have R3 := Lib.hid r3; have B3 := Lib.hid (BD.out.trans (b3.mono BD.out.size)); clear r3 b3))
    | (go_at_call 30; ((refine (cat_any _ 2 2 [rr, sd] _ (RdBs.built2 w3 _ R3.out (HE.out.below (BW.out _ B3.out))) (by rw [HPL.out]; omega)).mono ?_); rintro e w4 ⟨A4, n4, c4, rfl, q4, b4⟩; have O4 := Lib.hid q4; have M4 := Lib.hid b4; have B4 := Lib.hid ((B3.out.alloc B3.out.size (.cells #[.slice A3 32 c3, .slice Ae 32 ce] 24)).trans (b4.mono (B3.out.alloc B3.out.size (.cells #[.slice A3 32 c3, .slice Ae 32 ce] 24)).size)); clear q4 b4))
    | fail))
  go_wp2
  go_ret
  exact New.from (BW.out _ (B3.out.alloc B3.out.size _)) ⟨A4, n4, c4, rfl, O4.out, M4.out⟩
theorem pub16_any (L H : Int) (As : Option Addr) (ns cs : Nat) (sec : List UInt8) (Al : Option Addr) (nl cl : Nat) (salt : List UInt8) (Ae : Option Addr) (ne ce : Nat) (sd : List UInt8) (w : World) (hk : GK w) (hs : Rd w As ns cs sec) (hl : Rd w Al nl cl salt) (he : Rd w Ae ne ce sd) :
    Calls Tryz.prog 10 #[.agg (shA L H), .agg (mkA As ns cs Al nl cl Ae ne ce)] w (GivesR w (pubX L H sec salt sd)) := by
  unfold pubX
  rw [hs.len, hl.len, he.len]
  by_cases h : madeX L H ns nl ne = true
  · obtain ⟨hx, h6, rfl, rfl, rfl⟩ := madeX_iff.1 h
    obtain ⟨l, k, rfl, rfl, h1, h2, h3, h4, h5⟩ := mayX_nat hx
    rw [if_pos h]
    exact (pub16_may sec salt sd l k As cs Al cl Ae ce w hk hs hl he h h1 h2 h4 h5 (by omega)).mono fun _ _ h => gives_new h
  · rw [if_neg h]
    exact (pub16_not L H As ns cs Al nl cl Ae ne ce w (by simpa using h)).mono fun _ _ h => h.gives
end Go.Proofs.YtkpfppiedadmbaaGreatDoor.S16

/-
  The document's own Root and Public of layer 16. No statement is proved here.
-/
namespace Go.Proofs.YtkpfppiedadmbaaGreatDoor.S16
set_option linter.unusedSimpArgs false
set_option linter.unusedVariables false
set_option maxRecDepth 4096
open Go.RowKit S15

set_option maxHeartbeats 4000000 in
theorem rpub_may (sec salt sd : List UInt8) (l k : Nat) (As : Option Addr) (cs : Nat) (Al : Option Addr) (cl : Nat) (Ae : Option Addr) (ce : Nat) (w : World) (hs : Rd w As 32 cs sec) (hl : Rd w Al 32 cl salt) (he : Rd w Ae 32 ce sd) (hm : madeX l k 32 32 32 = true) (h0 : 0 < l) (h1 : l < 13) (h2 : k < 21) (h3 : l * k ≤ 60) (h6 : k ≤ 6) :
    Calls Tryz.prog 11 #[.agg (shA l k), .agg (mkA As 32 cs Al 32 cl Ae 32 ce)] w (New w.heap.size w (pubN sec sd l k)) := by
  have hpl := pub_len sec sd l k he.len
  obtain ⟨d, hd⟩ : ∃ d, d = l - 1 := ⟨_, rfl⟩
  have hpn : pubN sec sd l k = [sumT sec sd d 0 k 0, sd].flatten := by rw [pubN, hd]; simp
  have CM := Lib.hid (show ∀ X, Calls Tryz.prog 31 #[.agg #[.int .i64 (l : Int), .int .i64 (k : Int)], .agg #[.slice As 32 cs, .slice Al 32 cl, .slice Ae 32 ce]] X (GivesB true X) from fun X => by rw [← hm]; exact rmade_any l k As 32 cs Al 32 cl Ae 32 ce X)
  have P6 : 2 ^ k ≤ 64 := Nat.le_trans (Nat.pow_le_pow_right (by omega) h6) (by decide)
  have RT := Lib.hid (show ∀ X, Below w.heap.size w X → Calls Tryz.prog 35 #[.agg #[.slice As 32 cs, .slice Al 32 cl, .slice Ae 32 ce], .int .u32 (d : Int), .int .u64 0, .int .i64 (k : Int), .int .u32 0] X (Gives32 X (sumT sec sd d 0 k 0)) from fun X hX => rsum16_any As cs sec Al cl Ae ce sd d 0 (by omega) (by omega) k 0 X (hs.below hX) (he.below hX) (by omega) (by omega))
  have hx32 := sum_32 sec sd d 0 k 0
  generalize sumT sec sd d 0 k 0 = rr at *
  have HE := Lib.hid he
  have HPL := Lib.hid hpl
  rw [hpn] at HPL ⊢
  have t1 : IntKind.i64.wrap ((l : Int) - 1) = (d : Int) := by rw [IntKind.wrap_i64]; omega
  have t2 : IntKind.u32.wrap (d : Int) = (d : Int) := by rw [IntKind.wrap_u32]; omega
  clear hm h0 h1 h2 h3 hs hl he h6 hd hpn hpl hx32 P6
  obtain ⟨g, hg⟩ : ∃ g, w.heap.size = g := ⟨_, rfl⟩
  obtain ⟨m1, m2, b0⟩ := sh_m (w := w) (L := l) (H := k) (As := As) (ns := 32) (cs := cs) (Al := Al) (nl := 32) (cl := cl) (Ae := Ae) (ne := 32) (ce := ce) hg
  obtain ⟨w0, hw0⟩ : ∃ w0, (w.alloc (.cells (shA l k) 23)).alloc (.cells (mkA As 32 cs Al 32 cl Ae 32 ce) 26) = w0 := ⟨_, rfl⟩
  rw [hw0] at m1 m2 b0
  obtain ⟨k0, k1, k2, k3, k4⟩ := cells5 m1 m2
  have B0 := Lib.hid b0
  have M0 := Lib.hid m1
  have G0 := Lib.hid m2
  clear m1 m2 b0
  go_enter Tryz.func11, Tryz.ntmps11
  go_upto_region 1 with (fail)
  clear hw0 hg
  go_upto_region 3 with (go_at_call 31; ((with_reducible refine (CM.out _).mono ?_); rintro e w1 ⟨rfl, b1⟩; have B1 := Lib.hid (B0.out.trans (b1.mono B0.out.size)); have M1 := Lib.hid (M0.out.below b1 M0.out.lt); have G1 := Lib.hid (G0.out.below b1 G0.out.lt); clear b1))
  have KS := Lib.hid (show ∀ X, Below w1.heap.size w1 X → X.cell? ⟨g, 0, none⟩ = some (.int .i64 (l : Int)) ∧ X.cell? ⟨g, 1, none⟩ = some (.int .i64 (k : Int)) ∧ X.cell? ⟨g + 1, 0, none⟩ = some (.slice As 32 cs) ∧ X.cell? ⟨g + 1, 1, none⟩ = some (.slice Al 32 cl) ∧ X.cell? ⟨g + 1, 2, none⟩ = some (.slice Ae 32 ce) from fun X hX => cells5 (M1.out.below hX M1.out.lt) (G1.out.below hX G1.out.lt))
  have BD := Lib.hid (Below.refl w1.heap.size w1).drew
  have BW := Lib.hid (show ∀ X, Below w1.heap.size w1 X → Below w.heap.size w X from fun X hX => B1.out.trans (hX.mono B1.out.size))
  clear k0 k1 k2 k3 k4
  (go_region_held3 (fun X => X.cell? ⟨g, 0, none⟩ = some (.int .i64 (l : Int)) ∧ X.cell? ⟨g, 1, none⟩ = some (.int .i64 (k : Int)) ∧ X.cell? ⟨g + 1, 0, none⟩ = some (.slice As 32 cs) ∧ X.cell? ⟨g + 1, 1, none⟩ = some (.slice Al 32 cl) ∧ X.cell? ⟨g + 1, 2, none⟩ = some (.slice Ae 32 ce)) (first
    | exact KS.out _ B4.out
    | exact KS.out _ (B3.out.alloc B3.out.size _)
    | exact KS.out _ B3.out
    | exact KS.out _ BD.out) (first
    | (go_at_call 35; ((with_reducible refine (RT.out _ (BW.out _ BD.out)).mono ?_); rintro e w3 ⟨A3, c3, rfl, r3, b3⟩; have R3 := Lib.hid r3; have B3 := Lib.hid (BD.out.trans (b3.mono BD.out.size)); clear r3 b3))
    | (go_at_call 37; ((refine (rcat_any _ 2 2 [rr, sd] _ (RdBs.built2 w3 _ R3.out (HE.out.below (BW.out _ B3.out))) (by rw [HPL.out]; omega)).mono ?_); rintro e w4 ⟨A4, n4, c4, rfl, q4, b4⟩; have O4 := Lib.hid q4; have M4 := Lib.hid b4; have B4 := Lib.hid ((B3.out.alloc B3.out.size (.cells #[.slice A3 32 c3, .slice Ae 32 ce] 24)).trans (b4.mono (B3.out.alloc B3.out.size (.cells #[.slice A3 32 c3, .slice Ae 32 ce] 24)).size)); clear q4 b4))
    | fail))
  go_wp2
  go_ret
  exact New.from (BW.out _ (B3.out.alloc B3.out.size _)) ⟨A4, n4, c4, rfl, O4.out, M4.out⟩

set_option maxHeartbeats 1000000 in
theorem rpub_not (L H : Int) (As : Option Addr) (ns cs : Nat) (Al : Option Addr) (nl cl : Nat) (Ae : Option Addr) (ne ce : Nat) (w : World) (hm : madeX L H ns nl ne = false) :
    Calls Tryz.prog 11 #[.agg (shA L H), .agg (mkA As ns cs Al nl cl Ae ne ce)] w (GivesNil w) := by
  have CM := Lib.hid (show ∀ X, Calls Tryz.prog 31 #[.agg #[.int .i64 L, .int .i64 H], .agg #[.slice As ns cs, .slice Al nl cl, .slice Ae ne ce]] X (GivesB false X) from fun X => by rw [← hm]; exact rmade_any L H As ns cs Al nl cl Ae ne ce X)
  clear hm
  obtain ⟨g, hg⟩ : ∃ g, w.heap.size = g := ⟨_, rfl⟩
  obtain ⟨m1, m2, b0⟩ := sh_m (w := w) (L := L) (H := H) (As := As) (ns := ns) (cs := cs) (Al := Al) (nl := nl) (cl := cl) (Ae := Ae) (ne := ne) (ce := ce) hg
  obtain ⟨w0, hw0⟩ : ∃ w0, (w.alloc (.cells (shA L H) 23)).alloc (.cells (mkA As ns cs Al nl cl Ae ne ce) 26) = w0 := ⟨_, rfl⟩
  rw [hw0] at m1 m2 b0
  obtain ⟨k0, k1, k2, k3, k4⟩ := cells5 m1 m2
  have B0 := Lib.hid b0
  clear m1 m2 b0
  go_enter Tryz.func11, Tryz.ntmps11
  go_upto_region 1 with (fail)
  clear hw0 hg
  go_wp2_with (go_at_call 31; ((with_reducible refine (CM.out _).mono ?_); rintro e w1 ⟨rfl, b1⟩; have B1 := Lib.hid (B0.out.trans (b1.mono B0.out.size)); clear b1))
  go_ret
  exact ⟨rfl, B1.out⟩

theorem rpub_any (L H : Int) (As : Option Addr) (ns cs : Nat) (sec : List UInt8) (Al : Option Addr) (nl cl : Nat) (salt : List UInt8) (Ae : Option Addr) (ne ce : Nat) (sd : List UInt8) (w : World) (hs : Rd w As ns cs sec) (hl : Rd w Al nl cl salt) (he : Rd w Ae ne ce sd) :
    Calls Tryz.prog 11 #[.agg (shA L H), .agg (mkA As ns cs Al nl cl Ae ne ce)] w (GivesR w (pubX L H sec salt sd)) := by
  unfold pubX
  rw [hs.len, hl.len, he.len]
  by_cases h : madeX L H ns nl ne = true
  · obtain ⟨hx, h6, rfl, rfl, rfl⟩ := madeX_iff.1 h
    obtain ⟨l, k, rfl, rfl, h1, h2, h3, h4, h5⟩ := mayX_nat hx
    rw [if_pos h]
    exact (rpub_may sec salt sd l k As cs Al cl Ae ce w hs hl he h h1 h2 h4 h5 (by omega)).mono fun _ _ h => gives_new h
  · rw [if_neg h]
    exact (rpub_not L H As ns cs Al nl cl Ae ne ce w (by simpa using h)).mono fun _ _ h => h.gives

set_option maxHeartbeats 1000000 in
theorem rroot_not (L H : Int) (As : Option Addr) (ns cs : Nat) (Al : Option Addr) (nl cl : Nat) (Ae : Option Addr) (ne ce : Nat) (ly tr : Nat) (w : World) (hm : madeX L H ns nl ne = false) :
    Calls Tryz.prog 13 #[.agg (shA L H), .agg (mkA As ns cs Al nl cl Ae ne ce), .int .u32 (ly : Int), .int .u64 (tr : Int)] w (GivesNil w) := by
  have CM := Lib.hid (show ∀ X, Calls Tryz.prog 31 #[.agg #[.int .i64 L, .int .i64 H], .agg #[.slice As ns cs, .slice Al nl cl, .slice Ae ne ce]] X (GivesB false X) from fun X => by rw [← hm]; exact rmade_any L H As ns cs Al nl cl Ae ne ce X)
  clear hm
  obtain ⟨g, hg⟩ : ∃ g, w.heap.size = g := ⟨_, rfl⟩
  obtain ⟨m1, m2, b0⟩ := sh_m (w := w) (L := L) (H := H) (As := As) (ns := ns) (cs := cs) (Al := Al) (nl := nl) (cl := cl) (Ae := Ae) (ne := ne) (ce := ce) hg
  obtain ⟨w0, hw0⟩ : ∃ w0, (w.alloc (.cells (shA L H) 23)).alloc (.cells (mkA As ns cs Al nl cl Ae ne ce) 26) = w0 := ⟨_, rfl⟩
  rw [hw0] at m1 m2 b0
  obtain ⟨k0, k1, k2, k3, k4⟩ := cells5 m1 m2
  have B0 := Lib.hid b0
  clear m1 m2 b0
  go_enter Tryz.func13, Tryz.ntmps13
  go_upto_region 1 with (fail)
  clear hw0 hg
  go_wp2_with (go_at_call 31; ((with_reducible refine (CM.out _).mono ?_); rintro e w1 ⟨rfl, b1⟩; have B1 := Lib.hid (B0.out.trans (b1.mono B0.out.size)); clear b1))
  go_ret
  exact ⟨rfl, B1.out⟩

set_option maxHeartbeats 1000000 in
theorem rroot_off (l k : Nat) (As : Option Addr) (cs : Nat) (Al : Option Addr) (cl : Nat) (Ae : Option Addr) (ce : Nat) (ly tr : Nat) (w : World) (hm : madeX l k 32 32 32 = true) (hly : ly < 4294967296) (h1 : l < 13) (hc : ¬ ly < l) :
    Calls Tryz.prog 13 #[.agg (shA l k), .agg (mkA As 32 cs Al 32 cl Ae 32 ce), .int .u32 (ly : Int), .int .u64 (tr : Int)] w (GivesNil w) := by
  have CM := Lib.hid (show ∀ X, Calls Tryz.prog 31 #[.agg #[.int .i64 (l : Int), .int .i64 (k : Int)], .agg #[.slice As 32 cs, .slice Al 32 cl, .slice Ae 32 ce]] X (GivesB true X) from fun X => by rw [← hm]; exact rmade_any l k As 32 cs Al 32 cl Ae 32 ce X)
  have q1 : IntKind.u64.wrap (ly : Int) = (ly : Int) := by rw [IntKind.wrap_u64]; omega
  have q2 : IntKind.u64.wrap (l : Int) = (l : Int) := by rw [IntKind.wrap_u64]; omega
  have q3 : IntKind.i64.wrap (ly : Int) = (ly : Int) := by rw [IntKind.wrap_i64]; omega
  have t0 : (l : Int) ≤ (ly : Int) := by omega
  clear hm hly h1 hc
  obtain ⟨g, hg⟩ : ∃ g, w.heap.size = g := ⟨_, rfl⟩
  obtain ⟨m1, m2, b0⟩ := sh_m (w := w) (L := l) (H := k) (As := As) (ns := 32) (cs := cs) (Al := Al) (nl := 32) (cl := cl) (Ae := Ae) (ne := 32) (ce := ce) hg
  obtain ⟨w0, hw0⟩ : ∃ w0, (w.alloc (.cells (shA l k) 23)).alloc (.cells (mkA As 32 cs Al 32 cl Ae 32 ce) 26) = w0 := ⟨_, rfl⟩
  rw [hw0] at m1 m2 b0
  obtain ⟨k0, k1, k2, k3, k4⟩ := cells5 m1 m2
  have B0 := Lib.hid b0
  have M0 := Lib.hid m1
  have G0 := Lib.hid m2
  clear m1 m2 b0
  go_enter Tryz.func13, Tryz.ntmps13
  go_upto_region 1 with (fail)
  clear hw0 hg
  go_wp2_with ((go_at_call 31; ((with_reducible refine (CM.out _).mono ?_); rintro e w1 ⟨rfl, b1⟩; have B1 := Lib.hid (B0.out.trans (b1.mono B0.out.size)); obtain ⟨j0, j1, j2, j3, j4⟩ := cells5 (M0.out.below b1 M0.out.lt) (G0.out.below b1 G0.out.lt); clear b1)))
  go_ret
  exact ⟨rfl, B1.out⟩
set_option maxHeartbeats 1000000 in
theorem rroot_no (l k : Nat) (As : Option Addr) (cs : Nat) (Al : Option Addr) (cl : Nat) (Ae : Option Addr) (ce : Nat) (ly tr : Nat) (w : World) (hm : madeX l k 32 32 32 = true) (hly : ly < 4294967296) (h1 : l < 13) (h2 : k < 21) (h3 : l * k ≤ 60) (hc : ly < l) (ht : ¬ tr < 2 ^ (k * (l - 1 - ly))) :
    Calls Tryz.prog 13 #[.agg (shA l k), .agg (mkA As 32 cs Al 32 cl Ae 32 ce), .int .u32 (ly : Int), .int .u64 (tr : Int)] w (GivesNil w) := by
  have CM := Lib.hid (show ∀ X, Calls Tryz.prog 31 #[.agg #[.int .i64 (l : Int), .int .i64 (k : Int)], .agg #[.slice As 32 cs, .slice Al 32 cl, .slice Ae 32 ce]] X (GivesB true X) from fun X => by rw [← hm]; exact rmade_any l k As 32 cs Al 32 cl Ae 32 ce X)
  have q1 : IntKind.u64.wrap (ly : Int) = (ly : Int) := by rw [IntKind.wrap_u64]; omega
  have q2 : IntKind.u64.wrap (l : Int) = (l : Int) := by rw [IntKind.wrap_u64]; omega
  have q3 : IntKind.i64.wrap (ly : Int) = (ly : Int) := by rw [IntKind.wrap_i64]; omega
  obtain ⟨m, hmm⟩ : ∃ m, m = l - 1 - ly := ⟨_, rfl⟩
  obtain ⟨p, hp⟩ : ∃ p, p = k * m := ⟨_, rfl⟩
  have hpl : p ≤ 60 := by
    have : m * k ≤ l * k := Nat.mul_le_mul_right k (by omega)
    rw [hp, Nat.mul_comm]
    omega
  have t1 : wrap64 ((l : Int) - 1) = (l : Int) - 1 := by unfold wrap64; omega
  have t4 : wrap64 ((l : Int) - 1 - (ly : Int)) = (m : Int) := by unfold wrap64; omega
  have t2 : wrap64 ((k : Int) * (m : Int)) = (p : Int) := by
    have e1 : (k : Int) * (m : Int) = (p : Int) := by rw [hp]; simp
    rw [e1]
    unfold wrap64
    omega
  have PW := Lib.hid (show ∀ X, Calls Tryz.prog 39 #[.int .i64 (p : Int)] X (fun e w' => e = .returned (.int .u64 ((2 ^ p : Nat) : Int)) ∧ X = w') from fun X => rpow_any p hpl X)
  have t0 : ¬ (l : Int) ≤ (ly : Int) := by omega
  have t3 : ((2 ^ p : Nat) : Int) ≤ (tr : Int) := by
    rw [← hmm, ← hp] at ht
    exact Int.ofNat_le.2 (by omega)
  generalize 2 ^ p = P at *
  clear hm hly h1 hc ht hp hmm h3 hpl
  obtain ⟨g, hg⟩ : ∃ g, w.heap.size = g := ⟨_, rfl⟩
  obtain ⟨m1, m2, b0⟩ := sh_m (w := w) (L := l) (H := k) (As := As) (ns := 32) (cs := cs) (Al := Al) (nl := 32) (cl := cl) (Ae := Ae) (ne := 32) (ce := ce) hg
  obtain ⟨w0, hw0⟩ : ∃ w0, (w.alloc (.cells (shA l k) 23)).alloc (.cells (mkA As 32 cs Al 32 cl Ae 32 ce) 26) = w0 := ⟨_, rfl⟩
  rw [hw0] at m1 m2 b0
  obtain ⟨k0, k1, k2, k3, k4⟩ := cells5 m1 m2
  have B0 := Lib.hid b0
  have M0 := Lib.hid m1
  have G0 := Lib.hid m2
  clear m1 m2 b0
  go_enter Tryz.func13, Tryz.ntmps13
  go_upto_region 1 with (fail)
  clear hw0 hg
  go_wp2_with (first
    | (go_at_call 31; ((with_reducible refine (CM.out _).mono ?_); rintro e w1 ⟨rfl, b1⟩; have B1 := Lib.hid (B0.out.trans (b1.mono B0.out.size)); obtain ⟨j0, j1, j2, j3, j4⟩ := cells5 (M0.out.below b1 M0.out.lt) (G0.out.below b1 G0.out.lt); clear b1))
    | (go_at_call 39; go_loud ((with_reducible refine (PW.out _).mono ?_); rintro e w2 ⟨rfl, rfl⟩)))
  go_ret
  exact ⟨rfl, B1.out⟩
set_option maxHeartbeats 1000000 in
theorem rroot_may (sec sd : List UInt8) (l k : Nat) (As : Option Addr) (cs : Nat) (Al : Option Addr) (cl : Nat) (Ae : Option Addr) (ce : Nat) (ly tr : Nat) (w : World) (hm : madeX l k 32 32 32 = true) (hs : Rd w As 32 cs sec) (he : Rd w Ae 32 ce sd) (hly : ly < 4294967296) (htr : tr < 18446744073709551616) (h1 : l < 13) (h2 : k < 21) (h3 : l * k ≤ 60) (h6 : k ≤ 6) (hc : ly < l) (ht : tr < 2 ^ (k * (l - 1 - ly))) :
    Calls Tryz.prog 13 #[.agg (shA l k), .agg (mkA As 32 cs Al 32 cl Ae 32 ce), .int .u32 (ly : Int), .int .u64 (tr : Int)] w (Gives32 w (sumT sec sd ly tr k 0)) := by
  have CM := Lib.hid (show ∀ X, Calls Tryz.prog 31 #[.agg #[.int .i64 (l : Int), .int .i64 (k : Int)], .agg #[.slice As 32 cs, .slice Al 32 cl, .slice Ae 32 ce]] X (GivesB true X) from fun X => by rw [← hm]; exact rmade_any l k As 32 cs Al 32 cl Ae 32 ce X)
  have q1 : IntKind.u64.wrap (ly : Int) = (ly : Int) := by rw [IntKind.wrap_u64]; omega
  have q2 : IntKind.u64.wrap (l : Int) = (l : Int) := by rw [IntKind.wrap_u64]; omega
  have q3 : IntKind.i64.wrap (ly : Int) = (ly : Int) := by rw [IntKind.wrap_i64]; omega
  obtain ⟨m, hmm⟩ : ∃ m, m = l - 1 - ly := ⟨_, rfl⟩
  obtain ⟨p, hp⟩ : ∃ p, p = k * m := ⟨_, rfl⟩
  have hpl : p ≤ 60 := by
    have : m * k ≤ l * k := Nat.mul_le_mul_right k (by omega)
    rw [hp, Nat.mul_comm]
    omega
  have t1 : wrap64 ((l : Int) - 1) = (l : Int) - 1 := by unfold wrap64; omega
  have t4 : wrap64 ((l : Int) - 1 - (ly : Int)) = (m : Int) := by unfold wrap64; omega
  have t2 : wrap64 ((k : Int) * (m : Int)) = (p : Int) := by
    have e1 : (k : Int) * (m : Int) = (p : Int) := by rw [hp]; simp
    rw [e1]
    unfold wrap64
    omega
  have PW := Lib.hid (show ∀ X, Calls Tryz.prog 39 #[.int .i64 (p : Int)] X (fun e w' => e = .returned (.int .u64 ((2 ^ p : Nat) : Int)) ∧ X = w') from fun X => rpow_any p hpl X)
  have t0 : ¬ (l : Int) ≤ (ly : Int) := by omega
  have t3 : ¬ ((2 ^ p : Nat) : Int) ≤ (tr : Int) := by
    rw [← hmm, ← hp] at ht
    exact fun h => absurd (Int.ofNat_le.1 h) (by omega)
  have P6 : 2 ^ k ≤ 64 := Nat.le_trans (Nat.pow_le_pow_right (by omega) h6) (by decide)
  have RT := Lib.hid (show ∀ X, Below w.heap.size w X → Calls Tryz.prog 35 #[.agg #[.slice As 32 cs, .slice Al 32 cl, .slice Ae 32 ce], .int .u32 (ly : Int), .int .u64 (tr : Int), .int .i64 (k : Int), .int .u32 0] X (Gives32 X (sumT sec sd ly tr k 0)) from fun X hX => rsum16_any As cs sec Al cl Ae ce sd ly tr hly htr k 0 X (hs.below hX) (he.below hX) (by omega) (by omega))
  generalize sumT sec sd ly tr k 0 = Z at *
  generalize 2 ^ p = P at *
  clear hm hly h1 hc ht hp hmm h3 hpl P6 hs he htr
  obtain ⟨g, hg⟩ : ∃ g, w.heap.size = g := ⟨_, rfl⟩
  obtain ⟨m1, m2, b0⟩ := sh_m (w := w) (L := l) (H := k) (As := As) (ns := 32) (cs := cs) (Al := Al) (nl := 32) (cl := cl) (Ae := Ae) (ne := 32) (ce := ce) hg
  obtain ⟨w0, hw0⟩ : ∃ w0, (w.alloc (.cells (shA l k) 23)).alloc (.cells (mkA As 32 cs Al 32 cl Ae 32 ce) 26) = w0 := ⟨_, rfl⟩
  rw [hw0] at m1 m2 b0
  obtain ⟨k0, k1, k2, k3, k4⟩ := cells5 m1 m2
  have B0 := Lib.hid b0
  have M0 := Lib.hid m1
  have G0 := Lib.hid m2
  clear m1 m2 b0
  go_enter Tryz.func13, Tryz.ntmps13
  go_upto_region 1 with (fail)
  clear hw0 hg
  go_wp2_with (first
    | (go_at_call 31; ((with_reducible refine (CM.out _).mono ?_); rintro e w1 ⟨rfl, b1⟩; have B1 := Lib.hid (B0.out.trans (b1.mono B0.out.size)); obtain ⟨j0, j1, j2, j3, j4⟩ := cells5 (M0.out.below b1 M0.out.lt) (G0.out.below b1 G0.out.lt); clear b1))
    | (go_at_call 39; go_loud ((with_reducible refine (PW.out _).mono ?_); rintro e w2 ⟨rfl, rfl⟩))
    | (go_at_call 35; ((with_reducible refine (RT.out _ B1.out).mono ?_); rintro e w3 ⟨A3, c3, rfl, r3, b3⟩; have R3 := Lib.hid r3; have B3 := Lib.hid (B1.out.trans (b3.mono B1.out.size)); clear r3 b3)))
  go_ret
  exact ⟨A3, c3, rfl, R3.out, B3.out⟩
theorem rroot_any (L H : Int) (As : Option Addr) (ns cs : Nat) (sec : List UInt8) (Al : Option Addr) (nl cl : Nat) (salt : List UInt8) (Ae : Option Addr) (ne ce : Nat) (sd : List UInt8) (ly tr : Nat) (w : World) (hs : Rd w As ns cs sec) (hl : Rd w Al nl cl salt) (he : Rd w Ae ne ce sd) (hly : ly < 4294967296) (htr : tr < 18446744073709551616) :
    Calls Tryz.prog 13 #[.agg (shA L H), .agg (mkA As ns cs Al nl cl Ae ne ce), .int .u32 (ly : Int), .int .u64 (tr : Int)] w (GivesR w (rootX L H sec salt sd ly tr)) := by
  unfold rootX
  rw [hs.len, hl.len, he.len]
  by_cases h : madeX L H ns nl ne = true
  · obtain ⟨hx, h6, rfl, rfl, rfl⟩ := madeX_iff.1 h
    obtain ⟨l, k, rfl, rfl, h1, h2, h3, h4, h5⟩ := mayX_nat hx
    by_cases hc : ly < l
    · by_cases ht : tr < 2 ^ (k * (l - 1 - ly))
      · rw [if_pos ⟨h, by omega, ht⟩]
        exact (rroot_may sec sd l k As cs Al cl Ae ce ly tr w h hs he hly htr h2 h4 h5 (by omega) hc ht).mono fun _ _ h => h.gives
      · rw [if_neg fun c => ht c.2.2]
        exact (rroot_no l k As cs Al cl Ae ce ly tr w h hly h2 h4 h5 hc ht).mono fun _ _ h => h.gives
    · rw [if_neg fun c => hc (by have := c.2.1; omega)]
      exact (rroot_off l k As cs Al cl Ae ce ly tr w h hly h2 hc).mono fun _ _ h => h.gives
  · rw [if_neg fun c => h c.1]
    exact (rroot_not L H As ns cs Al nl cl Ae ne ce ly tr w (by simpa using h)).mono fun _ _ h => h.gives
end Go.Proofs.YtkpfppiedadmbaaGreatDoor.S16
