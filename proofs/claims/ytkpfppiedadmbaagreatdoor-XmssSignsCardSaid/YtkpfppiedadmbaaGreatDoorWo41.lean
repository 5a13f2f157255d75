/-
  Texts put together: YfM. No statement is proved here.
-/
import Derived.Test.YtkpfppiedadmbaaGreatDoorWo39
import Derived.Test.YtkpfppiedadmbaaGreatDoorWo38
import Derived.Test.YtkpfppiedadmbaaGreatDoorWo40

/-
  The walk of layer 16's second statement. No statement is proved here. (Written by genyl2.py.)
-/
namespace Go.Proofs.YtkpfppiedadmbaaGreatDoor.S16
set_option linter.unusedSimpArgs false
set_option linter.unusedVariables false
set_option maxRecDepth 4096
open Go.RowKit S15

theorem rsign16_any (L H : Int) (As : Option Addr) (ns cs : Nat) (sec : List UInt8) (Al : Option Addr) (nl cl : Nat) (salt : List UInt8) (Ae : Option Addr) (ne ce : Nat) (sd : List UInt8) (n : Nat) (At : Option Addr) (nt ct : Nat) (text : List UInt8) (w : World) (hs : Rd w As ns cs sec) (hl : Rd w Al nl cl salt) (he : Rd w Ae ne ce sd) (ht : Rd w At nt ct text) :
    Calls Tryz.prog 8 #[.agg (shA L H), .agg (mkA As ns cs Al nl cl Ae ne ce), .int .u64 (n : Int), .slice At nt ct] w (GivesS w (sigX L H sec salt sd n text) (codeX L H sec salt sd n text)) := by
  unfold sigX codeX
  rw [hs.len, hl.len, he.len, ht.len]
  by_cases h : madeX L H ns nl ne = true
  · by_cases h9 : nt ≤ 65536
    · obtain ⟨hx, h6, rfl, rfl, rfl⟩ := madeX_iff.1 h
      obtain ⟨l, k, rfl, rfl, h1, h2, h3, h4, h5⟩ := mayX_nat hx
      by_cases hn : n < totN l k
      · rw [if_pos ⟨h, h9, hn⟩, if_pos ⟨h, h9⟩, if_pos (show n < totN ((l : Int)).toNat ((k : Int)).toNat from hn)]
        exact rsign_may16 sec salt sd l k As cs Al cl Ae ce n At nt ct text w hs hl he ht h h1 h2 h3 h4 h5 (by omega) h9 hn
      · rw [if_neg fun c => hn c.2.2, if_pos ⟨h, h9⟩, if_neg (show ¬ n < totN ((l : Int)).toNat ((k : Int)).toNat from hn)]
        exact rsign_out16 l k As cs Al cl Ae ce n At nt ct w h h9 (by omega)
    · rw [if_neg fun c => h9 c.2.1, if_neg fun c => h9 c.2]
      exact rsign_arg16 L H As ns cs Al nl cl Ae ne ce n At nt ct w (.inr (by omega))
  · rw [if_neg fun c => h c.1, if_neg fun c => h c.1]
    exact rsign_arg16 L H As ns cs Al nl cl Ae ne ce n At nt ct w (.inl (by simpa using h))

theorem codeX_le (L H : Int) (sec salt sd : List UInt8) (n : Nat) (text : List UInt8) : codeX L H sec salt sd n text ≤ 9 := by
  unfold codeX
  split
  · split <;> omega
  · omega
theorem cells7S {X : World} {g : Nat} {L H : Int} {As Al Ae At : Option Addr} {ns cs nl cl ne ce n nt ct : Nat} (h : Bk X g 23 (shA L H)) (h' : Bk X (g + 1) 26 (mkA As ns cs Al nl cl Ae ne ce)) (h'' : Bk X (g + 2) 29 #[.int .u64 (n : Int), .slice At nt ct]) :
    X.cell? ⟨g, 0, none⟩ = some (.int .i64 L) ∧ X.cell? ⟨g, 1, none⟩ = some (.int .i64 H) ∧ X.cell? ⟨g + 1, 0, none⟩ = some (.slice As ns cs) ∧ X.cell? ⟨g + 1, 1, none⟩ = some (.slice Al nl cl) ∧ X.cell? ⟨g + 1, 2, none⟩ = some (.slice Ae ne ce) ∧ X.cell? ⟨g + 2, 0, none⟩ = some (.int .u64 (n : Int)) ∧ X.cell? ⟨g + 2, 1, none⟩ = some (.slice At nt ct) := ⟨h.cell 0, h.cell 1, h'.cell 0, h'.cell 1, h'.cell 2, h''.cell 0, h''.cell 1⟩
set_option maxHeartbeats 8000000 in
theorem xmssSigns_walk (M : XC) (w : World) (hk : M.ok w) (L H : Int) (As : Option Addr) (ns cs : Nat) (sec : List UInt8) (hs : Rd w As ns cs sec) (Al : Option Addr) (nl cl : Nat) (salt : List UInt8) (hl : Rd w Al nl cl salt) (Ae : Option Addr) (ne ce : Nat) (sd : List UInt8) (he : Rd w Ae ne ce sd) (n : Nat) (hn : n < 18446744073709551616) (At : Option Addr) (nt ct : Nat) (text : List UInt8) (ht : Rd w At nt ct text) :
    Calls Tryz.prog 3 #[.agg (shA L H), .agg (mkA As ns cs Al nl cl Ae ne ce), .agg #[.int .u64 (n : Int), .slice At nt ct]] w (GivesB true w) := by
  have HK := Lib.hid hk
  obtain ⟨SG, hSG⟩ : ∃ SG, SG = sigX L H sec salt sd n text := ⟨_, rfl⟩
  obtain ⟨cd, hcd⟩ : ∃ cd, cd = codeX L H sec salt sd n text := ⟨_, rfl⟩
  obtain ⟨PB, hPB⟩ : ∃ PB, PB = pubX L H sec salt sd := ⟨_, rfl⟩
  obtain ⟨ly, hly⟩ : ∃ ly, ly = n % 3 := ⟨_, rfl⟩
  obtain ⟨tr, htr⟩ : ∃ tr, tr = n / 4 := ⟨_, rfl⟩
  obtain ⟨RT, hRT⟩ : ∃ RT, RT = rootX L H sec salt sd ly tr := ⟨_, rfl⟩
  have CS1 := Lib.hid (show ∀ X, Below w.heap.size w X → Calls Tryz.prog 7 #[.agg #[.int .i64 L, .int .i64 H], .agg #[.slice As ns cs, .slice Al nl cl, .slice Ae ne ce], .int .u64 (n : Int), .slice At nt ct] X (GivesS X SG cd) from fun X h => by rw [hSG, hcd]; exact M.sign L H As ns cs sec Al nl cl salt Ae ne ce sd n At nt ct text X (M.bel HK.out h) (hs.below h) (hl.below h) (he.below h) hn (ht.below h))
  have CS2 := Lib.hid (show ∀ X, Below w.heap.size w X → Calls Tryz.prog 8 #[.agg #[.int .i64 L, .int .i64 H], .agg #[.slice As ns cs, .slice Al nl cl, .slice Ae ne ce], .int .u64 (n : Int), .slice At nt ct] X (GivesS X SG cd) from fun X h => by rw [hSG, hcd]; exact rsign16_any L H As ns cs sec Al nl cl salt Ae ne ce sd n At nt ct text X (hs.below h) (hl.below h) (he.below h) (ht.below h))
  have CP1 := Lib.hid (show ∀ X, Below w.heap.size w X → Calls Tryz.prog 10 #[.agg #[.int .i64 L, .int .i64 H], .agg #[.slice As ns cs, .slice Al nl cl, .slice Ae ne ce]] X (GivesR X PB) from fun X h => by rw [hPB]; exact M.pub L H As ns cs sec Al nl cl salt Ae ne ce sd X (M.bel HK.out h) (hs.below h) (hl.below h) (he.below h))
  have CP2 := Lib.hid (show ∀ X, Below w.heap.size w X → Calls Tryz.prog 11 #[.agg #[.int .i64 L, .int .i64 H], .agg #[.slice As ns cs, .slice Al nl cl, .slice Ae ne ce]] X (GivesR X PB) from fun X h => by rw [hPB]; exact rpub_any L H As ns cs sec Al nl cl salt Ae ne ce sd X (hs.below h) (hl.below h) (he.below h))
  have CR1 := Lib.hid (show ∀ X, Below w.heap.size w X → Calls Tryz.prog 12 #[.agg #[.int .i64 L, .int .i64 H], .agg #[.slice As ns cs, .slice Al nl cl, .slice Ae ne ce], .int .u32 (ly : Int), .int .u64 (tr : Int)] X (GivesR X RT) from fun X h => by rw [hRT]; exact M.root L H As ns cs sec Al nl cl salt Ae ne ce sd ly tr X (M.bel HK.out h) (hs.below h) (hl.below h) (he.below h) (by omega) (by omega))
  have CR2 := Lib.hid (show ∀ X, Below w.heap.size w X → Calls Tryz.prog 13 #[.agg #[.int .i64 L, .int .i64 H], .agg #[.slice As ns cs, .slice Al nl cl, .slice Ae ne ce], .int .u32 (ly : Int), .int .u64 (tr : Int)] X (GivesR X RT) from fun X h => by rw [hRT]; exact rroot_any L H As ns cs sec Al nl cl salt Ae ne ce sd ly tr X (hs.below h) (hl.below h) (he.below h) (by omega) (by omega))
  have LI := Lib.hid (show ∀ X, Calls Tryz.prog 6 #[.agg #[.int .i64 L, .int .i64 H]] X (GivesB (lightX L H) X) from fun X => rlight_any L H X)
  have z1 : ((cd : Int) == (cd : Int)) = true := by simp
  have f1 : (n : Int) % 3 = (ly : Int) := by omega
  have f2 : (ly : Int) % 4294967296 = (ly : Int) := by omega
  have f3 : (n : Int) / 4 = (tr : Int) := by omega
  have f4 : IntKind.u64.wrap (tr : Int) = (tr : Int) := by rw [IntKind.wrap_u64]; omega
  have f5 : IntKind.u32.wrap (ly : Int) = (ly : Int) := by rw [IntKind.wrap_u32]; omega
  clear hSG hcd hPB hRT hly htr hk hs hl he ht hn
  obtain ⟨g, hgg⟩ : ∃ g, w.heap.size = g := ⟨_, rfl⟩
  obtain ⟨w0, hw0⟩ : ∃ w0, ((w.alloc (.cells (shA L H) 23)).alloc (.cells (mkA As ns cs Al nl cl Ae ne ce) 26)).alloc (.cells #[.int .u64 (n : Int), .slice At nt ct] 29) = w0 := ⟨_, rfl⟩
  have M0 := Lib.hid (show Bk w0 g 23 (shA L H) by rw [← hw0, ← hgg]; exact ((Bk.new _ _ _).alloc _).alloc _)
  have G0 := Lib.hid (show Bk w0 (g + 1) 26 (mkA As ns cs Al nl cl Ae ne ce) by rw [← hw0, ← hgg]; exact (Bk.newAt _ _ _ _ (by simp)).alloc _)
  have T0 := Lib.hid (show Bk w0 (g + 2) 29 #[.int .u64 (n : Int), .slice At nt ct] by rw [← hw0, ← hgg]; exact Bk.newAt _ _ _ _ (by simp))
  have B0 := Lib.hid (show Below w.heap.size w w0 by rw [← hw0]; exact (((Below.refl _ _).alloc (Nat.le_refl _) _).alloc (by simp) _).alloc (by simp; omega) _)
  by_cases d0 : lightX L H = true
  case neg =>
    have d0 : lightX L H = false := by simpa using d0
    rw [d0] at LI
    clear d0
    go_enter Tryz.func3, Tryz.ntmps3
    go_upto_region 1 with (fail)
    clear hw0 hgg
    go_wp2_with (first
      | (go_at_call 5; ((with_reducible refine (awake16 M _ (M.bel HK.out B0.out)).mono ?_); rintro e w1 ⟨rfl, b1⟩; have B1 := Lib.hid (B0.out.trans (b1.mono B0.out.size)); have M1 := Lib.hid (M0.out.below b1 M0.out.lt); have G1 := Lib.hid (G0.out.below b1 G0.out.lt); have T1 := Lib.hid (T0.out.below b1 T0.out.lt); obtain ⟨k0, k1, k2, k3, k4, k5, k6⟩ := cells7S M1.out G1.out T1.out; clear b1))
      | (go_at_call 6; ((with_reducible refine (LI.out _).mono ?_); rintro e w2 ⟨rfl, b2⟩; have B2 := Lib.hid (B1.out.trans (b2.mono B1.out.size)); have M2 := Lib.hid (M1.out.below b2 M1.out.lt); have G2 := Lib.hid (G1.out.below b2 G1.out.lt); have T2 := Lib.hid (T1.out.below b2 T1.out.lt); obtain ⟨j0, j1, j2, j3, j4, j5, j6⟩ := cells7S M2.out G2.out T2.out; clear b2)))
    go_ret
    exact ⟨rfl, B2.out⟩
  rw [d0] at LI
  clear d0
  by_cases cnt : 2000 < nt
  case pos =>
    have u1 : (2000 : Int) < (nt : Int) := by omega
    go_enter Tryz.func3, Tryz.ntmps3
    go_upto_region 1 with (fail)
    clear hw0 hgg
    go_wp2_with (first
      | (go_at_call 5; ((with_reducible refine (awake16 M _ (M.bel HK.out B0.out)).mono ?_); rintro e w1 ⟨rfl, b1⟩; have B1 := Lib.hid (B0.out.trans (b1.mono B0.out.size)); have M1 := Lib.hid (M0.out.below b1 M0.out.lt); have G1 := Lib.hid (G0.out.below b1 G0.out.lt); have T1 := Lib.hid (T0.out.below b1 T0.out.lt); obtain ⟨k0, k1, k2, k3, k4, k5, k6⟩ := cells7S M1.out G1.out T1.out; clear b1))
      | (go_at_call 6; ((with_reducible refine (LI.out _).mono ?_); rintro e w2 ⟨rfl, b2⟩; have B2 := Lib.hid (B1.out.trans (b2.mono B1.out.size)); have M2 := Lib.hid (M1.out.below b2 M1.out.lt); have G2 := Lib.hid (G1.out.below b2 G1.out.lt); have T2 := Lib.hid (T1.out.below b2 T1.out.lt); obtain ⟨j0, j1, j2, j3, j4, j5, j6⟩ := cells7S M2.out G2.out T2.out; clear b2)))
    go_ret
    exact ⟨rfl, B2.out⟩
  have u1 : ¬ (2000 : Int) < (nt : Int) := by omega
  by_cases cns : 100 < ns
  case pos =>
    have u2 : (100 : Int) < (ns : Int) := by omega
    go_enter Tryz.func3, Tryz.ntmps3
    go_upto_region 1 with (fail)
    clear hw0 hgg
    go_wp2_with (first
      | (go_at_call 5; ((with_reducible refine (awake16 M _ (M.bel HK.out B0.out)).mono ?_); rintro e w1 ⟨rfl, b1⟩; have B1 := Lib.hid (B0.out.trans (b1.mono B0.out.size)); have M1 := Lib.hid (M0.out.below b1 M0.out.lt); have G1 := Lib.hid (G0.out.below b1 G0.out.lt); have T1 := Lib.hid (T0.out.below b1 T0.out.lt); obtain ⟨k0, k1, k2, k3, k4, k5, k6⟩ := cells7S M1.out G1.out T1.out; clear b1))
      | (go_at_call 6; ((with_reducible refine (LI.out _).mono ?_); rintro e w2 ⟨rfl, b2⟩; have B2 := Lib.hid (B1.out.trans (b2.mono B1.out.size)); have M2 := Lib.hid (M1.out.below b2 M1.out.lt); have G2 := Lib.hid (G1.out.below b2 G1.out.lt); have T2 := Lib.hid (T1.out.below b2 T1.out.lt); obtain ⟨j0, j1, j2, j3, j4, j5, j6⟩ := cells7S M2.out G2.out T2.out; clear b2)))
    go_ret
    exact ⟨rfl, B2.out⟩
  have u2 : ¬ (100 : Int) < (ns : Int) := by omega
  by_cases cnl : 100 < nl
  case pos =>
    have u3 : (100 : Int) < (nl : Int) := by omega
    go_enter Tryz.func3, Tryz.ntmps3
    go_upto_region 1 with (fail)
    clear hw0 hgg
    go_wp2_with (first
      | (go_at_call 5; ((with_reducible refine (awake16 M _ (M.bel HK.out B0.out)).mono ?_); rintro e w1 ⟨rfl, b1⟩; have B1 := Lib.hid (B0.out.trans (b1.mono B0.out.size)); have M1 := Lib.hid (M0.out.below b1 M0.out.lt); have G1 := Lib.hid (G0.out.below b1 G0.out.lt); have T1 := Lib.hid (T0.out.below b1 T0.out.lt); obtain ⟨k0, k1, k2, k3, k4, k5, k6⟩ := cells7S M1.out G1.out T1.out; clear b1))
      | (go_at_call 6; ((with_reducible refine (LI.out _).mono ?_); rintro e w2 ⟨rfl, b2⟩; have B2 := Lib.hid (B1.out.trans (b2.mono B1.out.size)); have M2 := Lib.hid (M1.out.below b2 M1.out.lt); have G2 := Lib.hid (G1.out.below b2 G1.out.lt); have T2 := Lib.hid (T1.out.below b2 T1.out.lt); obtain ⟨j0, j1, j2, j3, j4, j5, j6⟩ := cells7S M2.out G2.out T2.out; clear b2)))
    go_ret
    exact ⟨rfl, B2.out⟩
  have u3 : ¬ (100 : Int) < (nl : Int) := by omega
  by_cases cne : 100 < ne
  case pos =>
    have u4 : (100 : Int) < (ne : Int) := by omega
    go_enter Tryz.func3, Tryz.ntmps3
    go_upto_region 1 with (fail)
    clear hw0 hgg
    go_wp2_with (first
      | (go_at_call 5; ((with_reducible refine (awake16 M _ (M.bel HK.out B0.out)).mono ?_); rintro e w1 ⟨rfl, b1⟩; have B1 := Lib.hid (B0.out.trans (b1.mono B0.out.size)); have M1 := Lib.hid (M0.out.below b1 M0.out.lt); have G1 := Lib.hid (G0.out.below b1 G0.out.lt); have T1 := Lib.hid (T0.out.below b1 T0.out.lt); obtain ⟨k0, k1, k2, k3, k4, k5, k6⟩ := cells7S M1.out G1.out T1.out; clear b1))
      | (go_at_call 6; ((with_reducible refine (LI.out _).mono ?_); rintro e w2 ⟨rfl, b2⟩; have B2 := Lib.hid (B1.out.trans (b2.mono B1.out.size)); have M2 := Lib.hid (M1.out.below b2 M1.out.lt); have G2 := Lib.hid (G1.out.below b2 G1.out.lt); have T2 := Lib.hid (T1.out.below b2 T1.out.lt); obtain ⟨j0, j1, j2, j3, j4, j5, j6⟩ := cells7S M2.out G2.out T2.out; clear b2)))
    go_ret
    exact ⟨rfl, B2.out⟩
  have u4 : ¬ (100 : Int) < (ne : Int) := by omega
  go_enter Tryz.func3, Tryz.ntmps3
  go_upto_region 1 with (fail)
  clear hw0 hgg
  go_upto_region 5 with (first
    | (go_at_call 5; ((with_reducible refine (awake16 M _ (M.bel HK.out B0.out)).mono ?_); rintro e w1 ⟨rfl, b1⟩; have B1 := Lib.hid (B0.out.trans (b1.mono B0.out.size)); have M1 := Lib.hid (M0.out.below b1 M0.out.lt); have G1 := Lib.hid (G0.out.below b1 G0.out.lt); have T1 := Lib.hid (T0.out.below b1 T0.out.lt); obtain ⟨k0, k1, k2, k3, k4, k5, k6⟩ := cells7S M1.out G1.out T1.out; clear b1))
    | (go_at_call 6; ((with_reducible refine (LI.out _).mono ?_); rintro e w2 ⟨rfl, b2⟩; have B2 := Lib.hid (B1.out.trans (b2.mono B1.out.size)); have M2 := Lib.hid (M1.out.below b2 M1.out.lt); have G2 := Lib.hid (G1.out.below b2 G1.out.lt); have T2 := Lib.hid (T1.out.below b2 T1.out.lt); obtain ⟨j0, j1, j2, j3, j4, j5, j6⟩ := cells7S M2.out G2.out T2.out; clear b2)))
  have KS := Lib.hid (show ∀ X, Below w2.heap.size w2 X → X.cell? ⟨g, 0, none⟩ = some (.int .i64 L) ∧ X.cell? ⟨g, 1, none⟩ = some (.int .i64 H) ∧ X.cell? ⟨g + 1, 0, none⟩ = some (.slice As ns cs) ∧ X.cell? ⟨g + 1, 1, none⟩ = some (.slice Al nl cl) ∧ X.cell? ⟨g + 1, 2, none⟩ = some (.slice Ae ne ce) ∧ X.cell? ⟨g + 2, 0, none⟩ = some (.int .u64 (n : Int)) ∧ X.cell? ⟨g + 2, 1, none⟩ = some (.slice At nt ct) from fun X hX => cells7S (M2.out.below hX M2.out.lt) (G2.out.below hX G2.out.lt) (T2.out.below hX T2.out.lt))
  have BW := Lib.hid (show ∀ X, Below w2.heap.size w2 X → Below w.heap.size w X from fun X hX => B2.out.trans (hX.mono B2.out.size))
  have BZ := Lib.hid (Below.refl w2.heap.size w2)
  clear u1 u2 u3 u4 cnt cns cnl cne k0 k1 k2 k3 k4 k5 k6
  go_upto_region 6 with (go_at_call 7; ((with_reducible refine (CS1.out _ (BW.out _ BZ.out)).mono ?_); intro e w3 h3; obtain ⟨A3, c3, rfl, q3, b3⟩ := h3; have F3 := Lib.hid q3; have B3 := Lib.hid b3; clear q3 b3))
  clear j0 j1 j2 j3 j4 j5 j6
  obtain ⟨j0, j1, j2, j3, j4, j5, j6⟩ := KS.out _ B3.out
  go_upto_region 7 with (go_at_call 8; ((with_reducible refine (CS2.out _ (BW.out _ B3.out)).mono ?_); intro e w4 h4; obtain ⟨A4, c4, rfl, q4, b4⟩ := h4; have F4 := Lib.hid q4; have E4 := Lib.hid (F3.out.below b4); have B4 := Lib.hid (B3.out.trans (b4.mono B3.out.size)); clear q4 b4))
  clear j0 j1 j2 j3 j4 j5 j6
  obtain ⟨j0, j1, j2, j3, j4, j5, j6⟩ := KS.out _ B4.out
  go_upto_region 9 with (fail)
  clear j0 j1 j2 j3 j4 j5 j6 f1 f2 f3 f4 f5
  have B4' := Lib.hid B4.out.drew
  (go_region_held3 (fun X => X.cell? ⟨g, 0, none⟩ = some (.int .i64 L) ∧ X.cell? ⟨g, 1, none⟩ = some (.int .i64 H) ∧ X.cell? ⟨g + 1, 0, none⟩ = some (.slice As ns cs) ∧ X.cell? ⟨g + 1, 1, none⟩ = some (.slice Al nl cl) ∧ X.cell? ⟨g + 1, 2, none⟩ = some (.slice Ae ne ce) ∧ X.cell? ⟨g + 2, 0, none⟩ = some (.int .u64 (n : Int)) ∧ X.cell? ⟨g + 2, 1, none⟩ = some (.slice At nt ct))
    (first
      | exact KS.out _ B11.out
      | exact KS.out _ B10.out
      | exact KS.out _ B9.out
      | exact KS.out _ B8.out
      | exact KS.out _ B7.out
      | exact KS.out _ B6.out
      | exact KS.out _ B5.out
      | exact KS.out _ B4'.out)
    (first
      | (go_at_call 9; ((with_reducible refine (rsame_true A3 A4 SG.length c3 SG.length c4 SG SG _ (E4.out.below (Below.refl _ _).drew) (F4.out.below (Below.refl _ _).drew) rfl ).mono ?_); rintro e w5 ⟨rfl, b5⟩; have B5 := Lib.hid (B4'.out.trans (b5.mono B4'.out.size)); clear b5))
      | (go_at_call 10; ((with_reducible refine (CP1.out _ (BW.out _ B5.out)).mono ?_); intro e w6 h6; obtain ⟨A6, c6, rfl, q6, b6⟩ := h6; have F6 := Lib.hid q6; clear q6; have B6 := Lib.hid (B5.out.trans (b6.mono B5.out.size)); clear b6))
      | (go_at_call 11; ((with_reducible refine (CP2.out _ (BW.out _ B6.out)).mono ?_); intro e w7 h7; obtain ⟨A7, c7, rfl, q7, b7⟩ := h7; have F7 := Lib.hid q7; have E7 := Lib.hid (F6.out.below b7); clear q7; have B7 := Lib.hid (B6.out.trans (b7.mono B6.out.size)); clear b7))
      | (go_at_call 9; ((with_reducible refine (rsame_true A6 A7 PB.length c6 PB.length c7 PB PB _ E7.out F7.out rfl ).mono ?_); rintro e w8 ⟨rfl, b8⟩; have B8 := Lib.hid (B7.out.trans (b8.mono B7.out.size)); clear b8))
      | (go_at_call 12; ((with_reducible refine (CR1.out _ (BW.out _ B8.out)).mono ?_); intro e w9 h9; obtain ⟨A9, c9, rfl, q9, b9⟩ := h9; have F9 := Lib.hid q9; clear q9; have B9 := Lib.hid (B8.out.trans (b9.mono B8.out.size)); clear b9))
      | (go_at_call 13; ((with_reducible refine (CR2.out _ (BW.out _ B9.out)).mono ?_); intro e w10 h10; obtain ⟨A10, c10, rfl, q10, b10⟩ := h10; have F10 := Lib.hid q10; have E10 := Lib.hid (F9.out.below b10); clear q10; have B10 := Lib.hid (B9.out.trans (b10.mono B9.out.size)); clear b10))
      | (go_at_call 9; ((with_reducible refine (rsame_true A9 A10 RT.length c9 RT.length c10 RT RT _ E10.out F10.out rfl ).mono ?_); rintro e w11 ⟨rfl, b11⟩; have B11 := Lib.hid (B10.out.trans (b11.mono B10.out.size)); clear b11))
      | fail))
  go_wp2
  go_ret
  exact ⟨rfl, BW.out _ B11.out⟩
end Go.Proofs.YtkpfppiedadmbaaGreatDoor.S16
