/-
  Texts put together: WpL3. No statement is proved here.
-/
import Derived.Test.YtnejepidbahjdaaDoorWm16

/-
  The walk of layer 15's first statement. No statement is proved here. (Written by gensg.py.)
-/
namespace Go.Proofs.YtnejepidbahjdaaDoor.S15
set_option linter.unusedSimpArgs false
set_option linter.unusedVariables false
set_option maxRecDepth 1024
open Go.RowKit

def shB (ns nl ne nt : Nat) : Bool := decide (ns ≤ 100) && (decide (nl ≤ 100) && (decide (ne ≤ 100) && decide (nt ≤ 100)))
set_option maxHeartbeats 4000000 in
theorem rshort_any (As : Option Addr) (ns cs : Nat) (Al : Option Addr) (nl cl : Nat) (Ae : Option Addr) (ne ce : Nat) (ly tr qq : Nat) (At : Option Addr) (nt ct : Nat) (w : World) :
    Calls Tryd.prog 9 #[.agg #[.slice As ns cs, .slice Al nl cl, .slice Ae ne ce], .agg #[.int .u32 (ly : Int), .int .u64 (tr : Int), .int .u32 (qq : Int), .slice At nt ct]] w fun e w' => e = .returned (.bool (shB ns nl ne nt)) ∧ Below w.heap.size w w' := by
  obtain ⟨g, hgs⟩ : ∃ g, g = w.heap.size := ⟨_, rfl⟩
  obtain ⟨w0, hw0⟩ : ∃ w0, (w.alloc (.cells (mkA As ns cs Al nl cl Ae ne ce) 24)).alloc (.cells (lfA ly tr qq At nt ct) 28) = w0 := ⟨_, rfl⟩
  have M0 : Bk w0 g 24 (mkA As ns cs Al nl cl Ae ne ce) := by rw [← hw0, hgs]; exact (Bk.new _ _ _).alloc _
  have G0 : Bk w0 (g + 1) 28 (lfA ly tr qq At nt ct) := by rw [← hw0, hgs]; exact Bk.newAt _ _ _ _ (by simp)
  have B0 := Lib.hid (show Below w.heap.size w w0 by rw [← hw0]; exact ((Below.refl _ _).alloc (Nat.le_refl _) _).alloc (by simp) _)
  have HW := Lib.hid hw0
  have HGS := Lib.hid hgs
  have k0 : w0.cell? ⟨g, 0, none⟩ = some (.slice As ns cs) := M0.cell 0
  have k1 : w0.cell? ⟨g, 1, none⟩ = some (.slice Al nl cl) := M0.cell 1
  have k2 : w0.cell? ⟨g, 2, none⟩ = some (.slice Ae ne ce) := M0.cell 2
  obtain ⟨j0, j1, j2, j3⟩ := lf_cells G0
  clear hw0 hgs M0 G0
  by_cases cns : ns ≤ 100
  case neg =>
    have tns : ¬ (ns : Int) ≤ 100 := by omega
    have e : shB ns nl ne nt = false := by simp [shB, cns]
    rw [e]
    clear e
    go_enter Tryd.func9, Tryd.ntmps9
    go_upto_region 1 with (fail)
    first
      | rw [HW.out, ← HGS.out]
      | (trace_state; fail)
    go_wp2
    go_ret
    exact ⟨rfl, B0.out⟩
  have tns : (ns : Int) ≤ 100 := by omega
  by_cases cnl : nl ≤ 100
  case neg =>
    have tnl : ¬ (nl : Int) ≤ 100 := by omega
    have e : shB ns nl ne nt = false := by simp [shB, cnl]
    rw [e]
    clear e
    go_enter Tryd.func9, Tryd.ntmps9
    go_upto_region 1 with (fail)
    first
      | rw [HW.out, ← HGS.out]
      | (trace_state; fail)
    go_wp2
    go_ret
    exact ⟨rfl, B0.out⟩
  have tnl : (nl : Int) ≤ 100 := by omega
  by_cases cne : ne ≤ 100
  case neg =>
    have tne : ¬ (ne : Int) ≤ 100 := by omega
    have e : shB ns nl ne nt = false := by simp [shB, cne]
    rw [e]
    clear e
    go_enter Tryd.func9, Tryd.ntmps9
    go_upto_region 1 with (fail)
    first
      | rw [HW.out, ← HGS.out]
      | (trace_state; fail)
    go_wp2
    go_ret
    exact ⟨rfl, B0.out⟩
  have tne : (ne : Int) ≤ 100 := by omega
  by_cases cnt : nt ≤ 100
  case neg =>
    have tnt : ¬ (nt : Int) ≤ 100 := by omega
    have e : shB ns nl ne nt = false := by simp [shB, cnt]
    rw [e]
    clear e
    go_enter Tryd.func9, Tryd.ntmps9
    go_upto_region 1 with (fail)
    first
      | rw [HW.out, ← HGS.out]
      | (trace_state; fail)
    go_wp2
    go_ret
    exact ⟨rfl, B0.out⟩
  have tnt : (nt : Int) ≤ 100 := by omega
  have e : shB ns nl ne nt = true := by simp [shB, cns, cnl, cne, cnt]
  rw [e]
  clear e
  go_enter Tryd.func9, Tryd.ntmps9
  go_upto_region 1 with (fail)
  first
    | rw [HW.out, ← HGS.out]
    | (trace_state; fail)
  go_wp2
  go_ret
  exact ⟨rfl, B0.out⟩
theorem keep7 {w' : World} {g : Nat} {T T' : TypeId} {As Al Ae At : Option Addr} {ns cs nl cl ne ce ly tr qq nt ct : Nat} (h : Bk w' g T (mkA As ns cs Al nl cl Ae ne ce)) (h' : Bk w' (g + 1) T' (lfA ly tr qq At nt ct)) : w'.cell? ⟨g, 0, none⟩ = some (.slice As ns cs) ∧ w'.cell? ⟨g, 1, none⟩ = some (.slice Al nl cl) ∧ w'.cell? ⟨g, 2, none⟩ = some (.slice Ae ne ce) ∧ w'.cell? ⟨g + 1, 0, none⟩ = some (.int .u32 (ly : Int)) ∧ w'.cell? ⟨g + 1, 1, none⟩ = some (.int .u64 (tr : Int)) ∧ w'.cell? ⟨g + 1, 2, none⟩ = some (.int .u32 (qq : Int)) ∧ w'.cell? ⟨g + 1, 3, none⟩ = some (.slice At nt ct) :=
  ⟨h.cell 0, h.cell 1, h.cell 2, h'.cell 0, h'.cell 1, h'.cell 2, h'.cell 3⟩
set_option maxHeartbeats 8000000 in
theorem wplusSigns_walk (M : WC) (w : World) (hk : M.ok w) (As : Option Addr) (ns cs : Nat) (sec : List UInt8) (hs : Rd w As ns cs sec) (Al : Option Addr) (nl cl : Nat) (salt : List UInt8) (hl : Rd w Al nl cl salt) (Ae : Option Addr) (ne ce : Nat) (sd : List UInt8) (he : Rd w Ae ne ce sd) (ly tr qq : Nat) (h1 : ly < 4294967296) (h2 : tr < 18446744073709551616) (h3 : qq < 4294967296) (At : Option Addr) (nt ct : Nat) (text : List UInt8) (ht : Rd w At nt ct text) :
    Calls Tryd.prog 3 #[.agg (mkA As ns cs Al nl cl Ae ne ce), .agg (lfA ly tr qq At nt ct)] w fun e w' => e = .returned (.bool true) ∧ Below w.heap.size w w' := by
  obtain ⟨g, hgs⟩ : ∃ g, g = w.heap.size := ⟨_, rfl⟩
  obtain ⟨w0, hw0⟩ : ∃ w0, (w.alloc (.cells (mkA As ns cs Al nl cl Ae ne ce) 24)).alloc (.cells (lfA ly tr qq At nt ct) 28) = w0 := ⟨_, rfl⟩
  have M0 := Lib.hid (show Bk w0 g 24 (mkA As ns cs Al nl cl Ae ne ce) by rw [← hw0, hgs]; exact (Bk.new _ _ _).alloc _)
  have G0 := Lib.hid (show Bk w0 (g + 1) 28 (lfA ly tr qq At nt ct) by rw [← hw0, hgs]; exact Bk.newAt _ _ _ _ (by simp))
  have B0 := Lib.hid (show Below w.heap.size w w0 by rw [← hw0]; exact ((Below.refl _ _).alloc (Nat.le_refl _) _).alloc (by simp) _)
  have HW := Lib.hid hw0
  have HGS := Lib.hid hgs
  have HAW := Lib.hid (fun X g => awake_true M X g)
  have HK := Lib.hid hk
  have HSH := fun X => rshort_any As ns cs Al nl cl Ae ne ce ly tr qq At nt ct X
  obtain ⟨bm, hbm⟩ : ∃ bm, bm = mayN ns nl ne := ⟨_, rfl⟩
  obtain ⟨LF, hLF⟩ : ∃ LF, LF = leafW sec salt sd ly tr qq := ⟨_, rfl⟩
  obtain ⟨SG, hSG⟩ : ∃ SG, SG = signW sec salt sd ly tr qq text := ⟨_, rfl⟩
  have HM1 := Lib.hid (show ∀ X, Below w.heap.size w X → Calls Tryd.prog 10 #[.agg #[.slice As ns cs, .slice Al nl cl, .slice Ae ne ce]] X fun e w' => e = .returned (.bool bm) ∧ Below X.heap.size X w' from fun X hX => by rw [hbm]; exact M.may As ns cs sec Al nl cl salt Ae ne ce sd X (M.bel hk hX) (hs.below hX) (hl.below hX) (he.below hX))
  have HM2 := Lib.hid (show ∀ X, Calls Tryd.prog 11 #[.agg #[.slice As ns cs, .slice Al nl cl, .slice Ae ne ce]] X fun e w' => e = .returned (.bool bm) ∧ Below X.heap.size X w' from fun X => by rw [hbm]; exact rmay_any15 As ns cs Al nl cl Ae ne ce X)
  have HL1 := Lib.hid (show ∀ X, Below w.heap.size w X → Calls Tryd.prog 13 #[.agg #[.slice As ns cs, .slice Al nl cl, .slice Ae ne ce], .int .u32 (ly : Int), .int .u64 (tr : Int), .int .u32 (qq : Int)] X (New X.heap.size X LF) from fun X hX => by rw [hLF]; exact M.leaf As ns cs sec Al nl cl salt Ae ne ce sd ly tr qq X (M.bel hk hX) (hs.below hX) (hl.below hX) (he.below hX) h1 h2 h3)
  have HL2 := Lib.hid (show ∀ X, Below w.heap.size w X → Calls Tryd.prog 14 #[.agg #[.slice As ns cs, .slice Al nl cl, .slice Ae ne ce], .int .u32 (ly : Int), .int .u64 (tr : Int), .int .u32 (qq : Int)] X (GivesR X LF) from fun X hX => by rw [hLF]; exact rleaf_any As ns cs sec Al nl cl salt Ae ne ce sd ly tr qq X (hs.below hX) (hl.below hX) (he.below hX) h1 h2 h3)
  have HS1 := Lib.hid (show ∀ X, Below w.heap.size w X → Calls Tryd.prog 15 #[.agg #[.slice As ns cs, .slice Al nl cl, .slice Ae ne ce], .int .u32 (ly : Int), .int .u64 (tr : Int), .int .u32 (qq : Int), .slice At nt ct] X (New X.heap.size X SG) from fun X hX => by rw [hSG]; exact M.sign As ns cs sec Al nl cl salt Ae ne ce sd ly tr qq At nt ct text X (M.bel hk hX) (hs.below hX) (hl.below hX) (he.below hX) (ht.below hX) h1 h2 h3)
  have HS2 := Lib.hid (show ∀ X, Below w.heap.size w X → Calls Tryd.prog 16 #[.agg #[.slice As ns cs, .slice Al nl cl, .slice Ae ne ce], .int .u32 (ly : Int), .int .u64 (tr : Int), .int .u32 (qq : Int), .slice At nt ct] X (GivesR X SG) from fun X hX => by rw [hSG]; exact rsign_any As ns cs sec Al nl cl salt Ae ne ce sd ly tr qq At nt ct text X (hs.below hX) (hl.below hX) (he.below hX) (ht.below hX) h1 h2 h3)
  have EB : (bm == bm) = true := by simp
  clear hk hs hl he ht hw0 hgs h1 h2 h3 hbm hLF hSG
  go_enter Tryd.func3, Tryd.ntmps3
  go_upto_region 1 with (fail)
  rw [HW.out, ← HGS.out]
  go_upto_region 3 with (go_at_call 8; ((with_reducible refine (HAW.out _ (M.bel HK.out B0.out)).mono ?_); rintro e w1 ⟨rfl, b1⟩; have B1 := Lib.hid (B0.out.trans (b1.mono B0.out.size)); have M1 := Lib.hid (M0.out.below b1 M0.out.lt); have G1 := Lib.hid (G0.out.below b1 G0.out.lt); obtain ⟨k0, k1, k2, k3, k4, k5, k6⟩ := keep7 M1.out G1.out; clear b1))
  have KP := Lib.hid (show ∀ w', Below w1.heap.size w1 w' → w'.cell? ⟨g, 0, none⟩ = some (.slice As ns cs) ∧ w'.cell? ⟨g, 1, none⟩ = some (.slice Al nl cl) ∧ w'.cell? ⟨g, 2, none⟩ = some (.slice Ae ne ce) ∧ w'.cell? ⟨g + 1, 0, none⟩ = some (.int .u32 (ly : Int)) ∧ w'.cell? ⟨g + 1, 1, none⟩ = some (.int .u64 (tr : Int)) ∧ w'.cell? ⟨g + 1, 2, none⟩ = some (.int .u32 (qq : Int)) ∧ w'.cell? ⟨g + 1, 3, none⟩ = some (.slice At nt ct) from fun w' hw' => keep7 (M1.out.below hw' M1.out.lt) (G1.out.below hw' G1.out.lt))
  have BB := Lib.hid (show ∀ w', Below w1.heap.size w1 w' → Below w.heap.size w w' from fun w' hw' => B1.out.trans (hw'.mono B1.out.size))
  have BZ := Lib.hid (Below.refl w1.heap.size w1)
  cases hsb : shB ns nl ne nt
  · rw [hsb] at HSH
    have HSI := Lib.hid HSH
    clear HSH hsb
    go_wp2_with (go_at_call 9; ((with_reducible refine (HSI.out _).mono ?_); rintro e w2 ⟨rfl, b2⟩; have B2 := Lib.hid (BZ.out.trans (b2.mono BZ.out.size)); clear b2))
    go_ret
    exact ⟨rfl, BB.out _ B2.out⟩
  · rw [hsb] at HSH
    have HSI := Lib.hid HSH
    clear HSH hsb
    go_upto_region 5 with (go_at_call 9; ((with_reducible refine (HSI.out _).mono ?_); rintro e w2 ⟨rfl, b2⟩; have B2 := Lib.hid (BZ.out.trans (b2.mono BZ.out.size)); clear b2))
    (go_region_held3 (fun w' => w'.cell? ⟨g, 0, none⟩ = some (.slice As ns cs) ∧ w'.cell? ⟨g, 1, none⟩ = some (.slice Al nl cl) ∧ w'.cell? ⟨g, 2, none⟩ = some (.slice Ae ne ce) ∧ w'.cell? ⟨g + 1, 0, none⟩ = some (.int .u32 (ly : Int)) ∧ w'.cell? ⟨g + 1, 1, none⟩ = some (.int .u64 (tr : Int)) ∧ w'.cell? ⟨g + 1, 2, none⟩ = some (.int .u32 (qq : Int)) ∧ w'.cell? ⟨g + 1, 3, none⟩ = some (.slice At nt ct))
      (first
        | exact KP.out _ B10.out
        | exact KP.out _ B9.out
        | exact KP.out _ B8.out
        | exact KP.out _ B7.out
        | exact KP.out _ B6.out
        | exact KP.out _ B5.out
        | exact KP.out _ B4.out
        | exact KP.out _ B3.out
        | exact KP.out _ B2.out.drew)
      (first
        | (go_at_call 10; ((with_reducible refine (HM1.out _ (BB.out _ B2.out.drew)).mono ?_); rintro e w3 ⟨rfl, b3⟩; have B3 := Lib.hid (B2.out.drew.trans (b3.mono B2.out.size)); clear b3))
        | (go_at_call 11; ((with_reducible refine (HM2.out _ ).mono ?_); rintro e w4 ⟨rfl, b4⟩; have B4 := Lib.hid (B3.out.trans (b4.mono B3.out.size)); clear b4))
        | (go_at_call 13; ((with_reducible refine (HL1.out _ (BB.out _ B4.out)).mono ?_); intro e w5 h5; obtain ⟨A5, c5, rfl, q5, b5⟩ := new_of h5; have F5 := Lib.hid (Rd.own q5); clear h5 q5; have B5 := Lib.hid (B4.out.trans (b5.mono B4.out.size)); clear b5))
        | (go_at_call 14; ((with_reducible refine (HL2.out _ (BB.out _ B5.out)).mono ?_); intro e w6 h6; obtain ⟨A6, c6, rfl, q6, b6⟩ := h6; have F6 := Lib.hid q6; have E6 := Lib.hid (F5.out.below b6); clear q6; have B6 := Lib.hid (B5.out.trans (b6.mono B5.out.size)); clear b6))
        | (go_at_call 12; ((with_reducible refine (rsame_true A5 A6 LF.length c5 LF.length c6 LF LF _ E6.out F6.out rfl ).mono ?_); rintro e w7 ⟨rfl, b7⟩; have B7 := Lib.hid (B6.out.trans (b7.mono B6.out.size)); clear b7))
        | (go_at_call 15; ((with_reducible refine (HS1.out _ (BB.out _ B7.out)).mono ?_); intro e w8 h8; obtain ⟨A8, c8, rfl, q8, b8⟩ := new_of h8; have F8 := Lib.hid (Rd.own q8); clear h8 q8; have B8 := Lib.hid (B7.out.trans (b8.mono B7.out.size)); clear b8))
        | (go_at_call 16; ((with_reducible refine (HS2.out _ (BB.out _ B8.out)).mono ?_); intro e w9 h9; obtain ⟨A9, c9, rfl, q9, b9⟩ := h9; have F9 := Lib.hid q9; have E9 := Lib.hid (F8.out.below b9); clear q9; have B9 := Lib.hid (B8.out.trans (b9.mono B8.out.size)); clear b9))
        | (go_at_call 12; ((with_reducible refine (rsame_true A8 A9 SG.length c8 SG.length c9 SG SG _ E9.out F9.out rfl ).mono ?_); rintro e w10 ⟨rfl, b10⟩; have B10 := Lib.hid (B9.out.trans (b10.mono B9.out.size)); clear b10))
        | fail))
    go_wp2
    go_ret
    exact ⟨rfl, BB.out _ B10.out⟩
end Go.Proofs.YtnejepidbahjdaaDoor.S15
