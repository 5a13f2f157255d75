/-
  Texts put together: WpL1, WpL2. No statement is proved here.
-/
import Derived.Test.YtnejepidbahjdaaDoorWm15

/-
  The walk of layer 15's second statement. No statement is proved here.
-/
namespace Go.Proofs.YtnejepidbahjdaaDoor.S15
set_option linter.unusedSimpArgs false
set_option linter.unusedVariables false
set_option maxRecDepth 1024
open Go.RowKit

/-- A leaf's cells, with a sum. -/
abbrev lfA (ly tr qq : Nat) (At : Option Addr) (nt ct : Nat) : Array Value := #[.int .u32 (ly : Int), .int .u64 (tr : Int), .int .u32 (qq : Int), .slice At nt ct]
theorem lf_cells {w' : World} {g : Nat} {T : TypeId} {ly tr qq : Nat} {At : Option Addr} {nt ct : Nat} (h : Bk w' g T (lfA ly tr qq At nt ct)) : w'.cell? ⟨g, 0, none⟩ = some (.int .u32 (ly : Int)) ∧ w'.cell? ⟨g, 1, none⟩ = some (.int .u64 (tr : Int)) ∧ w'.cell? ⟨g, 2, none⟩ = some (.int .u32 (qq : Int)) ∧ w'.cell? ⟨g, 3, none⟩ = some (.slice At nt ct) := ⟨h.cell 0, h.cell 1, h.cell 2, h.cell 3⟩
set_option maxHeartbeats 4000000 in
theorem wplusStands_walk (M : WC) (w : World) (hk : M.ok w) (Ae : Option Addr) (ne ce : Nat) (sd : List UInt8) (he : Rd w Ae ne ce sd) (ly tr qq : Nat) (h1 : ly < 4294967296) (h2 : tr < 18446744073709551616) (h3 : qq < 4294967296) (At : Option Addr) (nt ct : Nat) (text : List UInt8) (ht : Rd w At nt ct text) (Ag : Option Addr) (ng cg : Nat) (sig : List UInt8) (hg : Rd w Ag ng cg sig) :
    Calls Tryd.prog 4 #[.slice Ae ne ce, .agg (lfA ly tr qq At nt ct), .slice Ag ng cg] w fun e w' => e = .returned (.bool true) ∧ Below w.heap.size w w' := by
  obtain ⟨g, hgs⟩ : ∃ g, g = w.heap.size := ⟨_, rfl⟩
  obtain ⟨w0, hw0⟩ : ∃ w0, w.alloc (.cells (lfA ly tr qq At nt ct) 28) = w0 := ⟨_, rfl⟩
  have G0 := Lib.hid (show Bk w0 g 28 (lfA ly tr qq At nt ct) by rw [← hw0, hgs]; exact Bk.new _ _ _)
  have B0 := Lib.hid (show Below w.heap.size w w0 by rw [← hw0]; exact (Below.refl _ _).alloc (Nat.le_refl _) _)
  have HW := Lib.hid hw0
  have HGS := Lib.hid hgs
  have HAW := Lib.hid (fun X g => awake_true M X g)
  have HK := Lib.hid hk
  obtain ⟨SW, hSW⟩ : ∃ SW, SW = standW sd ly tr qq text sig := ⟨_, rfl⟩
  have HL := Lib.hid (show ∀ X A c, Below w.heap.size w X → Rd X A ng c sig → Calls Tryd.prog 17 #[.slice Ae ne ce, .int .u32 (ly : Int), .int .u64 (tr : Int), .int .u32 (qq : Int), .slice At nt ct, .slice A ng c] X (New X.heap.size X SW) from fun X A c hX h => by rw [hSW]; exact M.stands Ae ne ce sd ly tr qq At nt ct text A ng c sig X (M.bel hk hX) (he.below hX) (ht.below hX) h h1 h2 h3)
  have HRF := Lib.hid (show ∀ X, Below w.heap.size w X → Calls Tryd.prog 18 #[.slice Ae ne ce, .int .u32 (ly : Int), .int .u64 (tr : Int), .int .u32 (qq : Int), .slice At nt ct, .slice Ag ng cg] X (GivesR X SW) from fun X hX => by rw [hSW]; exact rstands_any Ae ne ce sd ly tr qq At nt ct text Ag ng cg sig X (he.below hX) (ht.below hX) (hg.below hX) h1 h2 h3)
  have HG := Lib.hid hg
  clear hk he ht hg hSW hw0 hgs h1 h2 h3
  by_cases c1 : 100 < ne
  · have t1 : (100 : Int) < (ne : Int) := by omega
    go_enter Tryd.func4, Tryd.ntmps4
    go_upto_region 1 with (fail)
    rw [HW.out]
    go_wp2_with (go_at_call 8; ((with_reducible refine (HAW.out _ (M.bel HK.out B0.out)).mono ?_); rintro e w1 ⟨rfl, b1⟩; have B1 := Lib.hid (B0.out.trans (b1.mono B0.out.size)); clear b1))
    go_ret
    exact ⟨rfl, B1.out⟩
  have t1 : ¬ (100 : Int) < (ne : Int) := by omega
  by_cases c2 : 100 < nt
  · have t2 : (100 : Int) < (nt : Int) := by omega
    go_enter Tryd.func4, Tryd.ntmps4
    go_upto_region 1 with (fail)
    rw [HW.out, ← HGS.out]
    go_upto_region 3 with (go_at_call 8; ((with_reducible refine (HAW.out _ (M.bel HK.out B0.out)).mono ?_); rintro e w1 ⟨rfl, b1⟩; have B1 := Lib.hid (B0.out.trans (b1.mono B0.out.size)); obtain ⟨k0, k1, k2, k3⟩ := lf_cells (G0.out.below b1 G0.out.lt); clear b1))
    go_wp2
    go_ret
    exact ⟨rfl, B1.out⟩
  have t2 : ¬ (100 : Int) < (nt : Int) := by omega
  by_cases c3 : 5000 < ng
  · have t3 : (5000 : Int) < (ng : Int) := by omega
    go_enter Tryd.func4, Tryd.ntmps4
    go_upto_region 1 with (fail)
    rw [HW.out, ← HGS.out]
    go_upto_region 3 with (go_at_call 8; ((with_reducible refine (HAW.out _ (M.bel HK.out B0.out)).mono ?_); rintro e w1 ⟨rfl, b1⟩; have B1 := Lib.hid (B0.out.trans (b1.mono B0.out.size)); obtain ⟨k0, k1, k2, k3⟩ := lf_cells (G0.out.below b1 G0.out.lt); clear b1))
    go_wp2
    go_ret
    exact ⟨rfl, B1.out⟩
  have t3 : ¬ (5000 : Int) < (ng : Int) := by omega
  go_enter Tryd.func4, Tryd.ntmps4
  go_upto_region 1 with (fail)
  rw [HW.out, ← HGS.out]
  go_upto_region 3 with (go_at_call 8; ((with_reducible refine (HAW.out _ (M.bel HK.out B0.out)).mono ?_); rintro e w1 ⟨rfl, b1⟩; have B1 := Lib.hid (B0.out.trans (b1.mono B0.out.size)); have G1 := Lib.hid (G0.out.below b1 G0.out.lt); obtain ⟨k0, k1, k2, k3⟩ := lf_cells (G0.out.below b1 G0.out.lt); clear b1))
  have HOE := Lib.hid (S2.own_empty w1 w.heap.size B1.out.size)
  have NE := Lib.hid (show some g ≠ (Value.slice (some ⟨w1.heap.size, 0, none⟩) 0 0).ownBlock from fun e => by
    have e1 : g = w1.heap.size := by simpa [Value.ownBlock] using e
    have := G1.out.lt
    omega)
  go_upto_region 6 with (at_builtin; refine append_rd rfl (.tmp 24) (.tmp 25) rfl w.heap.size _ 0 [] rfl HOE.out Ag ng cg sig rfl ((HG.out.below B1.out).alloc _) (by omega) (by have := B1.out.size; simp; omega) ?_; intro v2 w2 o2 g2; have B2 := Lib.hid ((B1.out.alloc B1.out.size (.cells #[] 5)).grown g2 (by have := B1.out.size; simp; omega) (fun q hq => (HOE.out.lt q hq).1)); have G2 := Lib.hid ((G1.out.alloc (.cells #[] 5)).only g2 NE.out))
  simp only [Nat.zero_add, List.nil_append] at o2
  obtain ⟨A2, c2', rfl⟩ := own_form o2
  have R2 := Lib.hid (Rd.own o2)
  have KP := Lib.hid (show ∀ w', Below w2.heap.size w2 w' → w'.cell? ⟨g, 0, none⟩ = some (.int .u32 (ly : Int)) ∧ w'.cell? ⟨g, 1, none⟩ = some (.int .u64 (tr : Int)) ∧ w'.cell? ⟨g, 2, none⟩ = some (.int .u32 (qq : Int)) ∧ w'.cell? ⟨g, 3, none⟩ = some (.slice At nt ct) from fun w' hw' => lf_cells (G2.out.below hw' G2.out.lt))
  have BB := Lib.hid (show ∀ w', Below w2.heap.size w2 w' → Below w.heap.size w w' from fun w' hw' => B2.out.trans (hw'.mono B2.out.size))
  have BZ := Lib.hid (Below.refl w2.heap.size w2)
  clear o2 g2 k0 k1 k2 k3
  (go_region_held3 (fun w' => w'.cell? ⟨g, 0, none⟩ = some (.int .u32 (ly : Int)) ∧ w'.cell? ⟨g, 1, none⟩ = some (.int .u64 (tr : Int)) ∧ w'.cell? ⟨g, 2, none⟩ = some (.int .u32 (qq : Int)) ∧ w'.cell? ⟨g, 3, none⟩ = some (.slice At nt ct))
    (first
      | exact KP.out _ B6.out
      | exact KP.out _ B5.out
      | exact KP.out _ B4.out
      | exact KP.out _ B3.out
      | exact KP.out _ BZ.out.drew)
    (first
      | (go_at_call 17; ((with_reducible refine (HL.out _ A2 c2' (BB.out _ BZ.out.drew) (R2.out.below BZ.out.drew)).mono ?_); intro e w3 h3; obtain ⟨A3, c3, rfl, q3, b3⟩ := new_of h3; have F3 := Lib.hid (Rd.own q3); have B3 := Lib.hid (BZ.out.drew.trans (b3.mono BZ.out.size)); clear q3 b3 h3))
      | (go_at_call 18; ((with_reducible refine (HRF.out _ (BB.out _ B3.out)).mono ?_); intro e w4 h4; obtain ⟨A4, c4, rfl, q4, b4⟩ := h4; have F4 := Lib.hid q4; have B4 := Lib.hid (B3.out.trans (b4.mono B3.out.size)); have E4 := Lib.hid (F3.out.below b4); clear q4 b4))
      | (go_at_call 12; ((with_reducible refine (rsame_true A3 A4 SW.length c3 SW.length c4 SW SW _ E4.out F4.out rfl).mono ?_); rintro e w5 ⟨rfl, b5⟩; have B5 := Lib.hid (B4.out.trans (b5.mono B4.out.size)); clear b5))
      | (go_at_call 12; ((with_reducible refine (rsame_true A2 Ag ng c2' ng cg sig sig _ (R2.out.below B5.out) (HG.out.below (BB.out _ B5.out)) rfl).mono ?_); rintro e w6 ⟨rfl, b6⟩; have B6 := Lib.hid (B5.out.trans (b6.mono B5.out.size)); clear b6))
      | fail))
  go_wp2
  go_ret
  exact ⟨rfl, BB.out _ B6.out⟩
end Go.Proofs.YtnejepidbahjdaaDoor.S15

/-
  The walk of layer 15's third statement. No statement is proved here.
-/
namespace Go.Proofs.YtnejepidbahjdaaDoor.S15
set_option linter.unusedSimpArgs false
set_option linter.unusedVariables false
set_option maxRecDepth 1024
open Go.RowKit

theorem run_cutSlH {A : Option Addr} {n c m : Nat} {h : Int} (hh : h = (m : Nat)) (hk : m ≤ c) (W : World) :
    (Instr.slice 22 (.slice A n c) none (some (.int .i64 h)) none).run Tryd.prog W = .ok (.slice A m c) W := by
  have ee : Tryd.prog.elem 22 = 5 := by kernel_rfl
  have hs : (sizeOf 5).run Tryd.prog W = .ok 1 W := by kernel_rfl
  subst hh
  rw [run_slice_h W 22 A n c (by rw [ee]; exact Tryd.underlying22) .i64 (m : Int) (by omega) (by omega), ee, hs]
  simp only [Result.andThen, sliced, Nat.mul_one, Int.toNat_natCast, Nat.sub_zero]
  have : A.map (·.add 0) = A := by cases A <;> simp [Addr.add]
  rw [this]
  split <;> rfl
theorem run_cutSlHAt {A : Option Addr} {n c m : Nat} {h : Int} (hh : h = (m : Nat)) (hk : m ≤ c) (W : World) :
    (Instr.sliceAt 22 (.slice A n c) none (some (.int .i64 h)) none).run Tryd.prog W = .ok (.slice A m c) W := by
  have ee : Tryd.prog.elem 22 = 5 := by kernel_rfl
  rw [run_sliceAt_slice W 22 _ _ _ _ (by rw [ee]; exact Tryd.underlying22)]
  exact run_cutSlH hh hk W
set_option maxHeartbeats 4000000 in
theorem wplusKeeps_walk (M : WC) (w : World) (hk : M.ok w) (As : Option Addr) (ns cs : Nat) (sec : List UInt8) (hs : Rd w As ns cs sec) (Al : Option Addr) (nl cl : Nat) (salt : List UInt8) (hl : Rd w Al nl cl salt) (Ae : Option Addr) (ne ce : Nat) (sd : List UInt8) (he : Rd w Ae ne ce sd) (ly tr qq : Nat) (h1 : ly < 4294967296) (h2 : tr < 18446744073709551616) (h3 : qq < 4294967296) (At : Option Addr) (nt ct : Nat) (text : List UInt8) (ht : Rd w At nt ct text) :
    Calls Tryd.prog 5 #[.agg (mkA As ns cs Al nl cl Ae ne ce), .agg (lfA ly tr qq At nt ct)] w fun e w' => e = .returned (.bool true) ∧ Below w.heap.size w w' := by
  obtain ⟨g, hgs⟩ : ∃ g, g = w.heap.size := ⟨_, rfl⟩
  obtain ⟨w0, hw0⟩ : ∃ w0, (w.alloc (.cells (mkA As ns cs Al nl cl Ae ne ce) 24)).alloc (.cells (lfA ly tr qq At nt ct) 28) = w0 := ⟨_, rfl⟩
  have M0 := Lib.hid (show Bk w0 g 24 (mkA As ns cs Al nl cl Ae ne ce) by rw [← hw0, hgs]; exact (Bk.new _ _ _).alloc _)
  have G0 := Lib.hid (show Bk w0 (g + 1) 28 (lfA ly tr qq At nt ct) by rw [← hw0, hgs]; exact Bk.newAt _ _ _ _ (by simp))
  have B0 := Lib.hid (show Below w.heap.size w w0 by rw [← hw0]; exact ((Below.refl _ _).alloc (Nat.le_refl _) _).alloc (by simp) _)
  have HW := Lib.hid hw0
  have HGS := Lib.hid hgs
  have HAW := Lib.hid (fun X g => awake_true M X g)
  have HK := Lib.hid hk
  have HMY := Lib.hid (show ∀ X, Calls Tryd.prog 11 #[.agg #[.slice As ns cs, .slice Al nl cl, .slice Ae ne ce]] X fun e w' => e = .returned (.bool (mayN ns nl ne)) ∧ Below X.heap.size X w' from fun X => rmay_any15 As ns cs Al nl cl Ae ne ce X)
  by_cases c1 : mayN ns nl ne = true
  case neg =>
    have c1 : mayN ns nl ne = false := by simpa using c1
    rw [c1] at HMY
    clear hk hs hl he ht hw0 hgs h1 h2 h3 c1
    go_enter Tryd.func5, Tryd.ntmps5
    go_upto_region 1 with (fail)
    rw [HW.out, ← HGS.out]
    go_upto_region 3 with (go_at_call 8; ((with_reducible refine (HAW.out _ (M.bel HK.out B0.out)).mono ?_); rintro e w1 ⟨rfl, b1⟩; have B1 := Lib.hid (B0.out.trans (b1.mono B0.out.size)); have k0 := (M0.out.below b1 M0.out.lt).cell 0; have k1 := (M0.out.below b1 M0.out.lt).cell 1; have k2 := (M0.out.below b1 M0.out.lt).cell 2; clear b1))
    simp only [List.getElem?_toArray, List.getElem?_cons_zero, List.getElem?_cons_succ] at k0 k1 k2
    go_wp2_with (go_at_call 11; ((with_reducible refine (HMY.out _).mono ?_); rintro e w2 ⟨rfl, b2⟩; have B2 := Lib.hid (B1.out.trans (b2.mono B1.out.size)); clear b2))
    go_ret
    exact ⟨rfl, B2.out⟩
  case pos =>
    rw [c1] at HMY
    obtain ⟨rfl, rfl, rfl⟩ := mayN_iff.1 c1
    by_cases c2 : nt < 32
    · have t2 : (nt : Int) < 32 := by omega
      clear hk hs hl he ht hw0 hgs h1 h2 h3 c1
      go_enter Tryd.func5, Tryd.ntmps5
      go_upto_region 1 with (fail)
      rw [HW.out, ← HGS.out]
      go_upto_region 3 with (go_at_call 8; ((with_reducible refine (HAW.out _ (M.bel HK.out B0.out)).mono ?_); rintro e w1 ⟨rfl, b1⟩; have B1 := Lib.hid (B0.out.trans (b1.mono B0.out.size)); have k0 := (M0.out.below b1 M0.out.lt).cell 0; have k1 := (M0.out.below b1 M0.out.lt).cell 1; have k2 := (M0.out.below b1 M0.out.lt).cell 2; have G1 := Lib.hid (G0.out.below b1 G0.out.lt); clear b1))
      simp only [List.getElem?_toArray, List.getElem?_cons_zero, List.getElem?_cons_succ] at k0 k1 k2
      go_wp2_with (go_at_call 11; ((with_reducible refine (HMY.out _).mono ?_); rintro e w2 ⟨rfl, b2⟩; have B2 := Lib.hid (B1.out.trans (b2.mono B1.out.size)); obtain ⟨j0, j1, j2, j3⟩ := lf_cells (G1.out.below b2 G1.out.lt); clear b2))
      go_ret
      exact ⟨rfl, B2.out⟩
    · have t2 : ¬ (nt : Int) < 32 := by omega
      have hx := ht.take (k := 32) (by omega)
      obtain ⟨x, hxx⟩ : ∃ x, x = text.take 32 := ⟨_, rfl⟩
      rw [← hxx] at hx
      have xl := hx.len
      have e1 : signW sec salt sd ly tr qq x = signL sec sd (adQ ly tr qq) x := by rw [signW, if_pos ⟨by rw [hs.len, hl.len, he.len]; exact c1, xl⟩]
      have e2 : leafW sec salt sd ly tr qq = leafL sec sd (adQ ly tr qq) := by rw [leafW, if_pos (by rw [hs.len, hl.len, he.len]; exact c1)]
      have e3 : standW sd ly tr qq x (signL sec sd (adQ ly tr qq) x) = leafL sec sd (adQ ly tr qq) := by rw [standW, if_pos ⟨he.len, xl, sign_len _ _ _ _⟩, stand_sign]
      have l1 := sign_len sec sd (adQ ly tr qq) x
      have l2 := leaf_len sec sd (adQ ly tr qq)
      generalize signL sec sd (adQ ly tr qq) x = SG at e1 e3 l1
      generalize leafL sec sd (adQ ly tr qq) = LF at e2 e3 l2
      have HSG := Lib.hid (show ∀ X, Below w.heap.size w X → Calls Tryd.prog 15 #[.agg #[.slice As 32 cs, .slice Al 32 cl, .slice Ae 32 ce], .int .u32 (ly : Int), .int .u64 (tr : Int), .int .u32 (qq : Int), .slice At 32 ct] X (New X.heap.size X SG) from fun X hX => by
        have h9 := M.sign As 32 cs sec Al 32 cl salt Ae 32 ce sd ly tr qq At 32 ct x X (M.bel hk hX) (hs.below hX) (hl.below hX) (he.below hX) (hx.below hX) h1 h2 h3
        rw [e1] at h9
        exact h9)
      have HST := Lib.hid (show ∀ X A c, Below w.heap.size w X → Rd X A 2144 c SG → Calls Tryd.prog 17 #[.slice Ae 32 ce, .int .u32 (ly : Int), .int .u64 (tr : Int), .int .u32 (qq : Int), .slice At 32 ct, .slice A 2144 c] X (New X.heap.size X LF) from fun X A c hX h => by
        have h9 := M.stands Ae 32 ce sd ly tr qq At 32 ct x A 2144 c SG X (M.bel hk hX) (he.below hX) (hx.below hX) h h1 h2 h3
        rw [e3] at h9
        exact h9)
      have HLF := Lib.hid (show ∀ X, Below w.heap.size w X → Calls Tryd.prog 13 #[.agg #[.slice As 32 cs, .slice Al 32 cl, .slice Ae 32 ce], .int .u32 (ly : Int), .int .u64 (tr : Int), .int .u32 (qq : Int)] X (New X.heap.size X LF) from fun X hX => by
        have h9 := M.leaf As 32 cs sec Al 32 cl salt Ae 32 ce sd ly tr qq X (M.bel hk hX) (hs.below hX) (hl.below hX) (he.below hX) h1 h2 h3
        rw [e2] at h9
        exact h9)
      have L1 := Lib.hid l1
      have L2 := Lib.hid l2
      have hc := ht.cap
      have C1 : ∀ W, (Instr.slice 22 (.slice At nt ct) none (some (.int .i64 32)) none).run Tryd.prog W = .ok (.slice At 32 ct) W := fun W => run_cutSlH (m := 32) rfl (by omega) W
      have C2 : ∀ W, (Instr.sliceAt 22 (.slice At nt ct) none (some (.int .i64 32)) none).run Tryd.prog W = .ok (.slice At 32 ct) W := fun W => run_cutSlHAt (m := 32) rfl (by omega) W
      clear hk hs hl he ht hw0 hgs h1 h2 h3 c1 e1 e2 e3 l1 l2 hx hxx xl hc
      go_enter Tryd.func5, Tryd.ntmps5
      go_upto_region 1 with (fail)
      rw [HW.out, ← HGS.out]
      go_upto_region 3 with (go_at_call 8; ((with_reducible refine (HAW.out _ (M.bel HK.out B0.out)).mono ?_); rintro e w1 ⟨rfl, b1⟩; have B1 := Lib.hid (B0.out.trans (b1.mono B0.out.size)); have M1 := Lib.hid (M0.out.below b1 M0.out.lt); have k0 := M1.out.cell 0; have k1 := M1.out.cell 1; have k2 := M1.out.cell 2; have G1 := Lib.hid (G0.out.below b1 G0.out.lt); clear b1))
      simp only [List.getElem?_toArray, List.getElem?_cons_zero, List.getElem?_cons_succ] at k0 k1 k2
      go_upto_region 6 with (go_at_call 11; ((with_reducible refine (HMY.out _).mono ?_); rintro e w2 ⟨rfl, b2⟩; have B2 := Lib.hid (B1.out.trans (b2.mono B1.out.size)); have M2 := Lib.hid (M1.out.below b2 M1.out.lt); have G2 := Lib.hid (G1.out.below b2 G1.out.lt); obtain ⟨j0, j1, j2, j3⟩ := lf_cells G2.out; have m0 := M2.out.cell 0; have m1 := M2.out.cell 1; have m2 := M2.out.cell 2; simp only [List.getElem?_toArray, List.getElem?_cons_zero, List.getElem?_cons_succ] at m0 m1 m2; clear b2))
      go_upto_region 7 with (go_at_call 15; ((with_reducible refine (HSG.out _ B2.out).mono ?_); rintro e w3 ⟨A3, n3, c3, rfl, q3, b3⟩; obtain rfl : n3 = 2144 := (own_len q3).symm.trans L1.out; have F3 := Lib.hid (Rd.own q3); have B3 := Lib.hid (B2.out.trans (b3.mono B2.out.size)); have M3 := Lib.hid (M2.out.below b3 M2.out.lt); have G3 := Lib.hid (G2.out.below b3 G2.out.lt); obtain ⟨i0, i1, i2, i3⟩ := lf_cells G3.out; have l2 := M3.out.cell 2; simp only [List.getElem?_toArray, List.getElem?_cons_zero, List.getElem?_cons_succ] at l2; clear q3 b3))
      go_upto_region 8 with (go_at_call 17; ((with_reducible refine (HST.out _ A3 c3 B3.out F3.out).mono ?_); rintro e w4 ⟨A4, n4, c4, rfl, q4, b4⟩; obtain rfl : n4 = 32 := (own_len q4).symm.trans L2.out; have F4 := Lib.hid (Rd.own q4); have B4 := Lib.hid (B3.out.trans (b4.mono B3.out.size)); have M4 := Lib.hid (M3.out.below b4 M3.out.lt); have G4 := Lib.hid (G3.out.below b4 G3.out.lt); obtain ⟨p0, p1, p2, p3⟩ := lf_cells G4.out; have q0 := M4.out.cell 0; have q1 := M4.out.cell 1; have q2 := M4.out.cell 2; simp only [List.getElem?_toArray, List.getElem?_cons_zero, List.getElem?_cons_succ] at q0 q1 q2; clear q4 b4))
      go_wp2_with (first
        | (go_at_call 13; ((with_reducible refine (HLF.out _ B4.out).mono ?_); rintro e w5 ⟨A5, n5, c5, rfl, q5, b5⟩; obtain rfl : n5 = 32 := (own_len q5).symm.trans L2.out; have F5 := Lib.hid (Rd.own q5); have B5 := Lib.hid (B4.out.trans (b5.mono B4.out.size)); have E5 := Lib.hid (F4.out.below b5); clear q5 b5))
        | (go_at_call 12; ((with_reducible refine (rsame_true A4 A5 32 c4 32 c5 LF LF _ E5.out F5.out rfl).mono ?_); rintro e w6 ⟨rfl, b6⟩; have B6 := Lib.hid (B5.out.trans (b6.mono B5.out.size)); clear b6)))
      go_ret
      exact ⟨rfl, B6.out⟩
end Go.Proofs.YtnejepidbahjdaaDoor.S15
