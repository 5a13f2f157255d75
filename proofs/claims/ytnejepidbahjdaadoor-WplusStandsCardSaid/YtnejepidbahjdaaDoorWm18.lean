/-
  Texts put together: WpL4, Steady. No statement is proved here.
-/
import Derived.Test.YtnejepidbahjdaaDoorWm17
import Derived.Test.YtnejepidbahjdaaDoorRows
import Derived.StillTail
import Derived.Tactics
import Derived.WalkKit
import Derived.Deep.MidRow

/-
  The walk of layer 15's fourth statement. No statement is proved here. (Written by genwl4.py.)
-/
namespace Go.Proofs.YtnejepidbahjdaaDoor.S15
set_option linter.unusedSimpArgs false
set_option linter.unusedVariables false
set_option maxRecDepth 4096
open Go.RowKit

theorem bv_set_ (xs : List UInt8) (j : Nat) (x : UInt8) : (bv xs).set j (.int .u8 (x.toNat : Int)) = bv (xs.set j x) := by simp [bv, List.map_set]
set_option maxHeartbeats 4000000 in
theorem wplusAgain_walk (M : WC) (w : World) (hk : M.ok w) (As : Option Addr) (ns cs : Nat) (sec : List UInt8) (hs : Rd w As ns cs sec) (Al : Option Addr) (nl cl : Nat) (salt : List UInt8) (hl : Rd w Al nl cl salt) (Ae : Option Addr) (ne ce : Nat) (sd : List UInt8) (he : Rd w Ae ne ce sd) (ly tr qq : Nat) (h1 : ly < 4294967296) (h2 : tr < 18446744073709551616) (h3 : qq < 4294967296) (At : Option Addr) (nt ct : Nat) (text : List UInt8) (ht : Rd w At nt ct text) :
    Calls Tryd.prog 6 #[.agg (mkA As ns cs Al nl cl Ae ne ce), .agg (lfA ly tr qq At nt ct)] w fun e w' => e = .returned (.bool true) ∧ Below w.heap.size w w' := by
  obtain ⟨g, hgs⟩ : ∃ g, g = w.heap.size := ⟨_, rfl⟩
  obtain ⟨w0, hw0⟩ : ∃ w0, (w.alloc (.cells (mkA As ns cs Al nl cl Ae ne ce) 24)).alloc (.cells (lfA ly tr qq At nt ct) 28) = w0 := ⟨_, rfl⟩
  have M0 := Lib.hid (show Bk w0 g 24 (mkA As ns cs Al nl cl Ae ne ce) by rw [← hw0, hgs]; exact (Bk.new _ _ _).alloc _)
  have G0 := Lib.hid (show Bk w0 (g + 1) 28 (lfA ly tr qq At nt ct) by rw [← hw0, hgs]; exact Bk.newAt _ _ _ _ (by simp))
  have B0 := Lib.hid (show Below w.heap.size w w0 by rw [← hw0]; exact ((Below.refl _ _).alloc (Nat.le_refl _) _).alloc (by simp) _)
  have HW := Lib.hid hw0
  have HGS := Lib.hid hgs
  have HAW := Lib.hid (fun X g => awake_true M X g)
  have HK := Lib.hid hk
  have HMY := Lib.hid (show ∀ X, Calls Tryd.prog 11 #[.agg #[.slice As ns cs, .slice Al nl cl, .slice Ae ne ce]] X fun e w' => e = .returned (.bool (mayN ns nl ne)) ∧ Below X.heap.size X w' from fun X => rmay_any15 As ns cs Al nl cl Ae ne ce X)
  by_cases c1 : mayN ns nl ne = true
  case neg =>
    have c1 : mayN ns nl ne = false := by simpa using c1
    rw [c1] at HMY
    clear hk hs hl he ht hw0 hgs h1 h2 h3 c1
    go_enter Tryd.func6, Tryd.ntmps6
    go_upto_region 1 with (fail)
    rw [HW.out, ← HGS.out]
    go_upto_region 3 with (go_at_call 8; ((with_reducible refine (HAW.out _ (M.bel HK.out B0.out)).mono ?_); rintro e w1 ⟨rfl, b1⟩; have B1 := Lib.hid (B0.out.trans (b1.mono B0.out.size)); have k0 := (M0.out.below b1 M0.out.lt).cell 0; have k1 := (M0.out.below b1 M0.out.lt).cell 1; have k2 := (M0.out.below b1 M0.out.lt).cell 2; clear b1))
    simp only [List.getElem?_toArray, List.getElem?_cons_zero, List.getElem?_cons_succ] at k0 k1 k2
    go_wp2_with (go_at_call 11; ((with_reducible refine (HMY.out _).mono ?_); rintro e w2 ⟨rfl, b2⟩; have B2 := Lib.hid (B1.out.trans (b2.mono B1.out.size)); clear b2))
    go_ret
    exact ⟨rfl, B2.out⟩
  case pos =>
    rw [c1] at HMY
    obtain ⟨rfl, rfl, rfl⟩ := mayN_iff.1 c1
    by_cases c2 : nt < 32
    · have t2 : (nt : Int) < 32 := by omega
      clear hk hs hl he ht hw0 hgs h1 h2 h3 c1
      go_enter Tryd.func6, Tryd.ntmps6
      go_upto_region 1 with (fail)
      rw [HW.out, ← HGS.out]
      go_upto_region 3 with (go_at_call 8; ((with_reducible refine (HAW.out _ (M.bel HK.out B0.out)).mono ?_); rintro e w1 ⟨rfl, b1⟩; have B1 := Lib.hid (B0.out.trans (b1.mono B0.out.size)); have k0 := (M0.out.below b1 M0.out.lt).cell 0; have k1 := (M0.out.below b1 M0.out.lt).cell 1; have k2 := (M0.out.below b1 M0.out.lt).cell 2; have G1 := Lib.hid (G0.out.below b1 G0.out.lt); clear b1))
      simp only [List.getElem?_toArray, List.getElem?_cons_zero, List.getElem?_cons_succ] at k0 k1 k2
      go_wp2_with (go_at_call 11; ((with_reducible refine (HMY.out _).mono ?_); rintro e w2 ⟨rfl, b2⟩; have B2 := Lib.hid (B1.out.trans (b2.mono B1.out.size)); obtain ⟨j0, j1, j2, j3⟩ := lf_cells (G1.out.below b2 G1.out.lt); clear b2))
      go_ret
      exact ⟨rfl, B2.out⟩
    · have t2 : ¬ (nt : Int) < 32 := by omega
      have hx := ht.take (k := 32) (by omega)
      obtain ⟨x, hxx⟩ : ∃ x, x = text.take 32 := ⟨_, rfl⟩
      rw [← hxx] at hx
      have xl := hx.len
      have e1 : signW sec salt sd ly tr qq x = signL sec sd (adQ ly tr qq) x := by rw [signW, if_pos ⟨by rw [hs.len, hl.len, he.len]; exact c1, xl⟩]
      have e2 : leafW sec salt sd ly tr qq = leafL sec sd (adQ ly tr qq) := by rw [leafW, if_pos (by rw [hs.len, hl.len, he.len]; exact c1)]
      have e3 : standW sd ly tr qq x (signL sec sd (adQ ly tr qq) x) = leafL sec sd (adQ ly tr qq) := by rw [standW, if_pos ⟨he.len, xl, sign_len _ _ _ _⟩, stand_sign]
      have l1 := sign_len sec sd (adQ ly tr qq) x
      have l2 := leaf_len sec sd (adQ ly tr qq)
      generalize signL sec sd (adQ ly tr qq) x = SG at e1 e3 l1
      generalize leafL sec sd (adQ ly tr qq) = LF at e2 e3 l2
      have HSG := Lib.hid (show ∀ X, Below w.heap.size w X → Calls Tryd.prog 15 #[.agg #[.slice As 32 cs, .slice Al 32 cl, .slice Ae 32 ce], .int .u32 (ly : Int), .int .u64 (tr : Int), .int .u32 (qq : Int), .slice At 32 ct] X (New X.heap.size X SG) from fun X hX => by
        have h9 := M.sign As 32 cs sec Al 32 cl salt Ae 32 ce sd ly tr qq At 32 ct x X (M.bel hk hX) (hs.below hX) (hl.below hX) (he.below hX) (hx.below hX) h1 h2 h3
        rw [e1] at h9
        exact h9)
      have HST := Lib.hid (show ∀ X A c, Below w.heap.size w X → Rd X A 2144 c SG → Calls Tryd.prog 17 #[.slice Ae 32 ce, .int .u32 (ly : Int), .int .u64 (tr : Int), .int .u32 (qq : Int), .slice At 32 ct, .slice A 2144 c] X (New X.heap.size X LF) from fun X A c hX h => by
        have h9 := M.stands Ae 32 ce sd ly tr qq At 32 ct x A 2144 c SG X (M.bel hk hX) (he.below hX) (hx.below hX) h h1 h2 h3
        rw [e3] at h9
        exact h9)
      have HLF := Lib.hid (show ∀ X, Below w.heap.size w X → Calls Tryd.prog 13 #[.agg #[.slice As 32 cs, .slice Al 32 cl, .slice Ae 32 ce], .int .u32 (ly : Int), .int .u64 (tr : Int), .int .u32 (qq : Int)] X (New X.heap.size X LF) from fun X hX => by
        have h9 := M.leaf As 32 cs sec Al 32 cl salt Ae 32 ce sd ly tr qq X (M.bel hk hX) (hs.below hX) (hl.below hX) (he.below hX) h1 h2 h3
        rw [e2] at h9
        exact h9)
      have L1 := Lib.hid l1
      have L2 := Lib.hid l2
      have hc := ht.cap
      have C1 : ∀ W, (Instr.slice 22 (.slice At nt ct) none (some (.int .i64 32)) none).run Tryd.prog W = .ok (.slice At 32 ct) W := fun W => run_cutSlH (m := 32) rfl (by omega) W
      have C2 : ∀ W, (Instr.sliceAt 22 (.slice At nt ct) none (some (.int .i64 32)) none).run Tryd.prog W = .ok (.slice At 32 ct) W := fun W => run_cutSlHAt (m := 32) rfl (by omega) W
      clear hk hs hl he ht hw0 hgs h1 h2 h3 c1 e1 e2 e3 l1 l2 hx hxx xl hc
      go_enter Tryd.func6, Tryd.ntmps6
      go_upto_region 1 with (fail)
      rw [HW.out, ← HGS.out]
      go_upto_region 3 with (go_at_call 8; ((with_reducible refine (HAW.out _ (M.bel HK.out B0.out)).mono ?_); rintro e w1 ⟨rfl, b1⟩; have B1 := Lib.hid (B0.out.trans (b1.mono B0.out.size)); have M1 := Lib.hid (M0.out.below b1 M0.out.lt); have k0 := M1.out.cell 0; have k1 := M1.out.cell 1; have k2 := M1.out.cell 2; have G1 := Lib.hid (G0.out.below b1 G0.out.lt); clear b1))
      simp only [List.getElem?_toArray, List.getElem?_cons_zero, List.getElem?_cons_succ] at k0 k1 k2
      clear k0 k1 k2
      obtain ⟨k0, k1, k2, k3, k4, k5, k6⟩ := keep7 M1.out G1.out
      go_upto_region 6 with (go_at_call 11; ((with_reducible refine (HMY.out _).mono ?_); rintro e w2 ⟨rfl, b2⟩; have B2 := Lib.hid (B1.out.trans (b2.mono B1.out.size)); have M2 := Lib.hid (M1.out.below b2 M1.out.lt); have G2 := Lib.hid (G1.out.below b2 G1.out.lt); clear k0 k1 k2 k3 k4 k5 k6; obtain ⟨k0, k1, k2, k3, k4, k5, k6⟩ := keep7 M2.out G2.out; clear b2))
      have KP := Lib.hid (show ∀ w', Below w2.heap.size w2 w' → w'.cell? ⟨g, 0, none⟩ = some (.slice As 32 cs) ∧ w'.cell? ⟨g, 1, none⟩ = some (.slice Al 32 cl) ∧ w'.cell? ⟨g, 2, none⟩ = some (.slice Ae 32 ce) ∧ w'.cell? ⟨g + 1, 0, none⟩ = some (.int .u32 (ly : Int)) ∧ w'.cell? ⟨g + 1, 1, none⟩ = some (.int .u64 (tr : Int)) ∧ w'.cell? ⟨g + 1, 2, none⟩ = some (.int .u32 (qq : Int)) ∧ w'.cell? ⟨g + 1, 3, none⟩ = some (.slice At nt ct) from fun w' hw' => keep7 (M2.out.below hw' M2.out.lt) (G2.out.below hw' G2.out.lt))
      have BB := Lib.hid (show ∀ w', Below w2.heap.size w2 w' → Below w.heap.size w w' from fun w' hw' => B2.out.trans (hw'.mono B2.out.size))
      go_upto_region 7 with (go_at_call 15; ((with_reducible refine (HSG.out _ B2.out).mono ?_); rintro e w3 ⟨A3, n3, c3, rfl, q3, b3⟩; obtain rfl : n3 = 2144 := (own_len q3).symm.trans L1.out; have O3 := Lib.hid q3; have X3 := Lib.hid b3; clear k0 k1 k2 k3 k4 k5 k6; obtain ⟨k0, k1, k2, k3, k4, k5, k6⟩ := KP.out _ X3.out; clear q3 b3))
      go_upto_region 8 with (go_at_call 13; ((with_reducible refine (HLF.out _ (BB.out _ X3.out)).mono ?_); rintro e w4 ⟨A4, n4, c4, rfl, q4, b4⟩; obtain rfl : n4 = 32 := (own_len q4).symm.trans L2.out; have O4 := Lib.hid q4; have Y4 := Lib.hid b4; have X4 := Lib.hid (X3.out.trans (b4.mono X3.out.size)); clear k0 k1 k2 k3 k4 k5 k6; obtain ⟨k0, k1, k2, k3, k4, k5, k6⟩ := KP.out _ X4.out; clear q4 b4))
      have P3 := Lib.hid (own_below O3.out Y4.out)
      have E4 := Lib.hid (S2.own_empty w4 w4.heap.size (Nat.le_refl _))
      go_upto_region 9 with (at_builtin; refine append_rd rfl (.tmp 44) (.tmp 45) rfl w4.heap.size _ 0 [] rfl E4.out A3 2144 c3 SG rfl ((Rd.own P3.out).alloc _) (by omega) (by simp) ?_; intro v5 w5 o5 g5; have O5 := Lib.hid o5; have Y5 := Lib.hid (show Below w4.heap.size w4 w5 from ((Below.refl _ _).alloc (Nat.le_refl _) (.cells #[] 5)).grown g5 (by simp) (fun q hq => (E4.out.lt q hq).1)); clear o5 g5)
      obtain ⟨A5, c5, rfl⟩ := own_form O5.out
      have P5 := Lib.hid (own_n O5.out)
      simp only [Nat.zero_add]
      have X5 := Lib.hid (X4.out.trans (Y5.out.mono X4.out.size))
      have Q3 := Lib.hid (own_below P3.out Y5.out)
      have Q4 := Lib.hid (own_below O4.out Y5.out)
      clear k0 k1 k2 k3 k4 k5 k6
      obtain ⟨k0, k1, k2, k3, k4, k5, k6⟩ := KP.out _ X5.out
      have E5 := Lib.hid (S2.own_empty w5 w5.heap.size (Nat.le_refl _))
      go_upto_region 10 with (at_builtin; refine append_rd rfl (.tmp 47) (.tmp 48) rfl w5.heap.size _ 0 [] rfl E5.out A4 32 c4 LF rfl ((Rd.own Q4.out).alloc _) (by omega) (by simp) ?_; intro v6 w6 o6 g6; have O6 := Lib.hid o6; have Y6 := Lib.hid (show Below w5.heap.size w5 w6 from ((Below.refl _ _).alloc (Nat.le_refl _) (.cells #[] 5)).grown g6 (by simp) (fun q hq => (E5.out.lt q hq).1)); clear o6 g6)
      obtain ⟨A6, c6, rfl⟩ := own_form O6.out
      have P6 := Lib.hid (own_n O6.out)
      simp only [Nat.zero_add]
      have X6 := Lib.hid (X5.out.trans (Y6.out.mono X5.out.size))
      have R3 := Lib.hid (own_below Q3.out Y6.out)
      have R4 := Lib.hid (own_below Q4.out Y6.out)
      have R5 := Lib.hid (own_below P5.out Y6.out)
      have HS := Lib.hid (show w2.heap.size ≤ w3.heap.size ∧ w3.heap.size ≤ w4.heap.size ∧ w4.heap.size ≤ w5.heap.size from ⟨X3.out.size, Y4.out.size, Y5.out.size⟩)
      obtain ⟨b3, cap3, hv3, hb3, hlt3⟩ := O3.out.form (by decide)
      injection hv3 with hA3 _ hc3
      subst hA3
      obtain ⟨b4, cap4, hv4, hb4, hlt4⟩ := O4.out.form (by decide)
      injection hv4 with hA4 _ hc4
      subst hA4
      have H3 := Lib.hid (And.intro hb3 hlt3)
      have H4 := Lib.hid (And.intro hb4 hlt4)
      clear hc3 hc4 hb3 hlt3 hb4 hlt4 k0 k1 k2 k3 k4 k5 k6
      go_wp2_with (fail)
      go_loopw [10] (fun i wr => ∃ (k : Nat) (zs : List UInt8), k ≤ 2144 ∧ i = .int .i64 (k : Int) ∧ wr.ownsRow w2.heap.size 5 1 (.slice (some ⟨b3, 0, none⟩) 2144 c3) 2144 (bv zs) ∧ wr.ownsRow w3.heap.size 5 1 (.slice (some ⟨b4, 0, none⟩) 32 c4) 32 (bv LF) ∧ wr.ownsRow w4.heap.size 5 1 (.slice A5 2144 c5) 2144 (bv SG) ∧ wr.ownsRow w5.heap.size 5 1 (.slice A6 32 c6) 32 (bv LF) ∧ Below w2.heap.size w2 wr) (fun i _ => 2144 - (intOf i).toNat)
      case atStart => exact ⟨0, SG, by omega, rfl, R3.out, R4.out, R5.out, P6.out, X6.out⟩
      case round =>
        obtain ⟨j, zs, hj, rfl, h3, h4, h5, h6, hB⟩ := hrel
        by_cases hlt : j < 2144
        · have zl := own_len h3
          have hc := h3.cellAt j (by omega)
          have hf := h3.frozenAt j
          have hs := h3.stored j
          rw [bv_at _ _ (by omega)] at hc
          have hinc := u8_inc (zs[j]'(by omega))
          obtain ⟨z, hz⟩ : ∃ z, z = zs[j]'(by omega) := ⟨_, rfl⟩
          rw [← hz] at hc hinc
          have t0 : (j : Int) < 2144 := by omega
          have t1 : (0 : Int) ≤ (j : Int) := by omega
          have F3 := Lib.hid (fun v => (hs v).1)
          have F4 := Lib.hid h4
          have F5 := Lib.hid h5
          have F6 := Lib.hid h6
          have FB := Lib.hid hB
          clear hz zl h3 h4 h5 h6 hB hs
          go_wp2
          clear hinc
          go_roundw
          case rel =>
            have q1 := H3.out
            have q2 := HS.out
            exact ⟨j + 1, zs.set j (z + 1), by omega, by go_num, by rw [← bv_set_]; exact F3.out _, ownsRow_setCell_below F4.out (by show b3 < _; omega) _, ownsRow_setCell_below F5.out (by show b3 < _; omega) _, ownsRow_setCell_below F6.out (by show b3 < _; omega) _, FB.out.setCell (by show _ ≤ b3; omega) _⟩
          case measure => simp [intOf]; omega
        · obtain rfl : j = 2144 := by omega
          clear hlt hj h3
          have F4 := Lib.hid h4
          have F5 := Lib.hid h5
          have F6 := Lib.hid h6
          have FB := Lib.hid hB
          clear h4 h5 h6 hB
          go_wp2_with (fail)
          obtain ⟨wo, hwo⟩ : ∃ wo : World, wo = wr := ⟨_, rfl⟩
          rw [← hwo] at F4 F5 F6 FB ⊢
          clear hwo
          go_loopw [11] (fun i wr => ∃ (k : Nat) (zs : List UInt8), k ≤ 32 ∧ i = .int .i64 (k : Int) ∧ wr.ownsRow w3.heap.size 5 1 (.slice (some ⟨b4, 0, none⟩) 32 c4) 32 (bv zs) ∧ wr.ownsRow w4.heap.size 5 1 (.slice A5 2144 c5) 2144 (bv SG) ∧ wr.ownsRow w5.heap.size 5 1 (.slice A6 32 c6) 32 (bv LF) ∧ Below w2.heap.size w2 wr) (fun i _ => 32 - (intOf i).toNat)
          case atStart => exact ⟨0, LF, by omega, rfl, F4.out, F5.out, F6.out, FB.out⟩
          case round =>
            clear F4 F5 F6 FB
            obtain ⟨j, zs, hj, rfl, h4, h5, h6, hB⟩ := hrel
            by_cases hlt : j < 32
            · have zl := own_len h4
              have hc := h4.cellAt j (by omega)
              have hf := h4.frozenAt j
              have hs := h4.stored j
              rw [bv_at _ _ (by omega)] at hc
              have hinc := u8_inc (zs[j]'(by omega))
              obtain ⟨z, hz⟩ : ∃ z, z = zs[j]'(by omega) := ⟨_, rfl⟩
              rw [← hz] at hc hinc
              have t0 : (j : Int) < 32 := by omega
              have t1 : (0 : Int) ≤ (j : Int) := by omega
              have F4 := Lib.hid (fun v => (hs v).1)
              have F5 := Lib.hid h5
              have F6 := Lib.hid h6
              have FB := Lib.hid hB
              clear hz zl h4 h5 h6 hB hs
              go_wp2
              clear hinc
              go_roundw
              case rel =>
                have q1 := H4.out
                have q2 := HS.out
                exact ⟨j + 1, zs.set j (z + 1), by omega, by go_num, by rw [← bv_set_]; exact F4.out _, ownsRow_setCell_below F5.out (by show b4 < _; omega) _, ownsRow_setCell_below F6.out (by show b4 < _; omega) _, FB.out.setCell (by show _ ≤ b4; omega) _⟩
              case measure => simp [intOf]; omega
            · obtain rfl : j = 32 := by omega
              clear hlt hj h4
              have F5 := Lib.hid (Rd.own h5)
              have F6 := Lib.hid (Rd.own h6)
              have FB := Lib.hid hB
              clear h5 h6 hB
              obtain ⟨k0, k1, k2, k3, k4, k5, k6⟩ := KP.out _ FB.out
              go_wp2_with (first
                | (go_at_call 17; ((with_reducible refine (HST.out _ A5 c5 (BB.out _ FB.out) F5.out).mono ?_); rintro e w7 ⟨A7, n7, c7, rfl, q7, b7⟩; obtain rfl : n7 = 32 := (own_len q7).symm.trans L2.out; have O7 := Lib.hid (Rd.own q7); have X7 := Lib.hid (FB.out.trans (b7.mono FB.out.size)); have F57 := Lib.hid (F5.out.below b7); have F67 := Lib.hid (F6.out.below b7); clear k0 k1 k2 k3 k4 k5 k6; obtain ⟨k0, k1, k2, k3, k4, k5, k6⟩ := KP.out _ X7.out; clear q7 b7))
                | (go_at_call 15; ((with_reducible refine (HSG.out _ (BB.out _ X7.out)).mono ?_); rintro e w8 ⟨A8, n8, c8, rfl, q8, b8⟩; obtain rfl : n8 = 2144 := (own_len q8).symm.trans L1.out; have O8 := Lib.hid (Rd.own q8); have X8 := Lib.hid (X7.out.trans (b8.mono X7.out.size)); have F58 := Lib.hid (F57.out.below b8); have F68 := Lib.hid (F67.out.below b8); have O78 := Lib.hid (O7.out.below b8); clear k0 k1 k2 k3 k4 k5 k6; obtain ⟨k0, k1, k2, k3, k4, k5, k6⟩ := KP.out _ X8.out; clear q8 b8))
                | (go_at_call 12; ((with_reducible refine (rsame_true A8 A5 2144 c8 2144 c5 SG SG _ O8.out F58.out rfl).mono ?_); rintro e w9 ⟨rfl, b9⟩; have X9 := Lib.hid (X8.out.trans (b9.mono X8.out.size)); have F69 := Lib.hid (F68.out.below b9); have O79 := Lib.hid (O78.out.below b9); clear k0 k1 k2 k3 k4 k5 k6; obtain ⟨k0, k1, k2, k3, k4, k5, k6⟩ := KP.out _ X9.out; clear b9))
                | (go_at_call 13; ((with_reducible refine (HLF.out _ (BB.out _ X9.out)).mono ?_); rintro e w10 ⟨A10, n10, c10, rfl, q10, b10⟩; obtain rfl : n10 = 32 := (own_len q10).symm.trans L2.out; have O10 := Lib.hid (Rd.own q10); have X10 := Lib.hid (X9.out.trans (b10.mono X9.out.size)); have F610 := Lib.hid (F69.out.below b10); have O710 := Lib.hid (O79.out.below b10); clear q10 b10))
                | (go_at_call 12; ((with_reducible refine (rsame_true A10 A6 32 c10 32 c6 LF LF _ O10.out F610.out rfl).mono ?_); rintro e w11 ⟨rfl, b11⟩; have X11 := Lib.hid (X10.out.trans (b11.mono X10.out.size)); have F611 := Lib.hid (F610.out.below b11); have O711 := Lib.hid (O710.out.below b11); clear b11))
                | (go_at_call 12; ((with_reducible refine (rsame_true A7 A6 32 c7 32 c6 LF LF _ O711.out F611.out rfl).mono ?_); rintro e w12 ⟨rfl, b12⟩; have X12 := Lib.hid (X11.out.trans (b12.mono X11.out.size)); clear b12)))
              go_ret
              exact ⟨rfl, BB.out _ X12.out⟩
end Go.Proofs.YtnejepidbahjdaaDoor.S15

/-
  A region that draws its order, each of whose operations gives the same value in every world that meets S, and leaves one that does: it may be gone through in the text's order, once. No statement is proved here.
-/
namespace Go.Proofs.YtnejepidbahjdaaDoor
set_option linter.unusedSimpArgs false
set_option linter.unusedVariables false
set_option maxRecDepth 1024

section
variable {P : Program} {ops : Array Oper} {md : Region.Mode} {S : World → Prop} {F : Act → Prop}

def gives (P : Program) (o : Oper) (a : Act) (w : World) (R : Value → World → Prop) : Prop :=
  match (execOp a.eval o).run P w with
  | .ok (.value v) w' => R v w'
  | .ok .skip w' => R undef w'
  | .ok (.enter f args) w' => Calls P f args w' fun e w'' => ∃ v, e = .returned v ∧ R v w''
  | _ => False
theorem gives_wp {o : Oper} {a : Act} {w : World} {R : Value → World → Prop} {K : Act → World → Prop} {Q : Exit → Act → World → Prop} (h : gives P o a w R) (hk : ∀ v w', R v w' → K (a.put o.dst v) w') : o.wp P a w K Q := by
  unfold gives at h
  unfold Oper.wp
  generalize (execOp a.eval o).run P w = r at *
  cases r with
  | ok n w' =>
    cases n <;> simp only [Oper.upon] at h ⊢ <;> try exact h.elim
    case value v => exact hk _ _ h
    case skip => exact hk _ _ h
    case enter f args =>
      refine h.mono ?_
      rintro e w'' ⟨v, rfl, hr⟩
      exact hk _ _ hr
  | halt x w' => exact h.elim
theorem gives_same {o : Oper} {a a' : Act} {w : World} {R : Value → World → Prop} (e : execOp a'.eval o = execOp a.eval o) (h : gives P o a w R) : gives P o a' w R := by
  unfold gives at *
  rw [e]
  exact h
def Stp (P : Program) (ops : Array Oper) (S : World → Prop) (o : Oper) (v : Value) (a : Act) : Prop :=
  (Region.wanted o (yielded ops a.tmps) = true ∧ ∀ w, S w → gives P o a w (fun u w' => u = v ∧ S w')) ∨ (Region.wanted o (yielded ops a.tmps) = false ∧ v = undef)
theorem Stp.same {o : Oper} {v : Value} {a a' : Act} (h : Stp P ops S o v a) (e : execOp a'.eval o = execOp a.eval o) (hw : Region.wanted o (yielded ops a'.tmps) = Region.wanted o (yielded ops a.tmps)) : Stp P ops S o v a' := by
  rcases h with ⟨h1, h2⟩ | ⟨h1, h2⟩
  · exact .inl ⟨by rw [hw]; exact h1, fun w hS => gives_same e (h2 w hS)⟩
  · exact .inr ⟨by rw [hw]; exact h1, h2⟩
def anyS (P : Program) (md : Region.Mode) (ops : Array Oper) (S : World → Prop) (F : Act → Prop) : Nat → Array Bool → Act → Prop
  | 0, listed, a => Region.ready md ops listed = [] ∧ F a
  | f + 1, listed, a => Region.ready md ops listed ≠ [] ∧ ∀ i ∈ Region.ready md ops listed, ∃ (oi : Oper) (v : Value), ops[i]? = some oi ∧ Stp P ops S oi v a ∧ anyS P md ops S F f (listed.setIfInBounds i true) (a.put oi.dst v)
theorem wpAny_of_anyS {Q : Exit → Act → World → Prop} (hF : ∀ a, F a → ∀ w, S w → Q .normal a w) : ∀ (f : Nat) (listed : Array Bool) (a : Act), anyS P md ops S F f listed a → ∀ w, S w → wpAny P md ops Q f listed a w
  | 0, listed, a, h, w, hS => ⟨h.1, hF a h.2 w hS⟩
  | f + 1, listed, a, h, w, hS => by
    refine ⟨fun h0 => absurd h0 h.1, fun i hi => ?_⟩
    obtain ⟨oi, v, ho, hs, hn⟩ := h.2 i hi
    unfold wpOp
    simp only [ho]
    rcases hs with ⟨hw, hg⟩ | ⟨hw, hv⟩
    · simp only [hw, if_true]
      refine .inl (gives_wp (hg w hS) ?_)
      rintro u w' ⟨rfl, hS'⟩
      exact wpAny_of_anyS hF f _ _ hn w' hS'
    · simp only [hw, Bool.false_eq_true, if_false]
      rw [← hv]
      exact wpAny_of_anyS hF f _ _ hn w hS
theorem anyS_first {i : Nat} {oi : Oper} {v : Value} (hi : ops[i]? = some oi) (hsel : ∀ (j : Nat) (o : Oper) cs b, ops[j]? = some o → o.op ≠ .select cs b) :
    ∀ (f : Nat) (listed : Array Bool) (a : Act),
      (∀ j oj, ops[j]? = some oj → j ≠ i → listed.getD j true = false → (∀ e ∈ oj.after, Region.binds md e = true → e.on ≠ i) → oi.apart ops oj = true) →
      i ∈ Region.ready md ops listed → Stp P ops S oi v a → anyS P md ops S F f (listed.setIfInBounds i true) (a.put oi.dst v) → anyS P md ops S F (f + 1) listed a := by
  intro f
  induction f with
  | zero =>
    intro listed a hap hr hs H
    refine ⟨fun h => (by rw [h] at hr; cases hr), fun j hj => ?_⟩
    by_cases hji : j = i
    · subst hji; exact ⟨oi, v, hi, hs, H⟩
    · have := ready_mono hj hji
      rw [H.1] at this
      cases this
  | succ f ih =>
    intro listed a hap hr hs H
    refine ⟨fun h => (by rw [h] at hr; cases hr), fun j hj => ?_⟩
    by_cases hji : j = i
    · subst hji; exact ⟨oi, v, hi, hs, H⟩
    · obtain ⟨oj, u, hoj, hsu, Hn⟩ := H.2 j (ready_mono hj hji)
      obtain ⟨hjun, oj', hoj', hall⟩ := mem_ready.1 hj
      have : oj' = oj := Option.some.inj (hoj'.symm.trans hoj)
      subst this
      have hiun := (mem_ready.1 hr).1
      have hwait : ∀ e ∈ oj'.after, Region.binds md e = true → e.on ≠ i := fun e he hb heq => by
        have := hall e he hb
        rw [heq, getD_both hiun] at this
        cases this
      obtain ⟨a1, a2, a3⟩ := Oper.apart_spec (hap j oj' hoj hji hjun hwait)
      refine ⟨oj', u, hoj, hsu.same (execOp_put oj' (fun cs b => hsel j oj' cs b hoj) a oi.dst v a1).symm (wanted_put oj' a oi.dst v a1).symm, ?_⟩
      refine ih _ _ (fun k ok hok hki hkun hkw => hap k ok hok hki ?_ hkw) (ready_mono hr (Ne.symm hji)) (hs.same (execOp_put oi (fun cs b => hsel i oi cs b hi) a oj'.dst u a3) (wanted_put oi a oj'.dst u a3)) ?_
      · by_cases hkj : j = k
        · subst hkj
          exact hjun
        · rwa [getD_set_ne true hkj] at hkun
      · rw [Array.setIfInBounds_comm _ _ hji, ← Act.put_comm a v u a2]
        exact Hn
def Seq (P : Program) (ops : Array Oper) (S : World → Prop) (F : Act → Prop) : List Oper → Act → Prop
  | [], a => F a
  | o :: l, a => ∃ v, Stp P ops S o v a ∧ Seq P ops S F l (a.put o.dst v)
def lexAll (md : Region.Mode) (ops : Array Oper) : Nat → Nat → Array Bool → Bool
  | 0, _, listed => (Region.ready md ops listed).isEmpty
  | f + 1, k, listed => (Region.ready md ops listed).contains k && Region.free md ops listed k && lexAll md ops f (k + 1) (listed.setIfInBounds k true)
theorem anyS_of_seq (hsel : Region.noSelect ops = true) : ∀ (l : List Oper) (k : Nat) (listed : Array Bool) (a : Act), (∀ j, j < l.length → l[j]? = ops[k + j]?) → lexAll md ops l.length k listed = true → Seq P ops S F l a → anyS P md ops S F l.length listed a
  | [], k, listed, a, _, hB, h => ⟨by simpa [lexAll] using hB, h⟩
  | o :: l, k, listed, a, hl, hB, h => by
    have h0 : ops[k]? = some o := by simpa using (hl 0 (by simp)).symm
    simp only [List.length_cons, lexAll, Bool.and_eq_true] at hB
    obtain ⟨⟨hr, hf⟩, hB'⟩ := hB
    obtain ⟨v, hs, hn⟩ := h
    exact anyS_first h0 (Region.noSelect_spec hsel) l.length listed a (Region.free_spec h0 hf) (by simpa using hr) hs
      (anyS_of_seq hsel l (k + 1) _ _ (fun j hj => by have := hl (j + 1) (by simp; omega); simpa [Nat.add_assoc, Nat.add_comm 1 j] using this) hB' hn)
def steadyB (ops : Array Oper) : Bool := Region.noSelect ops && lexAll .any ops ops.size 0 (Array.replicate ops.size false)
theorem wp_region_steady (S : World → Prop) {id : Nat} {Q : Exit → Act → World → Prop} {a : Act} {w : World} {l : List Oper} (hm : P.follows .mixedOrders = true) (hB : steadyB l.toArray = true) (hS : S w.drew)
    (h : Seq P l.toArray S (fun a' => ∀ w', S w' → Q .normal a' w') l a) : (Code.region id l.toArray true).wp P Q a w := by
  simp only [steadyB, Bool.and_eq_true] at hB
  refine wp_region_any hm ?_
  exact wpAny_of_anyS (F := fun a' => ∀ w', S w' → Q .normal a' w') (fun a hF w hS => hF w hS) l.length _ _ (anyS_of_seq hB.1 l 0 _ _ (fun j _ => by simp) (by simpa using hB.2) h) _ hS

theorem seq_nil {a : Act} (h : F a) : Seq P ops S F [] a := h
/-- An operation that leaves the world as it is. -/
theorem seq_pure {o : Oper} {l : List Oper} {a : Act} (v : Value) (hw : Region.wanted o (yielded ops a.tmps) = true) (hx : ∀ w, S w → (execOp a.eval o).run P w = .ok (.value v) w) (h : Seq P ops S F l (a.put o.dst v)) : Seq P ops S F (o :: l) a :=
  ⟨v, .inl ⟨hw, fun w hS => by unfold gives; rw [hx w hS]; exact ⟨rfl, hS⟩⟩, h⟩
theorem seq_skip {o : Oper} {l : List Oper} {a : Act} (hw : Region.wanted o (yielded ops a.tmps) = false) (h : Seq P ops S F l (a.put o.dst undef)) : Seq P ops S F (o :: l) a := ⟨undef, .inr ⟨hw, rfl⟩, h⟩
/-- A call whose answer hangs on no world. -/
theorem seq_call {o : Oper} {l : List Oper} {a : Act} {f : FuncId} {args : Array Value} (v : Value) (hw : Region.wanted o (yielded ops a.tmps) = true) (hx : ∀ w, S w → (execOp a.eval o).run P w = .ok (.enter f args) w)
    (hc : ∀ w, S w → Calls P f args w fun e w' => e = .returned v ∧ S w') (h : Seq P ops S F l (a.put o.dst v)) : Seq P ops S F (o :: l) a :=
  ⟨v, .inl ⟨hw, fun w hS => by unfold gives; rw [hx w hS]; exact (hc w hS).mono fun e w' ⟨h1, h2⟩ => ⟨v, h1, rfl, h2⟩⟩, h⟩
/-- A load of a long array. -/
theorem seq_load {o : Oper} {l : List Oper} {a : Act} (hw : Region.wanted o (yielded ops a.tmps) = true) (ty : TypeId) (x : Operand) (ho : o.op = .load ty x)
    (b off : Nat) (hx : a.eval x = .pointer (some ⟨b, off, none⟩)) (cs : List Value) (d : TypeDesc) (hc : ∀ w, S w → w.rangeAt b off cs)
    (hu : P.underlying ty = some d) (hd : d.isRow = true) (hi : (P.info? ty).map (·.size) = some cs.length)
    (h : Seq P ops S F l (a.put o.dst (.agg cs.toArray))) : Seq P ops S F (o :: l) a :=
  seq_pure _ hw (fun w hS => by
    unfold execOp
    simp only [ho, hx, Instr.loadAt, Instr.sureAddr, Sem.run_bind, Sem.run_pure, Result.andThen_ok, run_loadVar_mid w b off ty cs d (hc w hS) hu hd hi]) h
end
end Go.Proofs.YtnejepidbahjdaaDoor
