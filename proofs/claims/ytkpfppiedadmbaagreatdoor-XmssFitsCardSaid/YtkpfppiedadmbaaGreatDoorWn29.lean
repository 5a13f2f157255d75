/-
  Texts put together: Xm8, Xm9. No statement is proved here.
-/
import Derived.Test.YtkpfppiedadmbaaGreatDoorWn26
import Derived.Test.YtkpfppiedadmbaaGreatDoorWn28

/-
  The landed package xmss: the sums of a tree. No statement is proved here.
-/
namespace Go.Proofs.YtkpfppiedadmbaaGreatDoor.S16
set_option linter.unusedSimpArgs false
set_option linter.unusedVariables false
set_option maxRecDepth 1024
open Go.RowKit S15

theorem Tryz.infoRows2 : (Tryz.prog.info? 61).map (fun i => (i.zero, i.size, i.bytes)) = some (some (.slice none 0 0), 1, 24) := by kernel_rfl
/-- A tree in new memory. -/
def GivesT (sec sd : List UInt8) (ly tr k : Nat) (w : World) (e : Ending) (w' : World) : Prop := ∃ A c, e = .returned (.slice A (k + 1) c) ∧ Sl (treeE sec sd ly tr k) w' (fun b => w.heap.size ≤ b) A (k + 1) c ∧ Below w.heap.size w w'
theorem own_lit1 (w : World) (B : Nat) (T : TypeId) (v : Value) (hB : B ≤ w.heap.size) : (w.alloc (.cells #[v] T)).ownsRow B T 1 (.slice (some ⟨w.heap.size, 0, none⟩) 1 1) 1 [v] :=
  ⟨rfl, .inr ⟨w.heap.size, 1, #[v], rfl, hB, heap_alloc_new w _, Nat.le_refl _, by simp [maxLen], rfl, rfl⟩⟩
theorem treeE_mk {sec sd : List UInt8} {ly tr k g n c : Nat} {A : Option Addr} {w : World} {S : Nat → Prop} (h : Sl (hE sec sd ly tr g) w S A n c) (hn : n = 2 ^ (k - g)) : treeE sec sd ly tr k w S g (.slice A n c) := by
  subst hn
  exact ⟨A, c, rfl, h⟩
theorem get_some {vs : List Value} {q n : Nat} (h : vs.length = n) (hq : q < n) : ∃ v, vs[q]? = some v := ⟨_, List.getElem?_eq_getElem (by omega)⟩
set_option maxHeartbeats 4000000 in
theorem grow_core (sec sd : List UInt8) (l k ly tr : Nat) (hk1 : k ≤ 6) (As : Option Addr) (cs : Nat) (Al : Option Addr) (cl : Nat) (Ae : Option Addr) (ce : Nat) (w : World)
    (leaf : ∀ (X : World) (q : Nat), Below w.heap.size w X → q < 64 → Calls Tryz.prog 54 #[.agg #[.slice As 32 cs, .slice Al 32 cl, .slice Ae 32 ce], .int .u32 (ly : Int), .int .u64 (tr : Int), .int .u32 (q : Int)] X (New X.heap.size X (sumT sec sd ly tr 0 q)))
    (place : ∀ (X : World) (j q : Nat), j < 7 → Calls Tryz.prog 56 #[.int .u32 (ly : Int), .int .u64 (tr : Int), .int .i64 (j : Int), .int .u32 (q : Int)] X fun e w' => e = .returned (adV (adT ly tr j q)) ∧ Below X.heap.size X w')
    (join : ∀ (X : World) (j q : Nat) (A1 : Option Addr) (c1 : Nat) (A2 : Option Addr) (c2 : Nat), Below w.heap.size w X → j < 7 → q < 64 → Rd X A1 32 c1 (sumT sec sd ly tr j (2 * q)) → Rd X A2 32 c2 (sumT sec sd ly tr j (2 * q + 1)) → Calls Tryz.prog 55 #[.slice Ae 32 ce, adV (adT ly tr j q), .slice A1 32 c1, .slice A2 32 c2] X (New X.heap.size X (sumT sec sd ly tr (j + 1) q))) :
    Calls Tryz.prog 22 #[.agg (shA l k), .agg (mkA As 32 cs Al 32 cl Ae 32 ce), .int .u32 (ly : Int), .int .u64 (tr : Int)] w (GivesT sec sd ly tr k w) := by
  have LF := Lib.hid leaf
  have SP := Lib.hid place
  have HH := Lib.hid join
  clear leaf place join
  obtain ⟨i0, hi, hz0, hz1, hz2⟩ := info_parts Tryz.infoRows
  have HI := Lib.hid hi
  obtain ⟨i1, hj, hy0, hy1, hy2⟩ := info_parts Tryz.infoRows2
  have HJ := Lib.hid hj
  clear hi hj
  obtain ⟨g, hg⟩ : ∃ g, g = w.heap.size := ⟨_, rfl⟩
  obtain ⟨w0, hw0⟩ : ∃ w0, (w.alloc (.cells (shA l k) 23)).alloc (.cells (mkA As 32 cs Al 32 cl Ae 32 ce) 26) = w0 := ⟨_, rfl⟩
  have M0 := Lib.hid (show Bk w0 g 23 (shA l k) by rw [← hw0, hg]; exact (Bk.new _ _ _).alloc _)
  have G0 := Lib.hid (show Bk w0 (g + 1) 26 (mkA As 32 cs Al 32 cl Ae 32 ce) by rw [← hw0, hg]; exact Bk.newAt _ _ _ _ (by simp))
  have B0 := Lib.hid (show Below w.heap.size w w0 by rw [← hw0]; exact ((Below.refl _ _).alloc (Nat.le_refl _) _).alloc (by simp) _)
  have k1 : w0.cell? ⟨g, 1, none⟩ = some (.int .i64 (k : Int)) := M0.out.cell 1
  obtain ⟨n, hn⟩ : ∃ n : Nat, n = 2 ^ k := ⟨_, rfl⟩
  have hn64 : n ≤ 64 := by rw [hn]; exact Nat.pow_le_pow_right (n := 2) (by omega) hk1
  have hs1 : wrap64 ((2 : Int) ^ k) = (n : Int) := by
    have e : ((2 : Int) ^ k) = (n : Int) := by rw [hn]; simp
    rw [e]
    unfold wrap64
    omega
  have HN := Lib.hid hn
  clear hn
  go_enter Tryz.func22, Tryz.ntmps22
  go_upto_region 1 with (fail)
  rw [← hg]
  clear hw0 hg
  go_wp2_with (at_make; refine wpList_make_full _ rfl _ _ 61 rfl w0.heap.size 24 i0 (.slice none 0 0) 1 Tryz.underlying61 HI.out hz0 hz1 _ _ _ _ n rfl rfl hs1 hs1 ?b2 ?b3 (Nat.le_refl _) ?_)
  case b2 => rw [hz2]; omega
  case b3 => unfold maxLen; omega
  intro w1 o1 g1
  obtain ⟨L0, hL0⟩ : ∃ L0, w0.heap.size = L0 := ⟨_, rfl⟩
  rw [hL0] at o1 ⊢
  obtain ⟨vs0, hv0⟩ : ∃ vs0 : List Value, Gr (hE sec sd ly tr 0) 24 w1 L0 (.slice (some ⟨L0, 0, none⟩) n n) n 0 vs0 := ⟨_, Gr.start o1⟩
  have R1 := Lib.hid hv0
  clear hv0
  have N1 := Lib.hid (show Below L0 w0 w1 from by rw [← hL0]; exact (Below.refl _ _).grown g1 (Nat.le_refl _) (fun k h => by cases h))
  have HL0 := Lib.hid hL0
  clear o1 g1 hL0 k1 hs1
  go_wp2
  go_loopw [21] (fun i wr => ∃ (q : Nat) (vs : List Value), q ≤ n ∧ i = .int .i64 (q : Int) ∧ Gr (hE sec sd ly tr 0) 24 wr L0 (.slice (some ⟨L0, 0, none⟩) n n) n q vs ∧ Below L0 w0 wr) (fun i _ => n - (intOf i).toNat)
  case atStart => exact ⟨0, vs0, Nat.zero_le _, rfl, R1.out, N1.out⟩
  case round =>
    obtain ⟨q, vs, hq, rfl, hG, hbel⟩ := hrel
    by_cases hlt : q < n
    · have t0 : (q : Int) < (n : Int) := by omega
      have e1 : (q : Int) % 4294967296 = (q : Int) := by omega
      have hbel' : Below w0.heap.size w0 wr := by rw [HL0.out]; exact hbel
      have BW := Lib.hid (B0.out.trans (hbel'.mono B0.out.size))
      have LQ := Lib.hid (LF.out wr q BW.out (by omega))
      have HG := Lib.hid hG
      have HB := Lib.hid hbel
      have hG' := G0.out.below hbel' G0.out.lt
      have i0' : wr.cell? ⟨g + 1, 0, none⟩ = some (.slice As 32 cs) := hG'.cell 0
      have i1' : wr.cell? ⟨g + 1, 1, none⟩ = some (.slice Al 32 cl) := hG'.cell 1
      have i2' : wr.cell? ⟨g + 1, 2, none⟩ = some (.slice Ae 32 ce) := hG'.cell 2
      clear hG hbel hG' hbel'
      go_wp2_with (go_at_call 54; ((with_reducible refine LQ.out.mono ?_); rintro e w2 ⟨A2, n2, c2, rfl, q2, b2⟩; obtain rfl : n2 = 32 := (own_len q2).symm.trans (sum_32 ..); have HG2 := Lib.hid (HG.out.below (rowE_fp _) b2); have O2 := Lib.hid q2; have HLT := Lib.hid (HG.out.own.lt L0 rfl).2; have HB2 := Lib.hid (HB.out.trans (b2.mono (HL0.out ▸ HB.out.size))); obtain ⟨v2, hv2⟩ := get_some (vs := vs) (n := n) (by have := HG2.out.own.1; omega) hlt; have hc := HG2.out.own.cellAt q (by omega); have hf := HG2.out.own.frozenAt q; have hs := HG2.out.own.stored q; rw [hv2] at hc; clear q2 b2))
      go_roundw
      case rel =>
        refine ⟨q + 1, vs.set q (.slice A2 32 c2), by omega, by go_num, HG2.out.set (rowE_fp _) hlt _ (hs _).1 ?_, HB2.out.setCell (Nat.le_refl _) _⟩
        exact (rowE_fp _).weak (rowE_new O2.out rfl) fun b hb => by have := HLT.out; omega
      case measure => simp [intOf]; omega
    · obtain rfl : q = n := by omega
      have t0 : ¬ (q : Int) < (q : Int) := by omega
      have hbel' : Below w0.heap.size w0 wr := by rw [HL0.out]; exact hbel
      have HWR := Lib.hid hbel'
      have HB0L := Lib.hid (show w.heap.size ≤ L0 by have := B0.out.size; rw [HL0.out] at this; exact this)
      have SL := Lib.hid (hG.read (rowE_fp _))
      have hG' := G0.out.below hbel' G0.out.lt
      have m1 : wr.cell? ⟨g, 1, none⟩ = some (.int .i64 (k : Int)) := (M0.out.below hbel' M0.out.lt).cell 1
      obtain ⟨wo, rfl⟩ : ∃ wo : World, wo = wr := ⟨_, rfl⟩
      obtain ⟨L1, hL1⟩ : ∃ L1, wo.heap.size = L1 := ⟨_, rfl⟩
      obtain ⟨w2, hw2⟩ : ∃ w2, wo.alloc (.cells #[.slice (some ⟨L0, 0, none⟩) q q] 61) = w2 := ⟨_, rfl⟩
      have T2 : Gr (treeE sec sd ly tr k) 61 w2 L0 (.slice (some ⟨L1, 0, none⟩) 1 1) 1 1 [.slice (some ⟨L0, 0, none⟩) q q] := by
        rw [← hw2, ← hL1]
        refine ⟨own_lit1 wo L0 _ _ (by have := hbel'.size; rw [HL0.out] at this; exact this), fun j hj => ?_⟩
        obtain rfl : j = 0 := by omega
        refine ⟨_, rfl, treeE_mk ?_ (by rw [Nat.sub_zero]; exact HN.out)⟩
        refine ((SL.out.lt (rowE_fp _)).below (rowE_fp _) ((Below.refl _ _).alloc (Nat.le_refl _) _)).weak (rowE_fp _) fun b hb => ⟨hb.1, fun e => ?_⟩
        have := hb.2
        simp [Value.ownBlock] at e
        omega
      have TT := Lib.hid T2
      have SL2 := Lib.hid (show Sl (hE sec sd ly tr 0) w2 (fun b => L0 ≤ b) (some ⟨L0, 0, none⟩) q q by rw [← hw2]; exact SL.out.below (rowE_fp _) ((Below.refl _ _).alloc (Nat.le_refl _) _))
      have BW2 := Lib.hid (show Below w0.heap.size w0 w2 by rw [← hw2]; exact hbel'.alloc hbel'.size _)
      have m2 : w2.cell? ⟨g, 1, none⟩ = some (.int .i64 (k : Int)) := (M0.out.below BW2.out M0.out.lt).cell 1
      clear hG hbel hbel' hG' T2
      go_wp2
      clear hw2 m1 m2 hL1
      have HLq := Lib.hid (show q = 2 ^ (k - 0) by rw [Nat.sub_zero]; exact HN.out)
      go_loopw [9, 11, 38] (fun list t j wr => ∃ (G N : Nat) (A : Option Addr) (c : Nat) (vs : List Value), G ≤ k ∧ j = .int .i64 (G : Int) ∧ list = .slice A N c ∧ N = 2 ^ (k - G) ∧ Sl (hE sec sd ly tr G) wr (fun b => L0 ≤ b) A N c ∧ Gr (treeE sec sd ly tr k) 61 wr L0 t (G + 1) (G + 1) vs ∧ Below w0.heap.size w0 wr) (fun _ _ j _ => k - (intOf j).toNat)
      case atStart => exact ⟨0, q, some ⟨L0, 0, none⟩, q, _, Nat.zero_le _, rfl, rfl, HLq.out, SL2.out, TT.out, BW2.out⟩
      case round =>
        obtain ⟨G, N, A, c, vt, hG, rfl, rfl, hN, hsl, hgr, hbel⟩ := hrel
        obtain ⟨At, ct, rfl⟩ := hgr.form
        obtain ⟨wa, rfl⟩ : ∃ wa : World, wa = wr := ⟨_, rfl⟩
        have HS1 := Lib.hid hsl
        have HG1 := Lib.hid hgr
        have HB1 := Lib.hid hbel
        have BW1 := Lib.hid (B0.out.trans (hbel.mono B0.out.size))
        have HN1 := Lib.hid hN
        clear hsl hgr hbel
        by_cases hlt : G < k
        · obtain ⟨m, hm⟩ : ∃ m, m = 2 ^ (k - (G + 1)) := ⟨_, rfl⟩
          have hN2 : N = 2 * m := by
            rw [hN, hm, show k - G = (k - (G + 1)) + 1 by omega, Nat.pow_succ, Nat.mul_comm]
          have hm32 : m ≤ 32 := by
            rw [hm]
            exact Nat.pow_le_pow_right (n := 2) (by omega) (show k - (G + 1) ≤ 5 by omega)
          have HM := Lib.hid hm
          clear hm hN
          have t0 : (G : Int) < (k : Int) := by omega
          have t1 : (N : Int) / 2 = (m : Int) := by omega
          have HN3 := Lib.hid hN2
          clear hN2
          go_wp2_with (at_make; refine wpList_make_full _ rfl _ _ 61 rfl wa.heap.size 24 i0 (.slice none 0 0) 1 Tryz.underlying61 HI.out hz0 hz1 _ _ _ _ m rfl rfl rfl rfl ?b4 ?b5 (Nat.le_refl _) ?_)
          case b4 => rw [hz2]; omega
          case b5 => unfold maxLen; omega
          intro w3 o3 g3
          obtain ⟨C, hC⟩ : ∃ C, wa.heap.size = C := ⟨_, rfl⟩
          rw [hC] at o3 ⊢
          obtain ⟨vs3, hv3⟩ : ∃ vs3 : List Value, Gr (hE sec sd ly tr (G + 1)) 24 w3 C (.slice (some ⟨C, 0, none⟩) m m) m 0 vs3 := ⟨_, Gr.start o3⟩
          have R3 := Lib.hid hv3
          have N3 := Lib.hid (show Below C wa w3 from by rw [← hC]; exact (Below.refl _ _).grown g3 (Nat.le_refl _) (fun k h => by cases h))
          have HC := Lib.hid hC
          clear hv3 o3 g3 hC t1
          go_wp2
          go_loopw [47] (fun i wr => ∃ (q : Nat) (vs : List Value), q ≤ m ∧ i = .int .i64 (q : Int) ∧ Gr (hE sec sd ly tr (G + 1)) 24 wr C (.slice (some ⟨C, 0, none⟩) m m) m q vs ∧ Below C wa wr) (fun i _ => m - (intOf i).toNat)
          case atStart => exact ⟨0, vs3, Nat.zero_le _, rfl, R3.out, N3.out⟩
          case round =>
            obtain ⟨x, vs, hx, rfl, hG3, hb3⟩ := hrel
            have hbel' : Below wa.heap.size wa wr := by rw [HC.out]; exact hb3
            have HB3 := Lib.hid hbel'
            have HG3 := Lib.hid hG3
            clear hG3 hb3
            by_cases hxl : x < m
            · obtain ⟨p0, hp0⟩ : ∃ p0, p0 = 2 * x := ⟨_, rfl⟩
              obtain ⟨p1, hp1⟩ : ∃ p1, p1 = 2 * x + 1 := ⟨_, rfl⟩
              obtain ⟨b, off, A1, c1, rfl, hb, _, h1, h2, _⟩ := row_get HS1.out (i := p0) (by have := HN3.out; omega)
              obtain ⟨b', off', A2, c2, hA, _, _, h3, h4, _⟩ := row_get HS1.out (i := p1) (by have := HN3.out; omega)
              injection hA with hA
              injection hA with hA1 hA2
              subst hA1 hA2
              have R1' := Lib.hid (show ∀ X, Below wa.heap.size wa X → Rd X A1 32 c1 (sumT sec sd ly tr G (2 * x)) from fun X hX => by rw [← hp0]; exact h2.below hX)
              have R2' := Lib.hid (show ∀ X, Below wa.heap.size wa X → Rd X A2 32 c2 (sumT sec sd ly tr G (2 * x + 1)) from fun X hX => by rw [← hp1]; exact h4.below hX)
              have KS := Lib.hid (show ∀ X, Below wa.heap.size wa X → X.cell? ⟨g + 1, 2, none⟩ = some (.slice Ae 32 ce) ∧ X.cell? ⟨b, off + p0, none⟩ = some (.slice A1 32 c1) ∧ X.cell? ⟨b, off + p1, none⟩ = some (.slice A2 32 c2) from fun X hX =>
                ⟨(G0.out.below (HB1.out.trans (hX.mono HB1.out.size)) G0.out.lt).cell 2, (hX.cell (p := ⟨b, off + p0, none⟩) hb).trans h1, (hX.cell (p := ⟨b, off + p1, none⟩) hb).trans h3⟩)
              have BD := Lib.hid (show Below wa.heap.size wa wr.drew from HB3.out.drew)
              have hCw := Lib.hid (show C < wr.heap.size from (HG3.out.own.lt C rfl).2)
              have t1 : IntKind.i64.wrap (2 * (x : Int)) = (p0 : Int) := by rw [IntKind.wrap_i64]; omega
              have t2 : IntKind.i64.wrap ((p0 : Int) + 1) = (p1 : Int) := by rw [IntKind.wrap_i64]; omega
              have t3 : (p0 : Int) < (N : Int) := by have := HN3.out; omega
              have t4 : (p1 : Int) < (N : Int) := by have := HN3.out; omega
              have u0 : (x : Int) < (m : Int) := by omega
              have t5 : p0 < N := by omega
              have t6 : p1 < N := by omega
              have e1 : IntKind.u32.wrap (x : Int) = (x : Int) := by rw [IntKind.wrap_u32]; omega
              have x64 : x < 64 := by omega
              have G7 : G < 7 := by omega
              clear h1 h2 h3 h4 hb hp0 hp1
              go_wp2
              (go_region_held3 (fun X => X.cell? ⟨g + 1, 2, none⟩ = some (.slice Ae 32 ce) ∧ X.cell? ⟨b, off + p0, none⟩ = some (.slice A1 32 c1) ∧ X.cell? ⟨b, off + p1, none⟩ = some (.slice A2 32 c2)) (first
                | exact KS.out _ (B5.out.setCell (by rw [HC.out]; exact Nat.le_refl _) _)
                | exact KS.out _ B5.out
                | exact KS.out _ B4.out
                | exact KS.out _ BD.out) (first
                | (go_at_call 56; ((with_reducible refine (SP.out _ G x G7).mono ?_); rintro e w4 ⟨rfl, b4⟩; have B4 := Lib.hid (BD.out.trans (b4.mono BD.out.size)); have F4 := Lib.hid ((HG3.out.below (rowE_fp _) (Below.refl _ _).drew).below (rowE_fp _) b4); clear b4))
                | (go_at_call 55; ((with_reducible refine (HH.out w4 G x A1 c1 A2 c2 (BW1.out.trans (B4.out.mono BW1.out.size)) G7 x64 (R1'.out _ B4.out) (R2'.out _ B4.out)).mono ?_); rintro e w5 ⟨A5, n5, c5, rfl, q5, b5⟩; obtain rfl : n5 = 32 := (own_len q5).symm.trans (sum_32 ..); have O5 := Lib.hid q5; have HLT := Lib.hid (F4.out.own.lt C rfl).2; have F5 := Lib.hid (F4.out.below (rowE_fp _) b5); have B5 := Lib.hid (B4.out.trans (b5.mono B4.out.size)); obtain ⟨v5, hv5⟩ := get_some (vs := vs) (n := m) (by have := F5.out.own.1; omega) hxl; have hc := F5.out.own.cellAt x (by omega); have hf := F5.out.own.frozenAt x; have hs := F5.out.own.stored x; rw [hv5] at hc; clear q5 b5))
                | fail))
              go_wp2
              go_roundw
              case rel =>
                refine ⟨x + 1, vs.set x (.slice A5 32 c5), by omega, by go_num, F5.out.set (rowE_fp _) hxl _ (hs _).1 ?_, ?_⟩
                · exact (rowE_fp _).weak (rowE_new O5.out rfl) fun b hb => by have := HLT.out; omega
                · have := B5.out.setCell (p := ⟨C, x, none⟩) (by rw [HC.out]; exact Nat.le_refl _) (.slice A5 32 c5)
                  rw [HC.out] at this
                  exact this
              case measure => simp [intOf]; omega
            · obtain rfl : x = m := by omega
              have u0 : ¬ (x : Int) < (x : Int) := by omega
              obtain ⟨wA, hwA⟩ : ∃ wA, wr.alloc (.cells #[.slice (some ⟨C, 0, none⟩) x x] 61) = wA := ⟨_, rfl⟩
              have BA : Below wr.heap.size wr wA := by rw [← hwA]; exact (Below.refl _ _).alloc (Nat.le_refl _) _
              have SLA := Lib.hid ((HG3.out.read (rowE_fp _)).below (rowE_fp _) BA)
              have TGA := Lib.hid (HG1.out.below (treeE_fp _ _ _ _ _) (HB3.out.trans (BA.mono HB3.out.size)))
              have HBA := Lib.hid ((HB1.out.trans (HB3.out.mono HB1.out.size)).trans (BA.mono (Nat.le_trans HB1.out.size HB3.out.size)))
              have HNA := Lib.hid (show ∀ (j : Nat) (u : Value), [Value.slice (some ⟨C, 0, none⟩) x x][j]? = some u → wA.cell? ((⟨wr.heap.size, 0, none⟩ : Addr).add j) = some u from by rw [← hwA]; exact cell_one_new _ _ _)
              have HTC := Lib.hid (show ∀ b, (Value.slice At (G + 1) ct).ownBlock = some b → b < C from fun b hb => by have := (HG1.out.own.lt b hb).2; have := HC.out; omega)
              have HLC := Lib.hid (show L0 ≤ C from by have := HB1.out.size; rw [HL0.out, HC.out] at this; exact this)
              have HSA := Lib.hid (show L0 ≤ wA.heap.size from by have := HBA.out.size; rw [HL0.out] at this; exact this)
              clear BA
              go_wp2_with (at_builtin; refine wpList_append_own_at _ rfl (.tmp 75) (.tmp 77) 54 rfl L0 61 i1 _ 1 24 Tryz.underlying54 HJ.out hy0 hy1 hy2 rfl (by omega) (.slice At (G + 1) ct) (G + 1) vt rfl TGA.out.own ⟨wr.heap.size, 0, none⟩ 1 1 [.slice (some ⟨C, 0, none⟩) x x] rfl rfl HNA.out (by simp [Value.oneCell']) (by simp only [maxLen]; omega) (by omega) HSA.out ?_; intro v6 w6 o6 g6 _ n6; have O6 := Lib.hid o6; have G6 := Lib.hid g6; have N6 := Lib.hid n6; clear o6 g6 n6)
              go_roundw
              case rel =>
                refine ⟨G + 1, x, some ⟨C, 0, none⟩, x, vt ++ [.slice (some ⟨C, 0, none⟩) x x], by omega, by go_num, rfl, HM.out, ?_, ?_, ?_⟩
                · refine (SLA.out.keep (rowE_fp _) G6.out.size fun b hb hlt => G6.out.block b hlt fun e => ?_).weak (rowE_fp _) fun b hb => Nat.le_trans HLC.out hb
                  have := HTC.out b e.symm
                  omega
                · refine TGA.out.push (treeE_fp _ _ _ _ _) O6.out G6.out N6.out fun i hi => ?_
                  obtain rfl : i = 0 := by omega
                  refine ⟨_, rfl, treeE_mk (SLA.out.weak (rowE_fp _) fun b hb => ⟨Nat.le_trans HLC.out hb, fun e => ?_⟩) HM.out⟩
                  have := HTC.out b e
                  omega
                · exact HBA.out.grown G6.out HBA.out.size fun b hb => by have := (TGA.out.own.lt b hb).1; rw [HL0.out]; exact this
              case measure => simp [intOf]; omega
        · obtain rfl : G = k := by omega
          have t0 : ¬ (G : Int) < (G : Int) := by omega
          go_wp2
          go_ret
          exact ⟨At, ct, rfl, (HG1.out.read (treeE_fp _ _ _ _ _)).weak (treeE_fp _ _ _ _ _) fun b hb => by have := HB0L.out; omega, BW1.out⟩
theorem grow_any (sec salt sd : List UInt8) (l k ly tr : Nat) (hk1 : k ≤ 6) (hly : ly < 4294967296) (htr : tr < 18446744073709551616) (As : Option Addr) (cs : Nat) (Al : Option Addr) (cl : Nat) (Ae : Option Addr) (ce : Nat) (w : World) (hk : GK w) (hs : Rd w As 32 cs sec) (hl : Rd w Al 32 cl salt) (he : Rd w Ae 32 ce sd) :
    Calls Tryz.prog 22 #[.agg (shA l k), .agg (mkA As 32 cs Al 32 cl Ae 32 ce), .int .u32 (ly : Int), .int .u64 (tr : Int)] w (GivesT sec sd ly tr k w) :=
  grow_core sec sd l k ly tr hk1 As cs Al cl Ae ce w
    (fun X q hX hq => by
      have h9 := leafW_any As 32 cs sec Al 32 cl salt Ae 32 ce sd ly tr q X (hk.bel hX) (hs.below hX) (hl.below hX) (he.below hX) hly htr (by omega)
      rw [leafW, if_pos (by rw [hs.len, hl.len, he.len]; rfl)] at h9
      exact h9)
    (fun X j q hj => sumPlace_any ly tr j q (by omega) X)
    (fun X j q A1 c1 A2 c2 hX hj hq h1 h2 => h_any (adT ly tr j q) ⟨hly, htr, by show 2 < _; omega, by show 0 < _; omega, by show j < _; omega, by show q < _; omega⟩ Ae ce sd A1 c1 _ A2 c2 _ X (hk.bel hX) (he.below hX) h1 h2)
end Go.Proofs.YtkpfppiedadmbaaGreatDoor.S16

/-
  The landed package xmss: a tree's root, the public key. No statement is proved here.
-/
namespace Go.Proofs.YtkpfppiedadmbaaGreatDoor.S16
set_option linter.unusedSimpArgs false
set_option linter.unusedVariables false
set_option maxRecDepth 1024
open Go.RowKit S15

theorem sh_m {w : World} {L H : Int} {As Al Ae : Option Addr} {ns cs nl cl ne ce : Nat} {g : Nat} (hg : w.heap.size = g) :
    Bk ((w.alloc (.cells (shA L H) 23)).alloc (.cells (mkA As ns cs Al nl cl Ae ne ce) 26)) g 23 (shA L H) ∧ Bk ((w.alloc (.cells (shA L H) 23)).alloc (.cells (mkA As ns cs Al nl cl Ae ne ce) 26)) (g + 1) 26 (mkA As ns cs Al nl cl Ae ne ce) ∧ Below w.heap.size w ((w.alloc (.cells (shA L H) 23)).alloc (.cells (mkA As ns cs Al nl cl Ae ne ce) 26)) := by
  refine ⟨?_, ?_, ?_⟩
  · rw [← hg]; exact (Bk.new _ _ _).alloc _
  · rw [← hg]; exact Bk.newAt _ _ _ _ (by simp)
  · exact ((Below.refl _ _).alloc (Nat.le_refl _) _).alloc (by simp) _
theorem cells5 {w : World} {g : Nat} {L H : Int} {As Al Ae : Option Addr} {ns cs nl cl ne ce : Nat} (h : Bk w g 23 (shA L H)) (h' : Bk w (g + 1) 26 (mkA As ns cs Al nl cl Ae ne ce)) :
    w.cell? ⟨g, 0, none⟩ = some (.int .i64 L) ∧ w.cell? ⟨g, 1, none⟩ = some (.int .i64 H) ∧ w.cell? ⟨g + 1, 0, none⟩ = some (.slice As ns cs) ∧ w.cell? ⟨g + 1, 1, none⟩ = some (.slice Al nl cl) ∧ w.cell? ⟨g + 1, 2, none⟩ = some (.slice Ae ne ce) :=
  ⟨h.cell 0, h.cell 1, h'.cell 0, h'.cell 1, h'.cell 2⟩
set_option maxHeartbeats 1000000 in
theorem root16_not (L H : Int) (As : Option Addr) (ns cs : Nat) (Al : Option Addr) (nl cl : Nat) (Ae : Option Addr) (ne ce : Nat) (ly tr : Nat) (w : World) (hm : madeX L H ns nl ne = false) :
    Calls Tryz.prog 12 #[.agg (shA L H), .agg (mkA As ns cs Al nl cl Ae ne ce), .int .u32 (ly : Int), .int .u64 (tr : Int)] w (GivesNil w) := by
  have CM := Lib.hid (show ∀ X, Calls Tryz.prog 20 #[.agg #[.int .i64 L, .int .i64 H], .agg #[.slice As ns cs, .slice Al nl cl, .slice Ae ne ce]] X (GivesB false X) from fun X => by rw [← hm]; exact canMake_any L H As ns cs Al nl cl Ae ne ce X)
  clear hm
  obtain ⟨g, hg⟩ : ∃ g, w.heap.size = g := ⟨_, rfl⟩
  obtain ⟨m1, m2, b0⟩ := sh_m (w := w) (L := L) (H := H) (As := As) (ns := ns) (cs := cs) (Al := Al) (nl := nl) (cl := cl) (Ae := Ae) (ne := ne) (ce := ce) hg
  obtain ⟨w0, hw0⟩ : ∃ w0, (w.alloc (.cells (shA L H) 23)).alloc (.cells (mkA As ns cs Al nl cl Ae ne ce) 26) = w0 := ⟨_, rfl⟩
  rw [hw0] at m1 m2 b0
  obtain ⟨k0, k1, k2, k3, k4⟩ := cells5 m1 m2
  have B0 := Lib.hid b0
  clear m1 m2 b0
  go_enter Tryz.func12, Tryz.ntmps12
  go_upto_region 1 with (fail)
  clear hw0 hg
  go_wp2_with (go_at_call 20; ((with_reducible refine (CM.out _).mono ?_); rintro e w1 ⟨rfl, b1⟩; have B1 := Lib.hid (B0.out.trans (b1.mono B0.out.size)); clear b1))
  go_ret
  exact ⟨rfl, B1.out⟩
set_option maxHeartbeats 1000000 in
theorem root16_no (l k : Nat) (As : Option Addr) (cs : Nat) (Al : Option Addr) (cl : Nat) (Ae : Option Addr) (ce : Nat) (ly tr : Nat) (w : World) (hm : madeX l k 32 32 32 = true) (ht : treeN l k ly tr = false) (hly : ly < 4294967296) (htr : tr < 18446744073709551616) (h1 : l < 13) (h2 : k < 21) (h3 : l * k ≤ 60) :
    Calls Tryz.prog 12 #[.agg (shA l k), .agg (mkA As 32 cs Al 32 cl Ae 32 ce), .int .u32 (ly : Int), .int .u64 (tr : Int)] w (GivesNil w) := by
  have CM := Lib.hid (show ∀ X, Calls Tryz.prog 20 #[.agg #[.int .i64 (l : Int), .int .i64 (k : Int)], .agg #[.slice As 32 cs, .slice Al 32 cl, .slice Ae 32 ce]] X (GivesB true X) from fun X => by rw [← hm]; exact canMake_any l k As 32 cs Al 32 cl Ae 32 ce X)
  have HT := Lib.hid (show ∀ X, Calls Tryz.prog 41 #[.agg #[.int .i64 (l : Int), .int .i64 (k : Int)], .int .u32 (ly : Int), .int .u64 (tr : Int)] X (GivesB false X) from fun X => by rw [← ht]; exact hasTree_any l k ly tr h1 h2 h3 hly htr X)
  clear hm ht h1 h2 h3
  obtain ⟨g, hg⟩ : ∃ g, w.heap.size = g := ⟨_, rfl⟩
  obtain ⟨m1, m2, b0⟩ := sh_m (w := w) (L := l) (H := k) (As := As) (ns := 32) (cs := cs) (Al := Al) (nl := 32) (cl := cl) (Ae := Ae) (ne := 32) (ce := ce) hg
  obtain ⟨w0, hw0⟩ : ∃ w0, (w.alloc (.cells (shA l k) 23)).alloc (.cells (mkA As 32 cs Al 32 cl Ae 32 ce) 26) = w0 := ⟨_, rfl⟩
  rw [hw0] at m1 m2 b0
  obtain ⟨k0, k1, k2, k3, k4⟩ := cells5 m1 m2
  have B0 := Lib.hid b0
  have M0 := Lib.hid m1
  have G0 := Lib.hid m2
  clear m1 m2 b0
  go_enter Tryz.func12, Tryz.ntmps12
  go_upto_region 1 with (fail)
  clear hw0 hg
  go_wp2_with (first
    | (go_at_call 20; ((with_reducible refine (CM.out _).mono ?_); rintro e w1 ⟨rfl, b1⟩; have B1 := Lib.hid (B0.out.trans (b1.mono B0.out.size)); obtain ⟨j0, j1, j2, j3, j4⟩ := cells5 (M0.out.below b1 M0.out.lt) (G0.out.below b1 G0.out.lt); clear b1))
    | (go_at_call 41; ((with_reducible refine (HT.out _).mono ?_); rintro e w2 ⟨rfl, b2⟩; have B2 := Lib.hid (B1.out.trans (b2.mono B1.out.size)); clear b2)))
  go_ret
  exact ⟨rfl, B2.out⟩
set_option maxHeartbeats 1000000 in
theorem root16_may (sec salt sd : List UInt8) (l k : Nat) (As : Option Addr) (cs : Nat) (Al : Option Addr) (cl : Nat) (Ae : Option Addr) (ce : Nat) (ly tr : Nat) (w : World) (hk : GK w) (hs : Rd w As 32 cs sec) (hl : Rd w Al 32 cl salt) (he : Rd w Ae 32 ce sd) (hm : madeX l k 32 32 32 = true) (ht : treeN l k ly tr = true) (hly : ly < 4294967296) (htr : tr < 18446744073709551616) (h1 : l < 13) (h2 : k < 21) (h3 : l * k ≤ 60) (h6 : k ≤ 6) :
    Calls Tryz.prog 12 #[.agg (shA l k), .agg (mkA As 32 cs Al 32 cl Ae 32 ce), .int .u32 (ly : Int), .int .u64 (tr : Int)] w (Gives32 w (sumT sec sd ly tr k 0)) := by
  have CM := Lib.hid (show ∀ X, Calls Tryz.prog 20 #[.agg #[.int .i64 (l : Int), .int .i64 (k : Int)], .agg #[.slice As 32 cs, .slice Al 32 cl, .slice Ae 32 ce]] X (GivesB true X) from fun X => by rw [← hm]; exact canMake_any l k As 32 cs Al 32 cl Ae 32 ce X)
  have HT := Lib.hid (show ∀ X, Calls Tryz.prog 41 #[.agg #[.int .i64 (l : Int), .int .i64 (k : Int)], .int .u32 (ly : Int), .int .u64 (tr : Int)] X (GivesB true X) from fun X => by rw [← ht]; exact hasTree_any l k ly tr h1 h2 h3 hly htr X)
  have GR := Lib.hid (show ∀ X, Below w.heap.size w X → Calls Tryz.prog 22 #[.agg #[.int .i64 (l : Int), .int .i64 (k : Int)], .agg #[.slice As 32 cs, .slice Al 32 cl, .slice Ae 32 ce], .int .u32 (ly : Int), .int .u64 (tr : Int)] X (GivesT sec sd ly tr k X) from fun X hX => grow_any sec salt sd l k ly tr h6 hly htr As cs Al cl Ae ce X (hk.bel hX) (hs.below hX) (hl.below hX) (he.below hX))
  clear hm ht h1 h2 h3 hk hs hl he
  obtain ⟨g, hg⟩ : ∃ g, w.heap.size = g := ⟨_, rfl⟩
  obtain ⟨m1, m2, b0⟩ := sh_m (w := w) (L := l) (H := k) (As := As) (ns := 32) (cs := cs) (Al := Al) (nl := 32) (cl := cl) (Ae := Ae) (ne := 32) (ce := ce) hg
  obtain ⟨w0, hw0⟩ : ∃ w0, (w.alloc (.cells (shA l k) 23)).alloc (.cells (mkA As 32 cs Al 32 cl Ae 32 ce) 26) = w0 := ⟨_, rfl⟩
  rw [hw0] at m1 m2 b0
  obtain ⟨k0, k1, k2, k3, k4⟩ := cells5 m1 m2
  have B0 := Lib.hid b0
  have M0 := Lib.hid m1
  have G0 := Lib.hid m2
  clear m1 m2 b0
  go_enter Tryz.func12, Tryz.ntmps12
  go_upto_region 1 with (fail)
  clear hw0 hg
  go_wp2_with (first
    | (go_at_call 20; ((with_reducible refine (CM.out _).mono ?_); rintro e w1 ⟨rfl, b1⟩; have B1 := Lib.hid (B0.out.trans (b1.mono B0.out.size)); obtain ⟨j0, j1, j2, j3, j4⟩ := cells5 (M0.out.below b1 M0.out.lt) (G0.out.below b1 G0.out.lt); have M1 := Lib.hid (M0.out.below b1 M0.out.lt); have G1 := Lib.hid (G0.out.below b1 G0.out.lt); clear b1))
    | (go_at_call 41; ((with_reducible refine (HT.out _).mono ?_); rintro e w2 ⟨rfl, b2⟩; have B2 := Lib.hid (B1.out.trans (b2.mono B1.out.size)); obtain ⟨i0, i1, i2, i3, i4⟩ := cells5 (M1.out.below b2 M1.out.lt) (G1.out.below b2 G1.out.lt); clear b2))
    | (go_at_call 22; ((with_reducible refine (GR.out _ B2.out).mono ?_); rintro e w3 ⟨A3, c3, rfl, s3, b3⟩; have S3 := Lib.hid s3; have B3 := Lib.hid (B2.out.trans (b3.mono B2.out.size)); clear s3 b3))
    | (go_at_call 26; ((with_reducible refine (root_any sec sd ly tr k A3 c3 _ _ S3.out).mono ?_); rintro e w4 ⟨⟨A4, c4, rfl, r4, _⟩, rfl⟩; have R4 := Lib.hid r4; clear r4)))
  go_ret
  exact ⟨A4, c4, rfl, R4.out, B3.out⟩
theorem root16_any (L H : Int) (As : Option Addr) (ns cs : Nat) (sec : List UInt8) (Al : Option Addr) (nl cl : Nat) (salt : List UInt8) (Ae : Option Addr) (ne ce : Nat) (sd : List UInt8) (ly tr : Nat) (w : World) (hk : GK w) (hs : Rd w As ns cs sec) (hl : Rd w Al nl cl salt) (he : Rd w Ae ne ce sd) (hly : ly < 4294967296) (htr : tr < 18446744073709551616) :
    Calls Tryz.prog 12 #[.agg (shA L H), .agg (mkA As ns cs Al nl cl Ae ne ce), .int .u32 (ly : Int), .int .u64 (tr : Int)] w (GivesR w (rootX L H sec salt sd ly tr)) := by
  unfold rootX
  rw [hs.len, hl.len, he.len]
  by_cases h : madeX L H ns nl ne = true
  · obtain ⟨hx, h6, rfl, rfl, rfl⟩ := madeX_iff.1 h
    obtain ⟨l, k, rfl, rfl, h1, h2, h3, h4, h5⟩ := mayX_nat hx
    by_cases ht : treeN l k ly tr = true
    · rw [if_pos (by simp only [treeN, Bool.and_eq_true, decide_eq_true_eq] at ht; exact ⟨h, by omega, ht.2⟩)]
      exact (root16_may sec salt sd l k As cs Al cl Ae ce ly tr w hk hs hl he h ht hly htr h2 h4 h5 (by omega)).mono fun _ _ h => h.gives
    · rw [if_neg (by rintro ⟨_, h8, h9⟩; exact ht (by simp only [treeN, Bool.and_eq_true, decide_eq_true_eq]; exact ⟨by omega, h9⟩))]
      exact (root16_no l k As cs Al cl Ae ce ly tr w h (by simpa using ht) hly htr h2 h4 h5).mono fun _ _ h => h.gives
  · rw [if_neg fun c => h c.1]
    exact (root16_not L H As ns cs Al nl cl Ae ne ce ly tr w (by simpa using h)).mono fun _ _ h => h.gives
end Go.Proofs.YtkpfppiedadmbaaGreatDoor.S16
