/-
  Texts put together: Sk5. No statement is proved here.
-/
import Derived.Test.YtnoflgkjdibblaaGreatDoorWa30
import Derived.Test.YtnoflgkjdibblaaGreatDoorWa04

/-
  The landed slots: which of two areas counts. No statement is proved here.
-/
namespace Go.Proofs.YtnoflgkjdibblaaGreatDoor.S20
set_option linter.unusedSimpArgs false
set_option linter.unusedVariables false
set_option maxRecDepth 8192
open Go.RowKit S19

/-- Which area is written next. -/
def spareOf (z : Int) : Nat := if z = 0 then 1 else 0
/-- What is known, while areas are looked at. -/
structure Gi (w : World) (Z : Sl) (D : Dk) (P : Nat → Prop) (g : Nat) (i : Nat) (fo : Bool) (wr : World) : Prop where
  ex : ∃ (A' : Option Addr) (c' : Nat), Bk wr g 83 #[.int .u64 ((zz Z D i).2.1 : Int), .slice A' (zz Z D i).2.2.length c', .int .i64 (spareOf (zz Z D i).1 : Int)] ∧ Rd wr A' (zz Z D i).2.2.length c' (zz Z D i).2.2 ∧ ∀ a, A' = some a → P a.block
  fo : fo = decide (0 ≤ (zz Z D i).1)
  bel : Below w.heap.size w wr
theorem zz_none (Z : Sl) (D : Dk) : ∀ i, (zz Z D i).1 < 0 → (zz Z D i).2.1 = 0 ∧ (zz Z D i).2.2 = []
  | 0, _ => ⟨rfl, rfl⟩
  | i + 1, h => by
    have e : zz Z D (i + 1) = Z.look D i (zz Z D i) := rfl
    rw [e] at h ⊢
    unfold Sl.look at h ⊢
    split at h
    · have : (0 : Int) ≤ (i : Int) := by omega
      omega
    · rename_i h1
      rw [if_neg h1]
      exact zz_none Z D i h
theorem zz_next (Z : Sl) (D : Dk) (i : Nat) : zz Z D (i + 1) = if (zz Z D i).2.1 < (whole (Z.area D i) Z.n).1 then ((i : Int), whole (Z.area D i) Z.n) else zz Z D i := rfl
theorem Gi.next {w : World} {Z : Sl} {D : Dk} {P : Nat → Prop} {g i : Nat} {f : Bool} {wr w' : World} (h : Gi w Z D P g i f wr) (hz : zz Z D (i + 1) = zz Z D i) (hb : Below wr.heap.size wr w') : Gi w Z D P g (i + 1) f w' := by
  obtain ⟨A', c', h1, h2, h3⟩ := h.ex
  exact ⟨⟨A', c', by rw [hz]; exact h1.below hb h1.lt, by rw [hz]; exact h2.below hb, h3⟩, by rw [hz]; exact h.fo, h.bel.trans (hb.mono h.bel.size)⟩
theorem run_index_sl {P : Program} {T e e' : TypeId} {n : Nat} (hT : P.underlying T = some (.array n e)) (he : (P.info? e).map (·.size) = some 1) (hu : P.underlying e = some (.slice e')) (cs : Array Value) (k : IntKind) (i : Int) (h0 : 0 ≤ i) (h1 : i < n) (v : Value) (hi : cs[i.toNat]? = some v)
    (h1v : v.oneCell' = true) (W : World) : (Instr.index T (.agg cs) (.int k i)).run P W = .ok v W := by
  cases hq : P.info? e with
  | none => simp [hq] at he
  | some i0 =>
    have hs : i0.size = 1 := by simpa [hq] using he
    simp [Instr.index, asIntOf, run_underlying hT, run_underlying hu, h0, h1, part, isAgg, sizeOf, typeInfo, hq, hs, hi]
/-- What the two areas come to. -/
def GivesG (Z : Sl) (D : Dk) (P : Nat → Prop) (w : World) (e : Ending) (w' : World) : Prop :=
  ∃ (A' : Option Addr) (c' : Nat), e = .returned (.tuple #[.agg #[.int .u64 ((Z.seen D).2.1 : Int), .slice A' (Z.seen D).2.2.length c', .int .i64 (spareOf (Z.seen D).1 : Int)], .bool (decide (0 ≤ (Z.seen D).1))]) ∧ Rd w' A' (Z.seen D).2.2.length c' (Z.seen D).2.2 ∧ (∀ a, A' = some a → P a.block) ∧ Below w.heap.size w w'
set_option maxHeartbeats 8000000 in
theorem greatest_any (Z : Sl) (D : Dk) (A0 A1 : Option Addr) (k c0 c1 : Nat) (P : Nat → Prop) (w : World) (hgk : S2.GOk w) (h0 : Rd w A0 k c0 (Z.area D 0)) (h1 : Rd w A1 k c1 (Z.area D 1)) (p0 : ∀ a, A0 = some a → P a.block) (p1 : ∀ a, A1 = some a → P a.block) (pl : ∀ b, P b → b < w.heap.size) (hk : k = 64 * Z.n) (n1 : 1 ≤ Z.n) (n8 : Z.n ≤ 8) :
    Calls Tryz.prog 51 #[.agg #[.slice A0 k c0, .slice A1 k c1]] w (GivesG Z D P w) := by
  obtain ⟨g1, hg1⟩ : ∃ g1, w.heap.size = g1 := ⟨_, rfl⟩
  obtain ⟨wa, hwa⟩ : ∃ wa, w.alloc (.cells #[.slice A0 k c0, .slice A1 k c1] 115) = wa := ⟨_, rfl⟩
  obtain ⟨g, hg⟩ : ∃ g, wa.heap.size = g := ⟨_, rfl⟩
  obtain ⟨wb, hwb⟩ : ∃ wb, wa.alloc (.cells #[.int .u64 0, .slice none 0 0, .int .i64 0] 83) = wb := ⟨_, rfl⟩
  have BA := Lib.hid (show Below w.heap.size w wa by rw [← hwa]; exact (Below.refl _ _).alloc (Nat.le_refl _) _)
  have K1 := Lib.hid (show Bk wa g1 115 #[.slice A0 k c0, .slice A1 k c1] by rw [← hwa]; exact Bk.newAt _ _ _ _ hg1)
  have BB := Lib.hid (show Below w.heap.size w wb by rw [← hwb]; exact BA.out.alloc BA.out.size _)
  have K2 := Lib.hid (show Bk wb g 83 #[.int .u64 0, .slice none 0 0, .int .i64 0] by rw [← hwb]; exact Bk.newAt _ _ _ _ hg)
  have K12 := Lib.hid (show Bk wb g1 115 #[.slice A0 k c0, .slice A1 k c1] by rw [← hwb]; exact K1.out.alloc _)
  have hc0 : wb.cell? ⟨g1, 0, none⟩ = some (.slice A0 k c0) := K12.out.cell 0
  have hc1 : wb.cell? ⟨g1, 1, none⟩ = some (.slice A1 k c1) := K12.out.cell 1
  have HG := Lib.hid (show w.heap.size ≤ g by rw [← hg]; exact BA.out.size)
  have I0 := Lib.hid (show Gi w Z D P g 0 false wb from ⟨⟨none, 0, K2.out, Rd.nil_ _, fun a e => by cases e⟩, rfl, BB.out⟩)
  have H0 := Lib.hid h0
  have H1 := Lib.hid h1
  have P0 := Lib.hid p0
  have P1 := Lib.hid p1
  have PL := Lib.hid (show ∀ b, P b → b ≠ g from fun b hb e => by have := pl b hb; have := BA.out.size; omega)
  have HK := Lib.hid hk
  have HN := Lib.hid (show 1 ≤ Z.n ∧ Z.n ≤ 8 from ⟨n1, n8⟩)
  have GK := Lib.hid hgk
  clear h0 h1 p0 p1 pl hk n1 n8 hgk
  go_enter Tryz.func51, Tryz.ntmps51
  go_upto_region 2 with (fail)
  go_loopw [3, 9] (fun fo i wr => ∃ (a : Nat) (f : Bool), a ≤ 2 ∧ i = .int .i64 (a : Int) ∧ fo = .bool f ∧ Gi w Z D P g a f wr) (fun _ i _ => 2 - (intOf i).toNat)
  case atStart => exact ⟨0, false, by omega, rfl, rfl, I0.out⟩
  case round =>
    obtain ⟨a, f, ha, rfl, rfl, hI⟩ := hrel
    by_cases hlt : a < 2
    · have t0 : (a : Int) < 2 := by omega
      obtain ⟨Aa, ca, hAa, hRa, hPa⟩ : ∃ Aa ca, (#[Value.slice A0 k c0, .slice A1 k c1] : Array Value)[a]? = some (.slice Aa k ca) ∧ Rd w Aa k ca (Z.area D a) ∧ ∀ x, Aa = some x → P x.block := by
        match a, hlt with
        | 0, _ => exact ⟨A0, c0, rfl, H0.out, P0.out⟩
        | 1, _ => exact ⟨A1, c1, rfl, H1.out, P1.out⟩
        | a + 2, h => omega
      have hix : ∀ W, (Instr.index 115 (.agg #[.slice A0 k c0, .slice A1 k c1]) (.int .i64 (a : Int))).run Tryz.prog W = .ok (.slice Aa k ca) W := fun W => run_index_sl Tryz.underlying115 (by kernel_rfl) Tryz.underlying23 _ .i64 a (by omega) (by omega) _ (by simpa using hAa) rfl W
      obtain ⟨xs, hxs⟩ : ∃ xs, xs = Z.area D a := ⟨_, rfl⟩
      rw [← hxs] at hRa
      obtain ⟨z, hz⟩ : ∃ z, z = zz Z D a := ⟨_, rfl⟩
      obtain ⟨A', c', hb, hr, hp⟩ := hI.ex
      have hfo := hI.fo
      have hZN := zz_next Z D a
      rw [← hz, ← hxs] at hZN
      rw [← hz] at hb hr hfo
      have hz0 : z.1 < 0 → z.2.1 = 0 ∧ z.2.2 = [] := by rw [hz]; exact zz_none Z D a
      obtain ⟨zn, hzn⟩ : ∃ zn, zn = z.2.1 := ⟨_, rfl⟩
      obtain ⟨zl, hzl⟩ : ∃ zl, zl = z.2.2.length := ⟨_, rfl⟩
      obtain ⟨sp, hsp⟩ : ∃ sp, sp = spareOf z.1 := ⟨_, rfl⟩
      rw [← hzn, ← hzl, ← hsp] at hb
      have BW := Lib.hid hI.bel
      have KG := Lib.hid hb
      have II := Lib.hid hI
      have TK := Lib.hid (show ∀ X, X = wr → Calls Tryz.prog 83 #[.slice Aa k ca] X (GivesT xs Z.n Aa X) from fun X hX => by
        subst hX
        exact take_any Aa k ca xs Z.n X (GK.out.below (Nat.le_refl _) BW.out) (hRa.below BW.out) HK.out HN.out.1 HN.out.2)
      have HLT := Lib.hid (show a + 1 ≤ 2 by omega)
      obtain ⟨oa, hoa⟩ : ∃ oa, oa = 1 - a := ⟨_, rfl⟩
      have OT := Lib.hid (show ∀ X, Calls Tryz.prog 61 #[.int .i64 (a : Int)] X fun e w' => e = .returned (.int .i64 (oa : Int)) ∧ X = w' from fun X => by rw [hoa]; exact other_any a (by omega) X)
      have SP := Lib.hid (show spareOf (a : Int) = oa by
        rw [hoa]
        have : a = 0 ∨ a = 1 := by omega
        rcases this with rfl | rfl <;> rfl)
      have wa1 : wrap64 ((a : Int) + 1) = ((a + 1 : Nat) : Int) := (wrap_nat (a + 1) (by omega)).1
      clear hI hb hlt ha hoa
      by_cases hW : wholeP xs Z.n
      · have ew : whole xs Z.n = (numOf xs, dataOf xs) := if_pos hW
        rw [ew] at hZN
        have hnm0 : numOf xs ≠ 0 := hW.1
        have hnl := numOf_lt xs
        obtain ⟨nm, hnm⟩ : ∃ nm, nm = numOf xs := ⟨_, rfl⟩
        obtain ⟨dt, hdt⟩ : ∃ dt, dt = dataOf xs := ⟨_, rfl⟩
        rw [← hnm] at hZN hnm0 hnl
        rw [← hdt] at hZN
        have TK2 := Lib.hid (show ∀ X, X = wr → Calls Tryz.prog 83 #[.slice Aa k ca] X fun e w' => ∃ (A1' : Option Addr) (m1 c1' : Nat), e = .returned (.tuple #[.agg #[.int .u64 (nm : Int), .slice A1' m1 c1'], .bool true]) ∧ Below X.heap.size X w' ∧ dt.length = m1 ∧ Rd w' A1' m1 c1' dt ∧ ∀ x, A1' = some x → P x.block from fun X hX => (TK.out X hX).mono fun e w' ⟨num, A1', m1, c1', e1, e2, e3⟩ => by
          obtain ⟨q1, q2, q3⟩ := e3 hW
          rw [decide_eq_true hW, q1, ← hnm] at e1
          rw [← hdt] at q2
          exact ⟨A1', m1, c1', e1, e2, q2.len, q2, fun x hx => by
            obtain ⟨a0, h1, h2⟩ := q3 x hx
            rw [h2]
            exact hPa a0 h1⟩)
        clear hW ew hnm hdt TK
        cases f with
        | false =>
          have h1 : z.1 < 0 := by have := of_decide_eq_false hfo.symm; omega
          have h2 : zn = 0 := by rw [hzn]; exact (hz0 h1).1
          rw [if_pos (by rw [← hzn]; omega)] at hZN
          have ZN := Lib.hid hZN
          clear hZN hz hz0 hzn hzl hsp hfo
          go_upto_region 6 with (go_at_call 83; ((with_reducible refine (TK2.out _ rfl).mono ?_); rintro e w6 ⟨A1', m1, c1', rfl, b6, l6, r6, p6⟩; obtain ⟨g6, hg6⟩ : ∃ g6, w6.heap.size = g6 := ⟨_, rfl⟩; obtain ⟨w7, hw7⟩ : ∃ w7, w6.alloc (.cells #[.int .u64 (nm : Int), .slice A1' m1 c1'] 81) = w7 := ⟨_, rfl⟩; have B67 := Lib.hid (show Below w6.heap.size w6 w7 by rw [← hw7]; exact (Below.refl _ _).alloc (Nat.le_refl _) _); have B7 := Lib.hid (show Below w.heap.size w w7 from (BW.out.trans (b6.mono BW.out.size)).trans (B67.out.mono (Nat.le_trans BW.out.size b6.size))); have K6 := Lib.hid (show Bk w7 g6 81 #[.int .u64 (nm : Int), .slice A1' m1 c1'] by rw [← hw7]; exact Bk.newAt _ _ _ _ hg6); have KG7 := Lib.hid (show Bk w7 g 83 #[.int .u64 (zn : Int), .slice A' zl c', .int .i64 (sp : Int)] from (KG.out.below b6 KG.out.lt).below B67.out (KG.out.below b6 KG.out.lt).lt); have R7 := Lib.hid (r6.below B67.out); have PA := Lib.hid p6; have L6 := Lib.hid l6; have NE6 := Lib.hid (show g6 ≠ g from fun e => by have := (KG.out.below b6 KG.out.lt).lt; omega); have HG6 := Lib.hid hg6; have i0 : w7.cell? ⟨g6, 0, none⟩ = some (.int .u64 (nm : Int)) := K6.out.cell 0; have i1 : w7.cell? ⟨g6, 1, none⟩ = some (.slice A1' m1 c1') := K6.out.cell 1; have j0 : w7.cell? ⟨g, 0, none⟩ = some (.int .u64 (zn : Int)) := KG7.out.cell 0; clear b6 l6 r6 p6))
          clear hw7 hg6 i0 i1 j0
          have GD := Lib.hid (Below.refl w7.heap.size w7).drew
          have KX := Lib.hid (show ∀ X : World, X.heap[g6]? = w7.heap[g6]? → X.cell? ⟨g6, 0, none⟩ = some (.int .u64 (nm : Int)) ∧ X.cell? ⟨g6, 1, none⟩ = some (.slice A1' m1 c1') from fun X hX => by
            have hb : Bk X g6 81 #[.int .u64 (nm : Int), .slice A1' m1 c1'] := hX.trans K6.out
            exact ⟨hb.cell 0, hb.cell 1⟩)
          have j0 : w7.drew.cell? ⟨g, 0, none⟩ = some (.int .u64 (zn : Int)) := KG7.out.drew.cell 0
          have j1 : w7.drew.cell? ⟨g, 1, none⟩ = some (.slice A' zl c') := KG7.out.drew.cell 1
          have j2 : w7.drew.cell? ⟨g, 2, none⟩ = some (.int .i64 (sp : Int)) := KG7.out.drew.cell 2
          have v0 : w7.cell? ⟨g, 0, none⟩ = some (.int .u64 (zn : Int)) := KG7.out.cell 0
          have v1 : w7.cell? ⟨g, 1, none⟩ = some (.slice A' zl c') := KG7.out.cell 1
          have v2 : w7.cell? ⟨g, 2, none⟩ = some (.int .i64 (sp : Int)) := KG7.out.cell 2
          have u0 := KG7.out.frozen 0
          have u1 := KG7.out.frozen 1
          have u2 := KG7.out.frozen 2
          have e0 := KG7.out.drew.frozen 0
          have e1 := KG7.out.drew.frozen 1
          have e2 := KG7.out.drew.frozen 2
          (go_region_held3 (fun X => X.cell? ⟨g6, 0, none⟩ = some (.int .u64 (nm : Int)) ∧ X.cell? ⟨g6, 1, none⟩ = some (.slice A1' m1 c1')) (first
            | exact KX.out _ ((Below.heap_setCell _ ⟨g, 2, none⟩ _ g6 NE6.out).trans ((Below.heap_setCell _ ⟨g, 1, none⟩ _ g6 NE6.out).trans ((Below.heap_setCell _ ⟨g, 0, none⟩ _ g6 NE6.out).trans (GD.out.block g6 K6.out.lt))))
            | exact KX.out _ (GD.out.block g6 K6.out.lt)) (first
            | (go_at_call 61; ((with_reducible refine (OT.out _).mono ?_); rintro e w8 ⟨rfl, rfl⟩))
            | fail))
          go_wp2_with (fail)
          go_roundw
          have NE7 := Lib.hid (show ∀ x, 0 < dt.length → A1' = some x → x.block ≠ g from fun x _ hx => PL.out _ (PA.out x hx))
          case rel =>
            refine ⟨a + 1, true, HLT.out, by go_num, rfl, ⟨⟨A1', c1', ?_, ?_, ?_⟩, ?_, ?_⟩⟩
            · rw [ZN.out]
              show Bk _ g _ #[.int .u64 (nm : Int), .slice A1' dt.length c1', .int .i64 (spareOf (a : Int) : Int)]
              rw [SP.out, L6.out]
              exact ((KG7.out.drew.put 0 _).put 1 _).put 2 _
            · rw [ZN.out]
              show Rd _ A1' dt.length c1' dt
              exact rd_farB (rd_farB (rd_farB (by rw [← L6.out] at R7; exact R7.out.below GD.out) NE7.out 0 _) NE7.out 1 _) NE7.out 2 _
            · exact PA.out
            · rw [ZN.out]
              exact (decide_eq_true (Int.natCast_nonneg a)).symm
            · exact (((B7.out.trans (GD.out.mono B7.out.size)).setCell (p := ⟨g, 0, none⟩) HG.out _).setCell (p := ⟨g, 1, none⟩) HG.out _).setCell (p := ⟨g, 2, none⟩) HG.out _
          case measure => have := HLT.out; simp [intOf]; omega

        | true =>
          by_cases hgt : zn < nm
          · have y1 : (zn : Int) < (nm : Int) := by omega
            rw [if_pos (by rw [← hzn]; exact hgt)] at hZN
            have ZN := Lib.hid hZN
            clear hZN hz hz0 hzn hzl hsp hfo
            go_upto_region 6 with (go_at_call 83; ((with_reducible refine (TK2.out _ rfl).mono ?_); rintro e w6 ⟨A1', m1, c1', rfl, b6, l6, r6, p6⟩; obtain ⟨g6, hg6⟩ : ∃ g6, w6.heap.size = g6 := ⟨_, rfl⟩; obtain ⟨w7, hw7⟩ : ∃ w7, w6.alloc (.cells #[.int .u64 (nm : Int), .slice A1' m1 c1'] 81) = w7 := ⟨_, rfl⟩; have B67 := Lib.hid (show Below w6.heap.size w6 w7 by rw [← hw7]; exact (Below.refl _ _).alloc (Nat.le_refl _) _); have B7 := Lib.hid (show Below w.heap.size w w7 from (BW.out.trans (b6.mono BW.out.size)).trans (B67.out.mono (Nat.le_trans BW.out.size b6.size))); have K6 := Lib.hid (show Bk w7 g6 81 #[.int .u64 (nm : Int), .slice A1' m1 c1'] by rw [← hw7]; exact Bk.newAt _ _ _ _ hg6); have KG7 := Lib.hid (show Bk w7 g 83 #[.int .u64 (zn : Int), .slice A' zl c', .int .i64 (sp : Int)] from (KG.out.below b6 KG.out.lt).below B67.out (KG.out.below b6 KG.out.lt).lt); have R7 := Lib.hid (r6.below B67.out); have PA := Lib.hid p6; have L6 := Lib.hid l6; have NE6 := Lib.hid (show g6 ≠ g from fun e => by have := (KG.out.below b6 KG.out.lt).lt; omega); have HG6 := Lib.hid hg6; have i0 : w7.cell? ⟨g6, 0, none⟩ = some (.int .u64 (nm : Int)) := K6.out.cell 0; have i1 : w7.cell? ⟨g6, 1, none⟩ = some (.slice A1' m1 c1') := K6.out.cell 1; have j0 : w7.cell? ⟨g, 0, none⟩ = some (.int .u64 (zn : Int)) := KG7.out.cell 0; clear b6 l6 r6 p6))
            clear hw7 hg6 i0 i1 j0
            have GD := Lib.hid (Below.refl w7.heap.size w7).drew
            have KX := Lib.hid (show ∀ X : World, X.heap[g6]? = w7.heap[g6]? → X.cell? ⟨g6, 0, none⟩ = some (.int .u64 (nm : Int)) ∧ X.cell? ⟨g6, 1, none⟩ = some (.slice A1' m1 c1') from fun X hX => by
              have hb : Bk X g6 81 #[.int .u64 (nm : Int), .slice A1' m1 c1'] := hX.trans K6.out
              exact ⟨hb.cell 0, hb.cell 1⟩)
            have j0 : w7.drew.cell? ⟨g, 0, none⟩ = some (.int .u64 (zn : Int)) := KG7.out.drew.cell 0
            have j1 : w7.drew.cell? ⟨g, 1, none⟩ = some (.slice A' zl c') := KG7.out.drew.cell 1
            have j2 : w7.drew.cell? ⟨g, 2, none⟩ = some (.int .i64 (sp : Int)) := KG7.out.drew.cell 2
            have v0 : w7.cell? ⟨g, 0, none⟩ = some (.int .u64 (zn : Int)) := KG7.out.cell 0
            have v1 : w7.cell? ⟨g, 1, none⟩ = some (.slice A' zl c') := KG7.out.cell 1
            have v2 : w7.cell? ⟨g, 2, none⟩ = some (.int .i64 (sp : Int)) := KG7.out.cell 2
            have u0 := KG7.out.frozen 0
            have u1 := KG7.out.frozen 1
            have u2 := KG7.out.frozen 2
            have e0 := KG7.out.drew.frozen 0
            have e1 := KG7.out.drew.frozen 1
            have e2 := KG7.out.drew.frozen 2
            (go_region_held3 (fun X => X.cell? ⟨g6, 0, none⟩ = some (.int .u64 (nm : Int)) ∧ X.cell? ⟨g6, 1, none⟩ = some (.slice A1' m1 c1')) (first
              | exact KX.out _ ((Below.heap_setCell _ ⟨g, 2, none⟩ _ g6 NE6.out).trans ((Below.heap_setCell _ ⟨g, 1, none⟩ _ g6 NE6.out).trans ((Below.heap_setCell _ ⟨g, 0, none⟩ _ g6 NE6.out).trans (GD.out.block g6 K6.out.lt))))
              | exact KX.out _ (GD.out.block g6 K6.out.lt)) (first
              | (go_at_call 61; ((with_reducible refine (OT.out _).mono ?_); rintro e w8 ⟨rfl, rfl⟩))
              | fail))
            go_wp2_with (fail)
            go_roundw
            have NE7 := Lib.hid (show ∀ x, 0 < dt.length → A1' = some x → x.block ≠ g from fun x _ hx => PL.out _ (PA.out x hx))
            case rel =>
              refine ⟨a + 1, true, HLT.out, by go_num, rfl, ⟨⟨A1', c1', ?_, ?_, ?_⟩, ?_, ?_⟩⟩
              · rw [ZN.out]
                show Bk _ g _ #[.int .u64 (nm : Int), .slice A1' dt.length c1', .int .i64 (spareOf (a : Int) : Int)]
                rw [SP.out, L6.out]
                exact ((KG7.out.drew.put 0 _).put 1 _).put 2 _
              · rw [ZN.out]
                show Rd _ A1' dt.length c1' dt
                exact rd_farB (rd_farB (rd_farB (by rw [← L6.out] at R7; exact R7.out.below GD.out) NE7.out 0 _) NE7.out 1 _) NE7.out 2 _
              · exact PA.out
              · rw [ZN.out]
                exact (decide_eq_true (Int.natCast_nonneg a)).symm
              · exact (((B7.out.trans (GD.out.mono B7.out.size)).setCell (p := ⟨g, 0, none⟩) HG.out _).setCell (p := ⟨g, 1, none⟩) HG.out _).setCell (p := ⟨g, 2, none⟩) HG.out _
            case measure => have := HLT.out; simp [intOf]; omega

          · have y1 : ¬ (zn : Int) < (nm : Int) := by omega
            rw [if_neg (by rw [← hzn]; exact hgt), hz] at hZN
            have ZN := Lib.hid hZN
            clear hZN hz hz0 hzn hzl hsp hfo
            go_wp2_with (go_at_call 83; ((with_reducible refine (TK2.out _ rfl).mono ?_); rintro e w6 ⟨A1', m1, c1', rfl, b6, _, _, _⟩; obtain ⟨g6, hg6⟩ : ∃ g6, w6.heap.size = g6 := ⟨_, rfl⟩; obtain ⟨w7, hw7⟩ : ∃ w7, w6.alloc (.cells #[.int .u64 (nm : Int), .slice A1' m1 c1'] 81) = w7 := ⟨_, rfl⟩; have B67 := Lib.hid (show Below w6.heap.size w6 w7 by rw [← hw7]; exact (Below.refl _ _).alloc (Nat.le_refl _) _); have B7 := Lib.hid (show Below wr.heap.size wr w7 from b6.trans (B67.out.mono b6.size)); have K6 := Lib.hid (show Bk w7 g6 81 #[.int .u64 (nm : Int), .slice A1' m1 c1'] by rw [← hw7]; exact Bk.newAt _ _ _ _ hg6); have KG7 := Lib.hid (show Bk w7 g 83 #[.int .u64 (zn : Int), .slice A' zl c', .int .i64 (sp : Int)] from KG.out.below B7.out KG.out.lt); have i0 : w7.cell? ⟨g6, 0, none⟩ = some (.int .u64 (nm : Int)) := K6.out.cell 0; have j0 : w7.cell? ⟨g, 0, none⟩ = some (.int .u64 (zn : Int)) := KG7.out.cell 0; clear b6))
            go_roundw
            case rel => exact ⟨a + 1, true, HLT.out, by go_num, rfl, II.out.next ZN.out B7.out⟩
            case measure => have := HLT.out; simp [intOf]; omega

      · have ew : whole xs Z.n = (0, []) := if_neg hW
        rw [ew, if_neg (by show ¬ _ < 0; omega), hz] at hZN
        have TK3 := Lib.hid (show ∀ X, X = wr → Calls Tryz.prog 83 #[.slice Aa k ca] X fun e w' => ∃ (nm : Nat) (A1' : Option Addr) (m1 c1' : Nat), e = .returned (.tuple #[.agg #[.int .u64 (nm : Int), .slice A1' m1 c1'], .bool false]) ∧ Below X.heap.size X w' from fun X hX => (TK.out X hX).mono fun e w' ⟨num, A1', m1, c1', e1, e2, e3⟩ => by
          rw [decide_eq_false hW] at e1
          exact ⟨num, A1', m1, c1', e1, e2⟩)
        clear hW ew TK
        have ZN := Lib.hid hZN
        clear hZN hz hz0 hzn hzl hsp hfo
        go_wp2_with (go_at_call 83; ((with_reducible refine (TK3.out _ rfl).mono ?_); rintro e w6 ⟨nm, A1', m1, c1', rfl, b6⟩; obtain ⟨g6, hg6⟩ : ∃ g6, w6.heap.size = g6 := ⟨_, rfl⟩; obtain ⟨w7, hw7⟩ : ∃ w7, w6.alloc (.cells #[.int .u64 (nm : Int), .slice A1' m1 c1'] 81) = w7 := ⟨_, rfl⟩; have B67 := Lib.hid (show Below w6.heap.size w6 w7 by rw [← hw7]; exact (Below.refl _ _).alloc (Nat.le_refl _) _); have B7 := Lib.hid (show Below wr.heap.size wr w7 from b6.trans (B67.out.mono b6.size)); have K6 := Lib.hid (show Bk w7 g6 81 #[.int .u64 (nm : Int), .slice A1' m1 c1'] by rw [← hw7]; exact Bk.newAt _ _ _ _ hg6); have KG7 := Lib.hid (show Bk w7 g 83 #[.int .u64 (zn : Int), .slice A' zl c', .int .i64 (sp : Int)] from KG.out.below B7.out KG.out.lt); have i0 : w7.cell? ⟨g6, 0, none⟩ = some (.int .u64 (nm : Int)) := K6.out.cell 0; have j0 : w7.cell? ⟨g, 0, none⟩ = some (.int .u64 (zn : Int)) := KG7.out.cell 0; clear b6))
        go_roundw
        case rel => exact ⟨a + 1, f, HLT.out, by go_num, rfl, II.out.next ZN.out B7.out⟩
        case measure => have := HLT.out; simp [intOf]; omega

    · obtain rfl : a = 2 := by omega
      have t0 : ¬ ((2 : Nat) : Int) < 2 := by omega
      obtain ⟨A', c', hb, hr, hp⟩ := hI.ex
      have e2 : zz Z D 2 = Z.seen D := rfl
      have hfo := hI.fo
      have FB := Lib.hid hI.bel
      rw [e2] at hb hr hfo
      have NE := Lib.hid (show ∀ x, 0 < (Z.seen D).2.2.length → A' = some x → x.block ≠ g from fun x _ hx => PL.out _ (hp x hx))
      have FIN := Lib.hid (show ∀ X, Below w.heap.size w X → Rd X A' (Z.seen D).2.2.length c' (Z.seen D).2.2 → GivesG Z D P w (.returned (.tuple #[.agg #[.int .u64 ((Z.seen D).2.1 : Int), .slice A' (Z.seen D).2.2.length c', .int .i64 (spareOf (Z.seen D).1 : Int)], .bool f])) X from fun X h1 h2 => ⟨A', c', by rw [hfo], h2, hp, h1⟩)
      obtain ⟨zn, hzn⟩ : ∃ zn, zn = (Z.seen D).2.1 := ⟨_, rfl⟩
      obtain ⟨zb, hzb⟩ : ∃ zb, zb = (Z.seen D).2.2 := ⟨_, rfl⟩
      obtain ⟨zl, hzl⟩ : ∃ zl, zl = zb.length := ⟨_, rfl⟩
      obtain ⟨sp, hsp⟩ : ∃ sp, sp = spareOf (Z.seen D).1 := ⟨_, rfl⟩
      rw [← hzb, ← hzl] at FIN NE hb hr
      rw [← hzn, ← hsp] at FIN hb
      have KG := Lib.hid hb
      have RR := Lib.hid hr
      have j0 : wr.cell? ⟨g, 0, none⟩ = some (.int .u64 (zn : Int)) := KG.out.cell 0
      have j1 : wr.cell? ⟨g, 1, none⟩ = some (.slice A' zl c') := KG.out.cell 1
      have j2 : wr.cell? ⟨g, 2, none⟩ = some (.int .i64 (sp : Int)) := KG.out.cell 2
      have u0 := KG.out.frozen 0
      have u1 := KG.out.frozen 1
      have u2 := KG.out.frozen 2
      clear hI hb hr hp hfo e2 hzn hzb hzl hsp
      go_wp2_with (fail)
      refine bodyPost_ret (results_struct_tmp rfl _ _ g _ _ _ _ rfl (((KG.out.put 0 _).put 1 _).put 2 _) Tryz.underlying83 rfl Tryz.infoKnown) rfl ?_
      exact FIN.out _ (((FB.out.setCell (p := ⟨g, 0, none⟩) HG.out _).setCell (p := ⟨g, 1, none⟩) HG.out _).setCell (p := ⟨g, 2, none⟩) HG.out _) (rd_farB (rd_farB (rd_farB RR.out NE.out 0 _) NE.out 1 _) NE.out 2 _)
end Go.Proofs.YtnoflgkjdibblaaGreatDoor.S20
