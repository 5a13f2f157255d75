/-
  Texts put together: SkF, SkG. No statement is proved here.
-/
import Derived.Test.YtdbamdbdogdpjaaGreatDoorWa33

/-
  What the landed slots' Load does while the disk is up. No statement is proved here.
-/
namespace Go.Proofs.YtdbamdbdogdpjaaGreatDoor.S20
set_option linter.unusedSimpArgs false
set_option linter.unusedVariables false
set_option maxRecDepth 8192
open Go.RowKit S19

/-- Where Load's two rows lie, while they are read. -/
structure Lr (w : World) (g3 gA m : Nat) (Z : Sl) (D : Dk) (a : Nat) (wr : World) : Prop where
  bel : Below w.heap.size w wr
  k3 : Bk wr g3 25 #[.int .i64 0]
  cs : ∃ cs : Array Value, Bk wr gA 83 cs ∧ cs.size = 2 ∧ (∀ i, i < a → ∃ A c, cs[i]? = some (.slice A m c) ∧ Rd wr A m c (Z.area D i) ∧ ∀ x, A = some x → gA < x.block ∧ x.block < wr.heap.size) ∧ (∀ i, a ≤ i → i < 2 → cs[i]? = some (.slice none 0 0))
/-- One row more has been read. -/
theorem Lr.next {w : World} {g3 gA m : Nat} {Z : Sl} {D : Dk} {a : Nat} {wr w5 : World} {A5 : Option Addr} {c5 : Nat} (h : Lr w g3 gA m Z D a wr) (ha : a < 2) (hA : w.heap.size ≤ gA) (h3 : g3 ≠ gA) (hb : Below wr.heap.size wr w5) (hg : gA < wr.heap.size) (ho : w5.ownsRow wr.heap.size 5 1 (.slice A5 m c5) m (bv (Z.area D a))) :
    Lr w g3 gA m Z D (a + 1) (w5.setCell ⟨gA, a, none⟩ (.slice A5 m c5)) := by
  obtain ⟨cs, h1, h2, h4, h5⟩ := h.cs
  have hsz : (w5.setCell ⟨gA, a, none⟩ (.slice A5 m c5)).heap.size = w5.heap.size := by simp
  refine ⟨(h.bel.trans (hb.mono h.bel.size)).setCell (p := ⟨gA, a, none⟩) hA _, (h.k3.below hb h.k3.lt).far h3 _, _, (h1.below hb h1.lt).put a _, by rw [Array.size_setIfInBounds]; exact h2, fun i hi => ?_, fun i hi hi2 => ?_⟩
  · by_cases e : i = a
    · subst e
      refine ⟨A5, c5, Array.getElem?_setIfInBounds_self_of_lt (by rw [h2]; exact ha), ?_, fun x hx => ?_⟩
      · exact rd_farB (Rd.own ho) (fun x _ hx e => by have := (ho.lt x.block (by rw [hx]; rfl)).1; omega) _ _
      · have := (ho.lt x.block (by rw [hx]; rfl)).1
        have h9 := (ho.lt x.block (by rw [hx]; rfl)).2
        rw [hsz]
        omega
    · obtain ⟨A, c, q1, q2, q3⟩ := h4 i (by omega)
      refine ⟨A, c, by rw [Array.getElem?_setIfInBounds_ne (Ne.symm e)]; exact q1, rd_farB (q2.below hb) (fun x _ hx e => by have := q3 x hx; omega) _ _, fun x hx => ⟨(q3 x hx).1, ?_⟩⟩
      have := (q3 x hx).2
      have := hb.size
      rw [hsz]
      omega
  · rw [Array.getElem?_setIfInBounds_ne (by omega)]
    exact h5 i (by omega) hi2
theorem Lr.two {w : World} {g3 gA m : Nat} {Z : Sl} {D : Dk} {wr : World} (h : Lr w g3 gA m Z D 2 wr) : ∃ A0 c0 A1 c1, Bk wr gA 83 #[.slice A0 m c0, .slice A1 m c1] ∧ Rd wr A0 m c0 (Z.area D 0) ∧ Rd wr A1 m c1 (Z.area D 1) ∧ (∀ x, A0 = some x → gA < x.block ∧ x.block < wr.heap.size) ∧ (∀ x, A1 = some x → gA < x.block ∧ x.block < wr.heap.size) := by
  obtain ⟨cs, h1, h2, h4, _⟩ := h.cs
  obtain ⟨A0, c0, q1, q2, q3⟩ := h4 0 (by omega)
  obtain ⟨A1, c1, r1, r2, r3⟩ := h4 1 (by omega)
  refine ⟨A0, c0, A1, c1, ?_, q2, r2, q3, r3⟩
  have e : cs = #[.slice A0 m c0, .slice A1 m c1] := by
    apply Array.ext
    · simpa using h2
    · intro i h5 h6
      have : i = 0 ∨ i = 1 := by omega
      rcases this with rfl | rfl
      · have := Array.getElem?_eq_some_iff.1 q1
        obtain ⟨_, e⟩ := this
        simpa using e
      · have := Array.getElem?_eq_some_iff.1 r1
        obtain ⟨_, e⟩ := this
        simpa using e
  rw [← e]
  exact h1
theorem goes_spare (Z : Sl) (D : Dk) (ho : D.off = false) : (Z.load D).goes = spareOf (Z.seen D).1 ∧ (Z.load D).num = (Z.seen D).2.1 ∧ (Z.load D).b = (Z.seen D).2.2 ∧ (Z.load D).first = Z.first ∧ (Z.load D).n = Z.n := by
  have e : Z.load D = { Z with at_ := (Z.seen D).1, num := (Z.seen D).2.1, b := (Z.seen D).2.2 } := by rw [Sl.load, if_neg (by rw [ho]; simp)]
  rw [e]
  exact ⟨rfl, rfl, rfl, rfl, rfl⟩
theorem seen_few (Z : Sl) (D : Dk) (h : 1 ≤ Z.n ∧ Z.n ≤ 8) : (Z.seen D).2.2.length ≤ 1000000 := by
  have hw : ∀ i, (whole (Z.area D i) Z.n).2.length ≤ 1000 := fun i => by
    unfold whole
    split
    · rename_i hw
      have h1 := hw.2.1
      rw [room_nat h.1 h.2] at h1
      show (dataOf _).length ≤ _
      unfold dataOf
      rw [List.length_take]
      omega
    · simp
  have hl : ∀ i z, z.2.2.length ≤ 1000000 → (Z.look D i z).2.2.length ≤ 1000000 := fun i z hz => by
    unfold Sl.look
    split
    · have := hw i
      show (whole (Z.area D i) Z.n).2.length ≤ _
      omega
    · exact hz
  exact hl 1 _ (hl 0 _ (by simp))
/-- The slots, once what counts is another record. -/
theorem Sz.store {N : Nat} {w : World} {s g : Nat} {Z Z' : Sl} {S : Nat → Prop} {A : Option Addr} {n c num sp : Nat} {b : List UInt8} (r : Sz N w s g Z S) (hR : Rd w A n c b) (hA : ∀ a, 0 < n → A = some a → N ≤ a.block ∧ a.block ≠ s) (e1 : Z'.first = Z.first) (e2 : Z'.n = Z.n) (e3 : Z'.num = num) (e4 : Z'.b = b) (e5 : Z'.goes = sp) (hf : b.length ≤ 1000000) :
    Sz N (((w.setCell ⟨s, 3, none⟩ (.int .u64 (num : Int))).setCell ⟨s, 4, none⟩ (.slice A n c)).setCell ⟨s, 5, none⟩ (.int .i64 (sp : Int))) s g Z' (fun x => S x ∨ ∃ a, 0 < n ∧ A = some a ∧ a.block = x) := by
  obtain ⟨A0, c0, h1, _, _⟩ := r.ex
  have hn := hR.len
  subst hn
  refine ⟨⟨A, c, ?_, ?_, fun a h2 h3 => ?_⟩, .inl r.at_, ?_, by rw [e4]; exact hf⟩
  · have h := ((h1.put 3 (.int .u64 (num : Int))).put 4 (.slice A b.length c)).put 5 (.int .i64 (sp : Int))
    unfold skA
    rw [e1, e2, e3, e4, e5]
    exact h
  · rw [e4]
    exact rd_farB (rd_farB (rd_farB hR (fun a h2 h3 => (hA a h2 h3).2) _ _) (fun a h2 h3 => (hA a h2 h3).2) _ _) (fun a h2 h3 => (hA a h2 h3).2) _ _
  · rw [e4] at h2
    exact ⟨.inr ⟨a, h2, h3, rfl⟩, (hA a h2 h3).2⟩
  · rintro x (h | ⟨a, h2, h3, rfl⟩)
    · exact ⟨(r.lt x h).1, by simpa using (r.lt x h).2⟩
    · refine ⟨(hA a h2 h3).1, ?_⟩
      obtain ⟨bb, off, e, hb, _⟩ := hR.at_ h2
      rw [h3] at e
      injection e with e
      subst e
      simpa using hb
theorem Sz.stored {N : Nat} {w : World} {s g : Nat} {Z : Sl} {S : Nat → Prop} (r : Sz N w s g Z S) (u v x : Value) : Mv N S w (((w.setCell ⟨s, 3, none⟩ u).setCell ⟨s, 4, none⟩ v).setCell ⟨s, 5, none⟩ x) :=
  ⟨(((Below.refl _ _).setCell (show N ≤ (⟨s, 3, none⟩ : Addr).block from r.sz.2) u).setCell (show N ≤ (⟨s, 4, none⟩ : Addr).block from r.sz.2) v).setCell (show N ≤ (⟨s, 5, none⟩ : Addr).block from r.sz.2) x, fun b _ hb => by
    have hne : b ≠ s := fun e => hb (by rw [e]; exact r.at_)
    exact (Below.heap_setCell _ ⟨s, 5, none⟩ x b hne).trans ((Below.heap_setCell _ ⟨s, 4, none⟩ v b hne).trans (Below.heap_setCell _ ⟨s, 3, none⟩ u b hne))⟩
end Go.Proofs.YtdbamdbdogdpjaaGreatDoor.S20

/-
  What the landed slots' Load does while the disk is up. No statement is proved here. (Written by gensk_g.py.)
-/
namespace Go.Proofs.YtdbamdbdogdpjaaGreatDoor.S20
set_option linter.unusedSimpArgs false
set_option linter.unusedVariables false
set_option maxRecDepth 8192
open Go.RowKit S19

set_option maxHeartbeats 8000000 in
theorem load_on (N : Nat) (w : World) (s g : Nat) (D : Dk) (Z : Sl) (F S : Nat → Prop) (hgk : S2.GOk w) (tk : Kn N w g D F) (ts : Sz N w s g Z S) (hFS : ∀ b, F b → ¬ S b) (zo : Z.Ok D) (ho : D.off = false) :
    Calls Tryz.prog 12 #[.pointer (some ⟨s, 0, none⟩)] w (PostLd N s g D Z F S w) := by
  have hmf : ∀ (fn : Fn) (first cap : Array Value) (w : World), (Instr.makeFunc fn first cap).run Tryz.prog w = .ok (.func fn first cap) w := fun _ _ _ _ => rfl
  obtain ⟨m, hm⟩ : ∃ m, m = 64 * Z.n := ⟨_, rfl⟩
  have hn8 := zo.most
  have hn1 := zo.one
  obtain ⟨g3, hg3⟩ : ∃ g3, w.heap.size = g3 := ⟨_, rfl⟩
  obtain ⟨w0, hw0⟩ : ∃ w0, w.alloc (.cells #[.int .i64 0] 25) = w0 := ⟨_, rfl⟩
  obtain ⟨gA, hgA⟩ : ∃ gA, w0.heap.size = gA := ⟨_, rfl⟩
  obtain ⟨w1, hw1⟩ : ∃ w1, w0.alloc (.cells #[.slice none 0 0, .slice none 0 0] 83) = w1 := ⟨_, rfl⟩
  have s0 : w0.heap.size = w.heap.size + 1 := by rw [← hw0]; simp
  have B0 := Lib.hid (show Below w.heap.size w w0 by rw [← hw0]; exact (Below.refl _ _).alloc (Nat.le_refl _) _)
  have HG := Lib.hid (show w.heap.size = g3 ∧ g3 < gA from ⟨hg3, by omega⟩)
  have L0 := Lib.hid (show Lr w g3 gA m Z D 0 w1 from ⟨by rw [← hw1]; exact B0.out.alloc B0.out.size _, by rw [← hw1, ← hw0]; exact (Bk.newAt _ _ _ _ hg3).alloc _, _, by rw [← hw1]; exact Bk.newAt _ _ _ _ hgA, rfl, fun i hi => absurd hi (by omega), fun i _ hi => by
    match i, hi with
    | 0, _ => rfl
    | 1, _ => rfl
    | i + 2, hi => omega⟩)
  have RD_ := Lib.hid (show ∀ X (a : Nat), Below w.heap.size w X → a < 2 → Calls Tryz.prog 41 #[.pointer (some ⟨s, 0, none⟩), .int .i64 (a : Int)] X fun e w' => ∃ A c, e = .returned (.slice A m c) ∧ w'.ownsRow X.heap.size 5 1 (.slice A m c) m (bv (Z.area D a)) ∧ Below X.heap.size X w' from fun X a hX ha => (read_on N X s g D Z F S (tk.below hX) (ts.grow hX) zo ho a ha).mono fun e w' ⟨A, n, c, h1, h2, h3⟩ => by
    have hl := own_len h2
    have hl2 : (Z.area D a).length = m := by
      rw [hm]
      refine areaK_len tk.ok Z.n ?_
      have := zo.fits
      have h9 : a = 0 ∨ a = 1 := by omega
      rcases h9 with rfl | rfl <;> omega
    obtain rfl : m = n := by omega
    exact ⟨A, c, h1, h2, h3⟩)
  have TK := Lib.hid tk
  have TS := Lib.hid ts
  have HD := Lib.hid (show (∀ b, F b → ¬ S b) ∧ (∀ b, F b → b < g3) ∧ (∀ b, S b → b < g3) ∧ N ≤ w.heap.size from ⟨hFS, fun b h => by have := (tk.lt b h).2; omega, fun b h => by have := (ts.lt b h).2; omega, by have := ts.sz; omega⟩)
  have HM := Lib.hid (show m = 64 * Z.n ∧ 1 ≤ Z.n ∧ Z.n ≤ 8 from ⟨hm, hn1, hn8⟩)
  have GK := Lib.hid hgk
  have HO := Lib.hid ho
  have SP := Lib.hid (goes_spare Z D ho)
  clear hm hn8 hn1 s0 tk ts hFS zo ho hgk
  go_enter_defers Tryz.func12, Tryz.ntmps12
  go_wp2_with (fail)
  go_loopw [9] (fun i wr => ∃ a : Nat, a ≤ 2 ∧ i = .int .i64 (a : Int) ∧ Lr w g3 gA m Z D a wr) (fun i _ => 2 - (intOf i).toNat)
  case atStart => exact ⟨0, by omega, rfl, L0.out⟩
  case round =>
    obtain ⟨a, ha, rfl, hL⟩ := hrel
    clear hw0 hw1 hg3 hgA
    by_cases hlt : a < 2
    · have t0 : (a : Int) < 2 := by omega
      have LA := Lib.hid hL
      have HLT := Lib.hid hlt
      clear hL
      go_wp2_with (go_at_call 41; ((with_reducible refine (RD_.out _ a LA.out.bel HLT.out).mono ?_); rintro e w5 ⟨A5, c5, rfl, o5, b5⟩; have O5 := Lib.hid o5; have B5 := Lib.hid b5; obtain ⟨cs, q1, q2, _, q4⟩ := LA.out.cs; have K5 := Lib.hid (q1.below b5 q1.lt); have LT5 := Lib.hid q1.lt; have k5 : w5.cell? ⟨gA, a, none⟩ = some (.slice none 0 0) := (cell_of K5.out a).trans (q4 a (Nat.le_refl _) HLT.out); have f5 := K5.out.frozen a; clear o5 b5 q1 q2 q4))
      go_roundw
      case rel => exact ⟨a + 1, HLT.out, by go_num, LA.out.next HLT.out (by have := HG.out; omega) (by have := HG.out; omega) B5.out LT5.out O5.out⟩
      case measure => have := HLT.out; simp [intOf]; omega
    · obtain rfl : a = 2 := by omega
      have t0 : ¬ ((2 : Nat) : Int) < 2 := by omega
      obtain ⟨A0, c0, A1, c1, kA, r0, r1, p0, p1⟩ := hL.two
      have LA := Lib.hid hL
      have KA := Lib.hid kA
      have R0 := Lib.hid r0
      have R1 := Lib.hid r1
      have PP := Lib.hid (show (∀ x, A0 = some x → gA < x.block ∧ x.block < wr.heap.size) ∧ (∀ x, A1 = some x → gA < x.block ∧ x.block < wr.heap.size) from ⟨p0, p1⟩)
      have hc0 : wr.cell? ⟨gA, 0, none⟩ = some (.slice A0 m c0) := kA.cell 0
      have hc1 : wr.cell? ⟨gA, 1, none⟩ = some (.slice A1 m c1) := kA.cell 1
      have GR := Lib.hid (greatest_any Z D A0 A1 m c0 c1 (fun b => gA < b ∧ b < wr.heap.size) wr (GK.out.below (Nat.le_refl _) LA.out.bel) r0 r1 p0 p1 (fun b h => h.2) HM.out.1 HM.out.2.1 HM.out.2.2)
      obtain ⟨sn, hsn⟩ : ∃ sn, sn = (Z.seen D).2.1 := ⟨_, rfl⟩
      obtain ⟨sb, hsb⟩ : ∃ sb, sb = (Z.seen D).2.2 := ⟨_, rfl⟩
      obtain ⟨sl, hsl⟩ : ∃ sl, sl = sb.length := ⟨_, rfl⟩
      obtain ⟨sp, hsp⟩ : ∃ sp, sp = spareOf (Z.seen D).1 := ⟨_, rfl⟩
      obtain ⟨fo, hfo⟩ : ∃ fo, fo = decide (0 ≤ (Z.seen D).1) := ⟨_, rfl⟩
      have GR2 := Lib.hid (show Calls Tryz.prog 42 #[.agg #[.slice A0 m c0, .slice A1 m c1]] wr fun e w' => ∃ A' c', e = .returned (.tuple #[.agg #[.int .u64 (sn : Int), .slice A' sl c', .int .i64 (sp : Int)], .bool fo]) ∧ Rd w' A' sl c' sb ∧ (∀ x, A' = some x → gA < x.block ∧ x.block < wr.heap.size) ∧ Below wr.heap.size wr w' from by
        rw [hsn, hsl, hsp, hsb, hfo]
        exact GR.out)
      have SV := Lib.hid (show (Z.load D).goes = sp ∧ (Z.load D).num = sn ∧ (Z.load D).b = sb ∧ (Z.load D).first = Z.first ∧ (Z.load D).n = Z.n ∧ sb.length ≤ 1000000 from ⟨by rw [hsp]; exact SP.out.1, by rw [hsn]; exact SP.out.2.1, by rw [hsb]; exact SP.out.2.2.1, SP.out.2.2.2.1, SP.out.2.2.2.2, by rw [hsb]; exact seen_few Z D HM.out.2⟩)
      have FO := Lib.hid (show ∀ b : Bool, fo = b → (b = true ↔ 0 ≤ (Z.seen D).1) from fun b h => by rw [← h, hfo]; exact decide_eq_true_iff)
      have HSL := Lib.hid hsl
      clear hL kA r0 r1 p0 p1 GR hsn hsb hsl hsp hfo SP
      go_upto_region 10 with (go_at_call 42; ((with_reducible refine GR2.out.mono ?_); rintro e w6 ⟨A6, c6, rfl, r6, p6, b6⟩; have R6 := Lib.hid r6; have P6 := Lib.hid p6; have B6 := Lib.hid b6; have B06 := Lib.hid (LA.out.bel.trans (b6.mono LA.out.bel.size)); have S6 := Lib.hid (TS.out.grow B06.out); obtain ⟨A9, c9, hb9, _, _⟩ := S6.out.ex; have i3 : w6.cell? ⟨s, 3, none⟩ = some (.int .u64 (Z.num : Int)) := hb9.cell 3; have i4 : w6.cell? ⟨s, 4, none⟩ = some (.slice A9 Z.b.length c9) := hb9.cell 4; have i5 : w6.cell? ⟨s, 5, none⟩ = some (.int .i64 (Z.goes : Int)) := hb9.cell 5; have f3 := hb9.frozen 3; have f4 := hb9.frozen 4; have f5 := hb9.frozen 5; clear r6 p6 b6 hb9))
      obtain ⟨w7, hw7⟩ : ∃ w7, ((w6.setCell ⟨s, 3, none⟩ (.int .u64 (sn : Int))).setCell ⟨s, 4, none⟩ (.slice A6 sl c6)).setCell ⟨s, 5, none⟩ (.int .i64 (sp : Int)) = w7 := ⟨_, rfl⟩
      rw [hw7]
      have SL6 := Lib.hid (show s < g3 from HD.out.2.2.1 s TS.out.at_)
      have hne : ∀ b, b ≠ s → w7.heap[b]? = w6.heap[b]? := fun b hb => by
        rw [← hw7]
        exact (Below.heap_setCell _ ⟨s, 5, none⟩ _ b hb).trans ((Below.heap_setCell _ ⟨s, 4, none⟩ _ b hb).trans (Below.heap_setCell _ ⟨s, 3, none⟩ _ b hb))
      have hz7 : w7.heap.size = w6.heap.size := by rw [← hw7]; simp
      have SZ7 := Lib.hid (show Sz N w7 s g (Z.load D) (fun x => S x ∨ ∃ a, 0 < sl ∧ A6 = some a ∧ a.block = x) from by
        rw [← hw7]
        exact S6.out.store R6.out (fun a h1 h2 => by have := P6.out a h2; have := HG.out; have := HD.out.2.2.2; have := SL6.out; omega) SV.out.2.2.2.1 SV.out.2.2.2.2.1 SV.out.2.1 SV.out.2.2.1 SV.out.1 SV.out.2.2.2.2.2)
      have M7 := Lib.hid (show Mv N S w w7 from by
        have h1 : Mv N S w w6 := Mv.of HD.out.2.2.2 B06.out
        refine h1.trans (F' := S) ?_ (fun b h => .inl h)
        rw [← hw7]
        exact S6.out.stored _ _ _)
      have KN7 := Lib.hid (show Kn N w7 g D F from (TK.out.below B06.out).keep (by omega) fun b hb _ => hne b fun e => HD.out.1 b hb (by rw [e]; exact TS.out.at_))
      have KA7 := Lib.hid (show Bk w7 gA 83 #[.slice A0 m c0, .slice A1 m c1] from (hne gA (by have := HG.out; have := SL6.out; omega)).trans (KA.out.below B6.out KA.out.lt))
      have K37 := Lib.hid (show Bk w7 g3 25 #[.int .i64 0] from (hne g3 (by have := SL6.out; omega)).trans (LA.out.k3.below B6.out LA.out.k3.lt))
      have RK := Lib.hid (show ∀ (A : Option Addr) (c : Nat) (xs : List UInt8), Rd wr A m c xs → (∀ x, A = some x → gA < x.block ∧ x.block < wr.heap.size) → Rd w7 A m c xs from fun A c xs h hp => by
        have h6 := h.below B6.out
        rw [← hw7]
        have hs : ∀ a, 0 < m → A = some a → a.block ≠ s := fun a _ ha e => by have := (hp a ha).1; have := HG.out; have := SL6.out; omega
        exact rd_farB (rd_farB (rd_farB h6 hs _ _) hs _ _) hs _ _)
      have T7 := Lib.hid (show Two2 w7 gA m (fun i => Z.area D i) from fun i hi => by
        match i, hi with
        | 0, _ => exact ⟨A0, c0, KA7.out.cell 0, RK.out A0 c0 _ R0.out PP.out.1⟩
        | 1, _ => exact ⟨A1, c1, KA7.out.cell 1, RK.out A1 c1 _ R1.out PP.out.2⟩
        | i + 2, hi => omega)
      have FIN := Lib.hid (show ∀ (X : World) (u : Value) (A : Option Addr) (n c num cd : Nat) (b : List UInt8), Below w7.heap.size w7 X → Rd X A n c b → (∀ a, 0 < n → A = some a → w7.heap.size ≤ a.block) → Z.loadB D = b → Z.loadN D = num → Z.loadC D = cd → PostLd N s g D Z F S w (.returned (.tuple #[.slice A n c, .int .u64 (num : Int), .int .i64 (cd : Int)])) (X.setCell ⟨g3, 0, none⟩ u) from fun X u A n c num cd b hX hR hA e1 e2 e3 =>
        load_fin HD.out.2.2.2 HG.out.1 KN7.out SZ7.out M7.out K37.out.lt HD.out.2.1 (fun x h => h.imp id (fun ⟨a, _, h2, h3⟩ => by have := P6.out a h2; have := HG.out; omega)) HD.out.2.2.1 HD.out.1 hX u hR hA e1 e2 e3)
      have CB := Lib.hid (contains_blank w7 gA m _ T7.out KA7.out.lt (by have := HM.out; omega))
      have HY := Lib.hid (fun k X => LV.need_yes k X)
      have HN := Lib.hid (fun k X => LV.need_no k X)
      have j0 : w7.cell? ⟨gA, 0, none⟩ = some (.slice A0 m c0) := KA7.out.cell 0
      have j1 : w7.cell? ⟨gA, 1, none⟩ = some (.slice A1 m c1) := KA7.out.cell 1
      have LC := Lib.hid (show Z.loadC D = if (Z.seen D).1 < 0 then (if blank (Z.area D 0) Z.n || blank (Z.area D 1) Z.n then 11 else 8) else 0 from by rw [Sl.loadC, if_neg (by rw [HO.out]; simp)])
      have BE := Lib.hid (show (blankR m (fun i => Z.area D i) 0 || blankR m (fun i => Z.area D i) 1) = (blank (Z.area D 0) Z.n || blank (Z.area D 1) Z.n) from by rw [blankR, blankR, HM.out.1, same_blank, same_blank])
      rw [BE.out] at CB
      clear hw7 hne hz7 i3 i4 i5 f3 f4 f5 hc0 hc1
      cases hfo : fo with
      | false =>
        subst hfo
        have hneg : (Z.seen D).1 < 0 := by
          have h := (FO.out false rfl).2
          by_cases h1 : 0 ≤ (Z.seen D).1
          · exact absurd (h h1) (by simp)
          · omega
        rw [if_pos hneg] at LC
        have LE := Lib.hid (show ∀ cd, Z.loadC D = cd → cd ≠ 0 → Z.loadB D = [] ∧ Z.loadN D = 0 from fun cd h1 h2 => ⟨by rw [Sl.loadB, h1, if_neg h2], by rw [Sl.loadN, h1, if_neg h2]⟩)
        cases hbl : (blank (Z.area D 0) Z.n || blank (Z.area D 1) Z.n) with
        | true =>
          rw [hbl] at CB LC
          rw [if_pos rfl] at LC
          have FN := Lib.hid (LE.out 11 LC.out (by decide))
          clear hbl hneg
          go_wp2_with (first
            | (go_at_call 43; ((with_reducible refine CB.out.mono ?_); rintro e w8 ⟨rfl, b8⟩; have B8 := Lib.hid b8; clear b8))
            | (go_at_call 28; ((with_reducible refine (HN.out 11 _).mono ?_); rintro e w9 ⟨rfl, rfl⟩)))
          refine sload_bad rfl rfl (y := 0) (K37.out.below B8.out K37.out.lt) rfl fun w9 hb => ?_
          exact FIN.out w9 _ none 0 0 0 11 [] (B8.out.trans (hb.mono B8.out.size)) (Rd.nil_ _) (fun a h => absurd h (by omega)) FN.out.1 FN.out.2 LC.out
        | false =>
          rw [hbl] at CB LC
          rw [if_neg (by simp)] at LC
          have FN := Lib.hid (LE.out 8 LC.out (by decide))
          clear hbl hneg
          go_wp2_with (first
            | (go_at_call 43; ((with_reducible refine CB.out.mono ?_); rintro e w8 ⟨rfl, b8⟩; have B8 := Lib.hid b8; clear b8))
            | (go_at_call 28; ((with_reducible refine (HY.out 11 _).mono ?_); rintro e w9 ⟨rfl, rfl⟩))
            | (go_at_call 28; ((with_reducible refine (HN.out 8 _).mono ?_); rintro e w9 ⟨rfl, rfl⟩)))
          refine sload_bad rfl rfl (y := 0) (K37.out.below B8.out K37.out.lt) rfl fun w9 hb => ?_
          exact FIN.out w9 _ none 0 0 0 8 [] (B8.out.trans (hb.mono B8.out.size)) (Rd.nil_ _) (fun a h => absurd h (by omega)) FN.out.1 FN.out.2 LC.out
      | true =>
        subst hfo
        have hpos := (FO.out true rfl).1 rfl
        rw [if_neg (by omega)] at LC
        have EB := Lib.hid (show Z.loadB D = sb from by rw [Sl.loadB, LC.out, if_pos rfl]; exact SV.out.2.2.1)
        have EN := Lib.hid (show Z.loadN D = sn from by rw [Sl.loadN, LC.out, if_pos rfl]; exact SV.out.2.1)
        clear hpos
        have NW := Lib.hid (show Calls Tryz.prog 22 #[.pointer (some ⟨s, 0, none⟩)] w7 fun e w' => ∃ A c, e = .returned (.tuple #[.slice A sl c, .int .u64 (sn : Int)]) ∧ Rd w' A sl c sb ∧ (∀ a, A = some a → w7.heap.size ≤ a.block) ∧ Below w7.heap.size w7 w' from by
          have h := snow_any N w7 s g (Z.load D) _ SZ7.out
          rw [SV.out.2.1, SV.out.2.2.1] at h
          rw [HSL.out]
          exact h)
        go_wp2_with (first
          | (go_at_call 28; ((with_reducible refine (HY.out 11 _).mono ?_); rintro e w9 ⟨rfl, rfl⟩))
          | (go_at_call 28; ((with_reducible refine (HY.out 8 _).mono ?_); rintro e w9 ⟨rfl, rfl⟩))
          | (go_at_call 22; ((with_reducible refine NW.out.mono ?_); rintro e w8 ⟨A8, c8, rfl, r8, p8, b8⟩; have R8 := Lib.hid r8; have P8 := Lib.hid p8; have B8 := Lib.hid b8; have K38 := Lib.hid (K37.out.below b8 K37.out.lt); have k8 := cell_of_one K38.out; have z8 := free_of_one K38.out; clear r8 p8 b8)))
        refine sload_ret rfl rfl (y := 0) (K38.out.put 0 _) rfl ?_
        have hX : (w8.setCell ⟨g3, 0, none⟩ (.int .i64 0)).setCell ⟨g3, 0, none⟩ (.int .i64 0) = w8.setCell ⟨g3, 0, none⟩ (.int .i64 0) := set_set _ _ _ _ _
        rw [hX]
        exact FIN.out w8 _ A8 sl c8 sn 0 sb B8.out R8.out (fun a _ h => P8.out a h) EB.out EN.out LC.out
end Go.Proofs.YtdbamdbdogdpjaaGreatDoor.S20
