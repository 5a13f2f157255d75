/-
  Texts put together: SkG, Sk9. No statement is proved here.
-/
import Derived.Test.YtnoflgkjdibblaaGreatDoorWa32
import Derived.Deep.Cut

/-
  What the landed slots' Load does while the disk is up. No statement is proved here. (Written by gensk_g.py.)
-/
namespace Go.Proofs.YtnoflgkjdibblaaGreatDoor.S20
set_option linter.unusedSimpArgs false
set_option linter.unusedVariables false
set_option maxRecDepth 8192
open Go.RowKit S19

set_option maxHeartbeats 8000000 in
theorem load_on (N : Nat) (w : World) (s g : Nat) (D : Dk) (Z : Sl) (F S : Nat → Prop) (hgk : S2.GOk w) (tk : Kn N w g D F) (ts : Sz N w s g Z S) (hFS : ∀ b, F b → ¬ S b) (zo : Z.Ok D) (ho : D.off = false) :
    Calls Tryz.prog 34 #[.pointer (some ⟨s, 0, none⟩)] w (PostLd N s g D Z F S w) := by
  have hmf : ∀ (fn : Fn) (first cap : Array Value) (w : World), (Instr.makeFunc fn first cap).run Tryz.prog w = .ok (.func fn first cap) w := fun _ _ _ _ => rfl
  obtain ⟨m, hm⟩ : ∃ m, m = 64 * Z.n := ⟨_, rfl⟩
  have hn8 := zo.most
  have hn1 := zo.one
  obtain ⟨g3, hg3⟩ : ∃ g3, w.heap.size = g3 := ⟨_, rfl⟩
  obtain ⟨w0, hw0⟩ : ∃ w0, w.alloc (.cells #[.int .i64 0] 29) = w0 := ⟨_, rfl⟩
  obtain ⟨gA, hgA⟩ : ∃ gA, w0.heap.size = gA := ⟨_, rfl⟩
  obtain ⟨w1, hw1⟩ : ∃ w1, w0.alloc (.cells #[.slice none 0 0, .slice none 0 0] 115) = w1 := ⟨_, rfl⟩
  have s0 : w0.heap.size = w.heap.size + 1 := by rw [← hw0]; simp
  have B0 := Lib.hid (show Below w.heap.size w w0 by rw [← hw0]; exact (Below.refl _ _).alloc (Nat.le_refl _) _)
  have HG := Lib.hid (show w.heap.size = g3 ∧ g3 < gA from ⟨hg3, by omega⟩)
  have L0 := Lib.hid (show Lr w g3 gA m Z D 0 w1 from ⟨by rw [← hw1]; exact B0.out.alloc B0.out.size _, by rw [← hw1, ← hw0]; exact (Bk.newAt _ _ _ _ hg3).alloc _, _, by rw [← hw1]; exact Bk.newAt _ _ _ _ hgA, rfl, fun i hi => absurd hi (by omega), fun i _ hi => by
    match i, hi with
    | 0, _ => rfl
    | 1, _ => rfl
    | i + 2, hi => omega⟩)
  have RD_ := Lib.hid (show ∀ X (a : Nat), Below w.heap.size w X → a < 2 → Calls Tryz.prog 50 #[.pointer (some ⟨s, 0, none⟩), .int .i64 (a : Int)] X fun e w' => ∃ A c, e = .returned (.slice A m c) ∧ w'.ownsRow X.heap.size 5 1 (.slice A m c) m (bv (Z.area D a)) ∧ Below X.heap.size X w' from fun X a hX ha => (read_on N X s g D Z F S (tk.below hX) (ts.grow hX) zo ho a ha).mono fun e w' ⟨A, n, c, h1, h2, h3⟩ => by
    have hl := own_len h2
    have hl2 : (Z.area D a).length = m := by
      rw [hm]
      refine areaK_len tk.ok Z.n ?_
      have := zo.fits
      have h9 : a = 0 ∨ a = 1 := by omega
      rcases h9 with rfl | rfl <;> omega
    obtain rfl : m = n := by omega
    exact ⟨A, c, h1, h2, h3⟩)
  have TK := Lib.hid tk
  have TS := Lib.hid ts
  have HD := Lib.hid (show (∀ b, F b → ¬ S b) ∧ (∀ b, F b → b < g3) ∧ (∀ b, S b → b < g3) ∧ N ≤ w.heap.size from ⟨hFS, fun b h => by have := (tk.lt b h).2; omega, fun b h => by have := (ts.lt b h).2; omega, by have := ts.sz; omega⟩)
  have HM := Lib.hid (show m = 64 * Z.n ∧ 1 ≤ Z.n ∧ Z.n ≤ 8 from ⟨hm, hn1, hn8⟩)
  have GK := Lib.hid hgk
  have HO := Lib.hid ho
  have SP := Lib.hid (goes_spare Z D ho)
  clear hm hn8 hn1 s0 tk ts hFS zo ho hgk
  go_enter_defers Tryz.func34, Tryz.ntmps34
  go_wp2_with (fail)
  go_loopw [9] (fun i wr => ∃ a : Nat, a ≤ 2 ∧ i = .int .i64 (a : Int) ∧ Lr w g3 gA m Z D a wr) (fun i _ => 2 - (intOf i).toNat)
  case atStart => exact ⟨0, by omega, rfl, L0.out⟩
  case round =>
    obtain ⟨a, ha, rfl, hL⟩ := hrel
    clear hw0 hw1 hg3 hgA
    by_cases hlt : a < 2
    · have t0 : (a : Int) < 2 := by omega
      have LA := Lib.hid hL
      have HLT := Lib.hid hlt
      clear hL
      go_wp2_with (go_at_call 50; ((with_reducible refine (RD_.out _ a LA.out.bel HLT.out).mono ?_); rintro e w5 ⟨A5, c5, rfl, o5, b5⟩; have O5 := Lib.hid o5; have B5 := Lib.hid b5; obtain ⟨cs, q1, q2, _, q4⟩ := LA.out.cs; have K5 := Lib.hid (q1.below b5 q1.lt); have LT5 := Lib.hid q1.lt; have k5 : w5.cell? ⟨gA, a, none⟩ = some (.slice none 0 0) := (cell_of K5.out a).trans (q4 a (Nat.le_refl _) HLT.out); have f5 := K5.out.frozen a; clear o5 b5 q1 q2 q4))
      go_roundw
      case rel => exact ⟨a + 1, HLT.out, by go_num, LA.out.next HLT.out (by have := HG.out; omega) (by have := HG.out; omega) B5.out LT5.out O5.out⟩
      case measure => have := HLT.out; simp [intOf]; omega
    · obtain rfl : a = 2 := by omega
      have t0 : ¬ ((2 : Nat) : Int) < 2 := by omega
      obtain ⟨A0, c0, A1, c1, kA, r0, r1, p0, p1⟩ := hL.two
      have LA := Lib.hid hL
      have KA := Lib.hid kA
      have R0 := Lib.hid r0
      have R1 := Lib.hid r1
      have PP := Lib.hid (show (∀ x, A0 = some x → gA < x.block ∧ x.block < wr.heap.size) ∧ (∀ x, A1 = some x → gA < x.block ∧ x.block < wr.heap.size) from ⟨p0, p1⟩)
      have hc0 : wr.cell? ⟨gA, 0, none⟩ = some (.slice A0 m c0) := kA.cell 0
      have hc1 : wr.cell? ⟨gA, 1, none⟩ = some (.slice A1 m c1) := kA.cell 1
      have GR := Lib.hid (greatest_any Z D A0 A1 m c0 c1 (fun b => gA < b ∧ b < wr.heap.size) wr (GK.out.below (Nat.le_refl _) LA.out.bel) r0 r1 p0 p1 (fun b h => h.2) HM.out.1 HM.out.2.1 HM.out.2.2)
      obtain ⟨sn, hsn⟩ : ∃ sn, sn = (Z.seen D).2.1 := ⟨_, rfl⟩
      obtain ⟨sb, hsb⟩ : ∃ sb, sb = (Z.seen D).2.2 := ⟨_, rfl⟩
      obtain ⟨sl, hsl⟩ : ∃ sl, sl = sb.length := ⟨_, rfl⟩
      obtain ⟨sp, hsp⟩ : ∃ sp, sp = spareOf (Z.seen D).1 := ⟨_, rfl⟩
      obtain ⟨fo, hfo⟩ : ∃ fo, fo = decide (0 ≤ (Z.seen D).1) := ⟨_, rfl⟩
      have GR2 := Lib.hid (show Calls Tryz.prog 51 #[.agg #[.slice A0 m c0, .slice A1 m c1]] wr fun e w' => ∃ A' c', e = .returned (.tuple #[.agg #[.int .u64 (sn : Int), .slice A' sl c', .int .i64 (sp : Int)], .bool fo]) ∧ Rd w' A' sl c' sb ∧ (∀ x, A' = some x → gA < x.block ∧ x.block < wr.heap.size) ∧ Below wr.heap.size wr w' from by
        rw [hsn, hsl, hsp, hsb, hfo]
        exact GR.out)
      have SV := Lib.hid (show (Z.load D).goes = sp ∧ (Z.load D).num = sn ∧ (Z.load D).b = sb ∧ (Z.load D).first = Z.first ∧ (Z.load D).n = Z.n ∧ sb.length ≤ 1000000 from ⟨by rw [hsp]; exact SP.out.1, by rw [hsn]; exact SP.out.2.1, by rw [hsb]; exact SP.out.2.2.1, SP.out.2.2.2.1, SP.out.2.2.2.2, by rw [hsb]; exact seen_few Z D HM.out.2⟩)
      have FO := Lib.hid (show ∀ b : Bool, fo = b → (b = true ↔ 0 ≤ (Z.seen D).1) from fun b h => by rw [← h, hfo]; exact decide_eq_true_iff)
      have HSL := Lib.hid hsl
      clear hL kA r0 r1 p0 p1 GR hsn hsb hsl hsp hfo SP
      go_upto_region 10 with (go_at_call 51; ((with_reducible refine GR2.out.mono ?_); rintro e w6 ⟨A6, c6, rfl, r6, p6, b6⟩; have R6 := Lib.hid r6; have P6 := Lib.hid p6; have B6 := Lib.hid b6; have B06 := Lib.hid (LA.out.bel.trans (b6.mono LA.out.bel.size)); have S6 := Lib.hid (TS.out.grow B06.out); obtain ⟨A9, c9, hb9, _, _⟩ := S6.out.ex; have i3 : w6.cell? ⟨s, 3, none⟩ = some (.int .u64 (Z.num : Int)) := hb9.cell 3; have i4 : w6.cell? ⟨s, 4, none⟩ = some (.slice A9 Z.b.length c9) := hb9.cell 4; have i5 : w6.cell? ⟨s, 5, none⟩ = some (.int .i64 (Z.goes : Int)) := hb9.cell 5; have f3 := hb9.frozen 3; have f4 := hb9.frozen 4; have f5 := hb9.frozen 5; clear r6 p6 b6 hb9))
      obtain ⟨w7, hw7⟩ : ∃ w7, ((w6.setCell ⟨s, 3, none⟩ (.int .u64 (sn : Int))).setCell ⟨s, 4, none⟩ (.slice A6 sl c6)).setCell ⟨s, 5, none⟩ (.int .i64 (sp : Int)) = w7 := ⟨_, rfl⟩
      rw [hw7]
      have SL6 := Lib.hid (show s < g3 from HD.out.2.2.1 s TS.out.at_)
      have hne : ∀ b, b ≠ s → w7.heap[b]? = w6.heap[b]? := fun b hb => by
        rw [← hw7]
        exact (Below.heap_setCell _ ⟨s, 5, none⟩ _ b hb).trans ((Below.heap_setCell _ ⟨s, 4, none⟩ _ b hb).trans (Below.heap_setCell _ ⟨s, 3, none⟩ _ b hb))
      have hz7 : w7.heap.size = w6.heap.size := by rw [← hw7]; simp
      have SZ7 := Lib.hid (show Sz N w7 s g (Z.load D) (fun x => S x ∨ ∃ a, 0 < sl ∧ A6 = some a ∧ a.block = x) from by
        rw [← hw7]
        exact S6.out.store R6.out (fun a h1 h2 => by have := P6.out a h2; have := HG.out; have := HD.out.2.2.2; have := SL6.out; omega) SV.out.2.2.2.1 SV.out.2.2.2.2.1 SV.out.2.1 SV.out.2.2.1 SV.out.1 SV.out.2.2.2.2.2)
      have M7 := Lib.hid (show Mv N S w w7 from by
        have h1 : Mv N S w w6 := Mv.of HD.out.2.2.2 B06.out
        refine h1.trans (F' := S) ?_ (fun b h => .inl h)
        rw [← hw7]
        exact S6.out.stored _ _ _)
      have KN7 := Lib.hid (show Kn N w7 g D F from (TK.out.below B06.out).keep (by omega) fun b hb _ => hne b fun e => HD.out.1 b hb (by rw [e]; exact TS.out.at_))
      have KA7 := Lib.hid (show Bk w7 gA 115 #[.slice A0 m c0, .slice A1 m c1] from (hne gA (by have := HG.out; have := SL6.out; omega)).trans (KA.out.below B6.out KA.out.lt))
      have K37 := Lib.hid (show Bk w7 g3 29 #[.int .i64 0] from (hne g3 (by have := SL6.out; omega)).trans (LA.out.k3.below B6.out LA.out.k3.lt))
      have RK := Lib.hid (show ∀ (A : Option Addr) (c : Nat) (xs : List UInt8), Rd wr A m c xs → (∀ x, A = some x → gA < x.block ∧ x.block < wr.heap.size) → Rd w7 A m c xs from fun A c xs h hp => by
        have h6 := h.below B6.out
        rw [← hw7]
        have hs : ∀ a, 0 < m → A = some a → a.block ≠ s := fun a _ ha e => by have := (hp a ha).1; have := HG.out; have := SL6.out; omega
        exact rd_farB (rd_farB (rd_farB h6 hs _ _) hs _ _) hs _ _)
      have T7 := Lib.hid (show Two2 w7 gA m (fun i => Z.area D i) from fun i hi => by
        match i, hi with
        | 0, _ => exact ⟨A0, c0, KA7.out.cell 0, RK.out A0 c0 _ R0.out PP.out.1⟩
        | 1, _ => exact ⟨A1, c1, KA7.out.cell 1, RK.out A1 c1 _ R1.out PP.out.2⟩
        | i + 2, hi => omega)
      have FIN := Lib.hid (show ∀ (X : World) (u : Value) (A : Option Addr) (n c num cd : Nat) (b : List UInt8), Below w7.heap.size w7 X → Rd X A n c b → (∀ a, 0 < n → A = some a → w7.heap.size ≤ a.block) → Z.loadB D = b → Z.loadN D = num → Z.loadC D = cd → PostLd N s g D Z F S w (.returned (.tuple #[.slice A n c, .int .u64 (num : Int), .int .i64 (cd : Int)])) (X.setCell ⟨g3, 0, none⟩ u) from fun X u A n c num cd b hX hR hA e1 e2 e3 =>
        load_fin HD.out.2.2.2 HG.out.1 KN7.out SZ7.out M7.out K37.out.lt HD.out.2.1 (fun x h => h.imp id (fun ⟨a, _, h2, h3⟩ => by have := P6.out a h2; have := HG.out; omega)) HD.out.2.2.1 HD.out.1 hX u hR hA e1 e2 e3)
      have CB := Lib.hid (contains_blank w7 gA m _ T7.out KA7.out.lt (by have := HM.out; omega))
      have HY := Lib.hid (fun k X => LV.need_yes k X)
      have HN := Lib.hid (fun k X => LV.need_no k X)
      have j0 : w7.cell? ⟨gA, 0, none⟩ = some (.slice A0 m c0) := KA7.out.cell 0
      have j1 : w7.cell? ⟨gA, 1, none⟩ = some (.slice A1 m c1) := KA7.out.cell 1
      have LC := Lib.hid (show Z.loadC D = if (Z.seen D).1 < 0 then (if blank (Z.area D 0) Z.n || blank (Z.area D 1) Z.n then 11 else 8) else 0 from by rw [Sl.loadC, if_neg (by rw [HO.out]; simp)])
      have BE := Lib.hid (show (blankR m (fun i => Z.area D i) 0 || blankR m (fun i => Z.area D i) 1) = (blank (Z.area D 0) Z.n || blank (Z.area D 1) Z.n) from by rw [blankR, blankR, HM.out.1, same_blank, same_blank])
      rw [BE.out] at CB
      clear hw7 hne hz7 i3 i4 i5 f3 f4 f5 hc0 hc1
      cases hfo : fo with
      | false =>
        subst hfo
        have hneg : (Z.seen D).1 < 0 := by
          have h := (FO.out false rfl).2
          by_cases h1 : 0 ≤ (Z.seen D).1
          · exact absurd (h h1) (by simp)
          · omega
        rw [if_pos hneg] at LC
        have LE := Lib.hid (show ∀ cd, Z.loadC D = cd → cd ≠ 0 → Z.loadB D = [] ∧ Z.loadN D = 0 from fun cd h1 h2 => ⟨by rw [Sl.loadB, h1, if_neg h2], by rw [Sl.loadN, h1, if_neg h2]⟩)
        cases hbl : (blank (Z.area D 0) Z.n || blank (Z.area D 1) Z.n) with
        | true =>
          rw [hbl] at CB LC
          rw [if_pos rfl] at LC
          have FN := Lib.hid (LE.out 11 LC.out (by decide))
          clear hbl hneg
          go_wp2_with (first
            | (go_at_call 52; ((with_reducible refine CB.out.mono ?_); rintro e w8 ⟨rfl, b8⟩; have B8 := Lib.hid b8; clear b8))
            | (go_at_call 30; ((with_reducible refine (HN.out 11 _).mono ?_); rintro e w9 ⟨rfl, rfl⟩)))
          refine sload_bad rfl rfl (y := 0) (K37.out.below B8.out K37.out.lt) rfl fun w9 hb => ?_
          exact FIN.out w9 _ none 0 0 0 11 [] (B8.out.trans (hb.mono B8.out.size)) (Rd.nil_ _) (fun a h => absurd h (by omega)) FN.out.1 FN.out.2 LC.out
        | false =>
          rw [hbl] at CB LC
          rw [if_neg (by simp)] at LC
          have FN := Lib.hid (LE.out 8 LC.out (by decide))
          clear hbl hneg
          go_wp2_with (first
            | (go_at_call 52; ((with_reducible refine CB.out.mono ?_); rintro e w8 ⟨rfl, b8⟩; have B8 := Lib.hid b8; clear b8))
            | (go_at_call 30; ((with_reducible refine (HY.out 11 _).mono ?_); rintro e w9 ⟨rfl, rfl⟩))
            | (go_at_call 30; ((with_reducible refine (HN.out 8 _).mono ?_); rintro e w9 ⟨rfl, rfl⟩)))
          refine sload_bad rfl rfl (y := 0) (K37.out.below B8.out K37.out.lt) rfl fun w9 hb => ?_
          exact FIN.out w9 _ none 0 0 0 8 [] (B8.out.trans (hb.mono B8.out.size)) (Rd.nil_ _) (fun a h => absurd h (by omega)) FN.out.1 FN.out.2 LC.out
      | true =>
        subst hfo
        have hpos := (FO.out true rfl).1 rfl
        rw [if_neg (by omega)] at LC
        have EB := Lib.hid (show Z.loadB D = sb from by rw [Sl.loadB, LC.out, if_pos rfl]; exact SV.out.2.2.1)
        have EN := Lib.hid (show Z.loadN D = sn from by rw [Sl.loadN, LC.out, if_pos rfl]; exact SV.out.2.1)
        clear hpos
        have NW := Lib.hid (show Calls Tryz.prog 54 #[.pointer (some ⟨s, 0, none⟩)] w7 fun e w' => ∃ A c, e = .returned (.tuple #[.slice A sl c, .int .u64 (sn : Int)]) ∧ Rd w' A sl c sb ∧ (∀ a, A = some a → w7.heap.size ≤ a.block) ∧ Below w7.heap.size w7 w' from by
          have h := snow_any N w7 s g (Z.load D) _ SZ7.out
          rw [SV.out.2.1, SV.out.2.2.1] at h
          rw [HSL.out]
          exact h)
        go_wp2_with (first
          | (go_at_call 30; ((with_reducible refine (HY.out 11 _).mono ?_); rintro e w9 ⟨rfl, rfl⟩))
          | (go_at_call 30; ((with_reducible refine (HY.out 8 _).mono ?_); rintro e w9 ⟨rfl, rfl⟩))
          | (go_at_call 54; ((with_reducible refine NW.out.mono ?_); rintro e w8 ⟨A8, c8, rfl, r8, p8, b8⟩; have R8 := Lib.hid r8; have P8 := Lib.hid p8; have B8 := Lib.hid b8; have K38 := Lib.hid (K37.out.below b8 K37.out.lt); have k8 := cell_of_one K38.out; have z8 := free_of_one K38.out; clear r8 p8 b8)))
        refine sload_ret rfl rfl (y := 0) (K38.out.put 0 _) rfl ?_
        have hX : (w8.setCell ⟨g3, 0, none⟩ (.int .i64 0)).setCell ⟨g3, 0, none⟩ (.int .i64 0) = w8.setCell ⟨g3, 0, none⟩ (.int .i64 0) := set_set _ _ _ _ _
        rw [hX]
        exact FIN.out w8 _ A8 sl c8 sn 0 sb B8.out R8.out (fun a _ h => P8.out a h) EB.out EN.out LC.out
end Go.Proofs.YtnoflgkjdibblaaGreatDoor.S20

/-
  The landed slots: an area is written, sector by sector. No statement is proved here. (Written by gensk9.py.)
-/
namespace Go.Proofs.YtnoflgkjdibblaaGreatDoor.S20
set_option linter.unusedSimpArgs false
set_option linter.unusedVariables false
set_option maxRecDepth 8192
open Go.RowKit S19

theorem Sk_write_sure (D : Dk) (i : Int) (b : List UInt8) : (D.write i b).sure = D.sure := by
  unfold Dk.write
  split
  · rfl
  · split
    · split
      · exact Dk.step_sure D
      · exact Dk.step_sure D
    · rfl
/-- What the writing of an area comes to. -/
def PostW (N : Nat) (F : Nat → Prop) (g : Nat) (w : World) (r : Nat × Dk) (e : Ending) (w' : World) : Prop :=
  e = stepE r.1 ∧ ∃ F', Kn N w' g r.2 F' ∧ (∀ b, F' b → F b ∨ w.heap.size ≤ b) ∧ Mv N F w w'
theorem two_add (a : Option Addr) (c l : Nat) (x : Addr) (h : (if c = l then a else a.map (·.add l)) = some x) : ∃ y, a = some y ∧ y.block = x.block := by
  obtain ⟨y, h1, h2⟩ := add_atW x l c a h
  exact ⟨y, h1, h2.symm⟩
where
  add_atW (a : Addr) (k c : Nat) (A : Option Addr) (h : (if c = k then A else A.map (·.add k)) = some a) : ∃ a0, A = some a0 ∧ a.block = a0.block := by
    split at h
    · exact ⟨a, h, rfl⟩
    · cases A with
      | none => cases h
      | some a0 =>
        injection h with h
        exact ⟨a0, rfl, by rw [← h]; exact add_block a0 k⟩
theorem step_w {at0 : Nat} {xs : List UInt8} {n j : Nat} {D D' : Dk} {cd : Nat} (hj : j < n) (h1 : cd = D.writeC ((at0 + j : Nat) : Int) (Sl.row xs j)) (h2 : D' = D.write ((at0 + j : Nat) : Int) (Sl.row xs j)) : Sl.writes at0 xs (n - j) j D = (if cd = 0 then Sl.writes at0 xs (n - (j + 1)) (j + 1) D' else (cd, D')) := by
  rw [show n - j = (n - (j + 1)) + 1 by omega, Sl.writes, ← h1, ← h2]
set_option maxHeartbeats 16000000 in
theorem write_area (N : Nat) (w : World) (s gd : Nat) (D : Dk) (Z : Sl) (F S : Nat → Prop) (tk : Kn N w gd D F) (ts : Sz N w s gd Z S) (hFS : ∀ b, F b → ¬ S b) (zo : Z.Ok D) (a : Nat) (ha : a < 2) (A : Option Addr) (m c : Nat) (xs : List UInt8) (hr : Rd w A m c xs) (hm : m = 64 * Z.n) (hap : ∀ x, 0 < m → A = some x → ¬ F x.block) (hc : D.cnt < 1099511627000) :
    Calls Tryz.prog 57 #[.pointer (some ⟨s, 0, none⟩), .int .i64 (a : Int), .slice A m c] w (PostW N F gd w (Sl.writes (Z.first + a * Z.n) xs Z.n 0 D)) := by
  obtain ⟨n, hn⟩ : ∃ n, n = Z.n := ⟨_, rfl⟩
  obtain ⟨f, hf⟩ : ∃ f, f = Z.first := ⟨_, rfl⟩
  have h8 := zo.most
  have h1 := zo.one
  have hfit := zo.fits
  have hmost := tk.ok.most
  rw [← hn] at h8 h1 hfit hm
  rw [← hf] at hfit
  rw [← hn, ← hf]
  obtain ⟨at0, hat⟩ : ∃ at0, at0 = f + a * n := ⟨_, rfl⟩
  rw [← hat]
  have HA0 := Lib.hid (show at0 + n ≤ D.sure.length from by rw [hat]; exact area_at ha hfit (Nat.le_refl _))
  have SEC := Lib.hid (show ∀ X (j : Nat), Sz N X s gd Z S → j < n → Calls Tryz.prog 82 #[.pointer (some ⟨s, 0, none⟩), .int .i64 (a : Int), .int .i64 (j : Int)] X fun e w' => e = .returned (.int .i64 ((at0 + j : Nat) : Int)) ∧ Below X.heap.size X w' from fun X j hX hj => by
    rw [hat]
    exact sector_any N X s gd Z S hX f n a j hf.symm hn.symm (by omega) ha hj h8)
  have AR := Lib.hid (show ∀ (j : Nat) X, j ≤ 8 → Calls Tryz.prog 79 #[.int .i64 (j : Int)] X fun e w' => e = .returned (.int .i64 ((64 * j : Nat) : Int)) ∧ X = w' from fun j X hj => area_any j (by omega) X)
  have CS := Lib.hid (show ∀ X, Sz N X s gd Z S → X.cell? ⟨s, 0, none⟩ = some (.pointer (some ⟨gd, 0, none⟩)) ∧ X.cell? ⟨s, 2, none⟩ = some (.int .i64 (n : Int)) from fun X hX => by
    rw [hn]
    exact ⟨hX.cells.1, hX.cells.2.2.1⟩)
  have TS := Lib.hid ts
  have TK := Lib.hid tk
  have HR := Lib.hid hr
  have HAP := Lib.hid (show ∀ x, 0 < m → A = some x → ¬ F x.block ∧ x.block < w.heap.size from fun x h1 h2 => ⟨hap x h1 h2, by
    obtain ⟨b, off, e, hb, _⟩ := hr.at_ h1
    rw [h2] at e
    injection e with e
    rw [e]
    exact hb⟩)
  have HFS := Lib.hid hFS
  have HM := Lib.hid (show m = 64 * n ∧ m ≤ c ∧ 1 ≤ n ∧ n ≤ 8 ∧ D.cnt < 1099511627000 from ⟨hm, hr.cap, h1, h8, hc⟩)
  obtain ⟨c0, c2⟩ := CS.out w ts
  have HN := Lib.hid (show N ≤ w.heap.size from by have := ts.sz; omega)
  clear hn hf h8 h1 hfit hmost hat tk ts hFS zo ha hr hm hap hc
  go_enter Tryz.func57, Tryz.ntmps57
  go_wp2_with (fail)
  go_loopw [11] (fun i wr => ∃ (j : Nat) (Dj : Dk) (Fj : Nat → Prop), j ≤ n ∧ i = .int .i64 (j : Int) ∧ Kn N wr gd Dj Fj ∧ Sl.writes at0 xs (n - j) j Dj = Sl.writes at0 xs n 0 D ∧ (∀ b, Fj b → F b ∨ w.heap.size ≤ b) ∧ Mv N F w wr ∧ Dj.cnt ≤ D.cnt + j ∧ Dj.sure.length = D.sure.length) (fun i _ => n - (intOf i).toNat)
  case atStart => exact ⟨0, D, F, Nat.zero_le _, rfl, TK.out, rfl, fun b hb => .inl hb, Mv.refl _ _ _, Nat.le_refl _, rfl⟩
  case round =>
    obtain ⟨j, Dj, Fj, hj, rfl, hK, hW, hF, hM, hcn, hsl⟩ := hrel
    clear c0 c2
    have SZ := Lib.hid (TS.out.mv hM HFS.out)
    have KR := Lib.hid hK
    have WR := Lib.hid hW
    have FR := Lib.hid hF
    have MR := Lib.hid hM
    have CR := Lib.hid hcn
    have LR := Lib.hid hsl
    clear hK hW hF hM hcn hsl
    by_cases hlt : j < n
    · have t0 : (j : Int) < (n : Int) := by omega
      obtain ⟨aj, haj⟩ : ∃ aj, aj = at0 + j := ⟨_, rfl⟩
      obtain ⟨lj, hlj⟩ : ∃ lj, lj = 64 * j := ⟨_, rfl⟩
      obtain ⟨lk, hlk⟩ : ∃ lk, lk = 64 * (j + 1) := ⟨_, rfl⟩
      obtain ⟨j1, hj1⟩ : ∃ j1, j1 = j + 1 := ⟨_, rfl⟩
      obtain ⟨xj, hxj⟩ : ∃ xj, xj = Sl.row xs j := ⟨_, rfl⟩
      obtain ⟨Aj, hAj⟩ : ∃ Aj, Aj = if c = lj then A else A.map (·.add lj) := ⟨_, rfl⟩
      have b1 : lj + 64 ≤ m := by have := HM.out; omega
      have b2 : lj + 64 ≤ c := by have := HM.out; omega
      have b3 : j1 ≤ 1000000 := by have := HM.out; omega
      have b4 : 0 < m := by omega
      have P1 : ∀ W, (Instr.slice 23 (.slice A m c) (some (.int .i64 (lj : Int))) (some (.int .i64 (lk : Int))) none).run Tryz.prog W = .ok (.slice Aj 64 (c - lj)) W := fun W => by rw [hAj]; exact run_cutSlLH (l' := lj) (m := 64) rfl (by omega) b2 W
      have P2 : ∀ W, (Instr.sliceAt 23 (.slice A m c) (some (.int .i64 (lj : Int))) (some (.int .i64 (lk : Int))) none).run Tryz.prog W = .ok (.slice Aj 64 (c - lj)) W := fun W => by rw [hAj]; exact run_cutSlLHAt (l' := lj) (m := 64) rfl (by omega) b2 W
      have RWR := MR.out.rd HR.out (fun x h1 h2 => (HAP.out x h1 h2).1)
      have RJ := Lib.hid (show Rd wr Aj 64 (c - lj) xj by rw [hxj, hAj, Sl.row, ← hlj]; exact (RWR.cut (k := lj) (by omega)).take (by omega))
      have RJA := Lib.hid (show ∀ x, 0 < 64 → Aj = some x → ¬ Fj x.block from fun x _ hx hFj => by
        rw [hAj] at hx
        obtain ⟨y, h1, h2⟩ := two_add A c lj x hx
        obtain ⟨e1, e2⟩ := HAP.out y b4 h1
        rcases FR.out _ hFj with e | e
        · exact e1 (by rw [h2]; exact e)
        · omega)
      obtain ⟨cd, hcd⟩ : ∃ cd, cd = Dj.writeC (aj : Int) xj := ⟨_, rfl⟩
      obtain ⟨Dn, hDn⟩ : ∃ Dn, Dn = Dj.write (aj : Int) xj := ⟨_, rfl⟩
      have HCN := Lib.hid (show Dn.cnt ≤ D.cnt + j1 by have h := Dk.write_cnt Dj (aj : Int) xj; rw [← hDn] at h; have := CR.out; omega)
      have HSL := Lib.hid (show Dn.sure.length = D.sure.length by rw [hDn, Sk_write_sure]; exact LR.out)
      have hcnt : Dj.cnt < 1099511627776 := cnt_of CR.out HM.out.2.2.2.2 hlt HM.out.2.2.2.1
      have WRC := Lib.hid (show ∀ X, Below wr.heap.size wr X → Calls Tryz.prog 85 #[.pointer (some ⟨gd, 0, none⟩), .int .i64 (aj : Int), .slice Aj 64 (c - lj)] X (Post Kn N Fj gd X Dn (.int .i64 (cd : Int))) from fun X hX => by
        rw [hcd, hDn]
        exact write_any N X gd Dj Fj (aj : Int) Aj 64 (c - lj) xj (KR.out.below hX) (RJ.out.below hX) RJA.out hcnt)
      have STEP := Lib.hid (show Sl.writes at0 xs n 0 D = (if cd = 0 then Sl.writes at0 xs (n - j1) j1 Dn else (cd, Dn)) by
        rw [← WR.out, hj1]
        exact step_w hlt (by rw [hcd, haj, hxj]) (by rw [hDn, haj, hxj]))
      have SJ := Lib.hid (show ∀ X, Below wr.heap.size wr X → Calls Tryz.prog 82 #[.pointer (some ⟨s, 0, none⟩), .int .i64 (a : Int), .int .i64 (j : Int)] X fun e w' => e = .returned (.int .i64 (aj : Int)) ∧ Below X.heap.size X w' from fun X hX => by rw [haj]; exact SEC.out X j (SZ.out.grow hX) hlt)
      have A1 := Lib.hid (show ∀ X, Calls Tryz.prog 79 #[.int .i64 (j : Int)] X fun e w' => e = .returned (.int .i64 (lj : Int)) ∧ X = w' from fun X => by rw [hlj]; exact AR.out j X (by have := HM.out; omega))
      have A2 := Lib.hid (show ∀ X, Calls Tryz.prog 79 #[.int .i64 (j1 : Int)] X fun e w' => e = .returned (.int .i64 (lk : Int)) ∧ X = w' from fun X => by rw [hlk, hj1]; exact AR.out (j + 1) X (by have := HM.out; omega))
      have J1 := Lib.hid (show (j : Int) + 1 = (j1 : Int) ∧ wrap64 (j1 : Int) = (j1 : Int) ∧ IntKind.i64.wrap (j1 : Int) = (j1 : Int) from ⟨by rw [hj1]; rfl, (wrap_nat j1 b3).1, (wrap_nat j1 b3).2⟩)
      have GD := Lib.hid (Below.refl wr.heap.size wr).drew
      have HLT := Lib.hid (show j1 ≤ n ∧ n - j1 < n - j from ⟨by omega, by omega⟩)
      have CJ := Lib.hid (show ∀ X, Below wr.heap.size wr X → X.cell? ⟨s, 0, none⟩ = some (.pointer (some ⟨gd, 0, none⟩)) from fun X hX => (CS.out X (SZ.out.grow hX)).1)
      have WJ := Lib.hid (show wrap64 ((j : Int) + 1) = (j1 : Int) from by rw [J1.out.1]; exact J1.out.2.1)
      have HJ1 := Lib.hid hj1
      clear haj hlj hlk hxj hAj b1 b2 b3 b4 RWR hcd hDn hcnt hlt hj hj1
      by_cases hcd0 : cd = 0
      · subst hcd0
        have DN := Lib.hid (show ∀ X, Calls Tryz.prog 59 #[.int .i64 ((0 : Nat) : Int)] X fun e w' => e = .returned (.tuple #[]) ∧ X = w' from fun X => done_any 0 X)
        have ST := Lib.hid (STEP.out.trans (if_pos rfl))
        go_upto_region 3 with (fail)
        refine wp_region_held_drew (S := fun X => X.cell? ⟨s, 0, none⟩ = some (.pointer (some ⟨gd, 0, none⟩))) (by kernel_rfl) (CJ.out _ GD.out) (fun sx => ?_)
        have SX := Lib.hid sx
        clear sx
        refine RD.h_take 0 (.pointer (some ⟨s, 0, none⟩)) rfl (by kernel_rfl) (by kernel_rfl) (by kernel_rfl) (fun _ _ _ h => h) (by rfl) SX.out (fun X hX => ?_) ?_
        · go_simp
        simp only [Act.put, List.setIfInBounds_toArray, List.set_cons_zero, List.set_cons_succ]
        refine RD.h_take 1 (.pointer (some ⟨s, 0, none⟩)) rfl (by kernel_rfl) (by kernel_rfl) (by kernel_rfl) (fun _ _ _ h => h) (by rfl) SX.out (fun X hX => ?_) ?_
        · go_simp
        simp only [Act.put, List.setIfInBounds_toArray, List.set_cons_zero, List.set_cons_succ]
        refine RD.h_take 2 (.pointer (some ⟨s, 0, none⟩)) rfl (by kernel_rfl) (by kernel_rfl) (by kernel_rfl) (fun _ _ _ h => h) (by rfl) SX.out (fun X hX => ?_) ?_
        · go_simp
        simp only [Act.put, List.setIfInBounds_toArray, List.set_cons_zero, List.set_cons_succ]
        refine RD.h_take 3 (.pointer (some ⟨gd, 0, none⟩)) rfl (by kernel_rfl) (by kernel_rfl) (by kernel_rfl) (fun _ _ _ h => h) (by rfl) SX.out (fun X hX => ?_) ?_
        · go_simp
        simp only [Act.put, List.setIfInBounds_toArray, List.set_cons_zero, List.set_cons_succ]
        refine RD.h_take 4 (.pointer (some ⟨s, 0, none⟩)) rfl (by kernel_rfl) (by kernel_rfl) (by kernel_rfl) (fun _ _ _ h => h) (by rfl) SX.out (fun X hX => ?_) ?_
        · go_simp
        simp only [Act.put, List.setIfInBounds_toArray, List.set_cons_zero, List.set_cons_succ]
        refine RD.h_take 5 (.int .i64 (a : Int)) rfl (by kernel_rfl) (by kernel_rfl) (by kernel_rfl) (fun _ _ _ h => h) (by rfl) SX.out (fun X hX => ?_) ?_
        · go_simp
        simp only [Act.put, List.setIfInBounds_toArray, List.set_cons_zero, List.set_cons_succ]
        refine RD.h_take 6 (.int .i64 (j : Int)) rfl (by kernel_rfl) (by kernel_rfl) (by kernel_rfl) (fun _ _ _ h => h) (by rfl) SX.out (fun X hX => ?_) ?_
        · go_simp
        simp only [Act.put, List.setIfInBounds_toArray, List.set_cons_zero, List.set_cons_succ]
        refine RD.h_take 8 (.slice A m c) rfl (by kernel_rfl) (by kernel_rfl) (by kernel_rfl) (fun _ _ _ h => h) (by rfl) SX.out (fun X hX => ?_) ?_
        · go_simp
        simp only [Act.put, List.setIfInBounds_toArray, List.set_cons_zero, List.set_cons_succ]
        refine RD.h_take 9 (.int .i64 (j : Int)) rfl (by kernel_rfl) (by kernel_rfl) (by kernel_rfl) (fun _ _ _ h => h) (by rfl) SX.out (fun X hX => ?_) ?_
        · go_simp
        simp only [Act.put, List.setIfInBounds_toArray, List.set_cons_zero, List.set_cons_succ]
        refine RD.h_take 11 (.int .i64 (j : Int)) rfl (by kernel_rfl) (by kernel_rfl) (by kernel_rfl) (fun _ _ _ h => h) (by rfl) SX.out (fun X hX => ?_) ?_
        · go_simp
        simp only [Act.put, List.setIfInBounds_toArray, List.set_cons_zero, List.set_cons_succ]
        refine RD.h_take 12 (.int .i64 (j1 : Int)) rfl (by kernel_rfl) (by kernel_rfl) (by kernel_rfl) (fun _ _ _ h => h) (by rfl) SX.out (fun X hX => ?_) ?_
        · obtain ⟨i1, i2, i3⟩ := J1.out; go_simp
        simp only [Act.put, List.setIfInBounds_toArray, List.set_cons_zero, List.set_cons_succ]
        refine RD.h_any [7] (by kernel_rfl) (by simp) (RD.one_of ?_)
        refine RD.h_call 82 #[.pointer (some ⟨s, 0, none⟩), .int .i64 (a : Int), .int .i64 (j : Int)] rfl (by rfl) (by go_simp) ((SJ.out _ GD.out).mono ?_)
        rintro e X1 ⟨rfl, b1⟩
        have G1 := Lib.hid (GD.out.trans (b1.mono GD.out.size))
        clear b1
        refine ⟨_, rfl, CJ.out _ G1.out, ?_⟩
        simp only [Act.put, List.setIfInBounds_toArray, List.set_cons_zero, List.set_cons_succ]
        refine RD.h_any [10] (by kernel_rfl) (by simp) (RD.one_of ?_)
        refine RD.h_call 79 #[.int .i64 (j : Int)] rfl (by rfl) (by go_simp) ((A1.out _).mono ?_)
        rintro e X2 ⟨rfl, rfl⟩
        refine ⟨_, rfl, CJ.out _ G1.out, ?_⟩
        simp only [Act.put, List.setIfInBounds_toArray, List.set_cons_zero, List.set_cons_succ]
        refine RD.h_any [13] (by kernel_rfl) (by simp) (RD.one_of ?_)
        refine RD.h_call 79 #[.int .i64 (j1 : Int)] rfl (by rfl) (by go_simp) ((A2.out _).mono ?_)
        rintro e X2 ⟨rfl, rfl⟩
        refine ⟨_, rfl, CJ.out _ G1.out, ?_⟩
        simp only [Act.put, List.setIfInBounds_toArray, List.set_cons_zero, List.set_cons_succ]
        refine RD.h_take 14 (.slice Aj 64 (c - lj)) rfl (by kernel_rfl) (by kernel_rfl) (by kernel_rfl) (fun _ _ _ h => h) (by rfl) (CJ.out _ G1.out) (fun X hX => ?_) ?_
        · go_simp
        simp only [Act.put, List.setIfInBounds_toArray, List.set_cons_zero, List.set_cons_succ]
        refine RD.h_any [15] (by kernel_rfl) (by simp) (RD.one_of ?_)
        refine RD.h_call 85 #[.pointer (some ⟨gd, 0, none⟩), .int .i64 (aj : Int), .slice Aj 64 (c - lj)] rfl (by rfl) (by go_simp) ((WRC.out _ G1.out).mono ?_)
        rintro e X3 ⟨rfl, F7, k7, s7, m7⟩
        have K7 := Lib.hid k7
        have M7 := Lib.hid (show Mv N F w X3 from (MR.out.trans (Mv.of (F := Fj) (Nat.le_trans HN.out MR.out.size) G1.out) FR.out).trans m7 (fun b hb => FR.out b hb))
        have F7S := Lib.hid (show ∀ b, F7 b → F b ∨ w.heap.size ≤ b from fun b hb => (s7 b hb).elim (FR.out b) (fun h => .inr (Nat.le_trans MR.out.size (Nat.le_trans G1.out.size h))))
        have S7 := Lib.hid ((CS.out _ (TS.out.mv M7.out HFS.out)).1)
        clear k7 s7 m7
        refine ⟨_, rfl, S7.out, ?_⟩
        simp only [Act.put, List.setIfInBounds_toArray, List.set_cons_zero, List.set_cons_succ]
        refine RD.h_any [16] (by kernel_rfl) (by simp) (RD.one_of ?_)
        refine RD.h_call 59 #[.int .i64 ((0 : Nat) : Int)] rfl (by rfl) (by go_simp) ((DN.out _).mono ?_)
        rintro e X4 ⟨rfl, rfl⟩
        refine ⟨_, rfl, S7.out, ?_⟩
        simp only [Act.put, List.setIfInBounds_toArray, List.set_cons_zero, List.set_cons_succ]
        refine RD.h_done (by kernel_rfl) ?_
        simp only [Exit.inBlock, Exit.then]
        go_wp2_with (fail)
        go_roundw
        case rel => exact ⟨j1, Dn, F7, HLT.out.1, by first | rw [WJ.out] | go_num, K7.out, ST.out.symm, F7S.out, M7.out, HCN.out, HSL.out⟩
        case measure =>
          have h9 := HLT.out.2
          have e9 := WJ.out
          rw [HJ1.out] at h9 e9
          exact meas_of e9 h9
      · have DN := Lib.hid (show ∀ X, Calls Tryz.prog 59 #[.int .i64 (cd : Int)] X fun e w' => e = .panicked [LV.wrg (cd : Int)] ∧ X = w' from fun X => (done_any cd X).mono fun e w' ⟨h1, h2⟩ => ⟨by rw [h1, stepE, if_neg hcd0], h2⟩)
        have ST := Lib.hid (STEP.out.trans (if_neg hcd0))
        have EC := Lib.hid (show Ending.panicked [LV.wrg (cd : Int)] = stepE cd from by rw [stepE, if_neg hcd0])
        clear hcd0
        go_upto_region 3 with (fail)
        refine wp_region_held_drew (S := fun X => X.cell? ⟨s, 0, none⟩ = some (.pointer (some ⟨gd, 0, none⟩))) (by kernel_rfl) (CJ.out _ GD.out) (fun sx => ?_)
        have SX := Lib.hid sx
        clear sx
        refine RD.h_take 0 (.pointer (some ⟨s, 0, none⟩)) rfl (by kernel_rfl) (by kernel_rfl) (by kernel_rfl) (fun _ _ _ h => h) (by rfl) SX.out (fun X hX => ?_) ?_
        · go_simp
        simp only [Act.put, List.setIfInBounds_toArray, List.set_cons_zero, List.set_cons_succ]
        refine RD.h_take 1 (.pointer (some ⟨s, 0, none⟩)) rfl (by kernel_rfl) (by kernel_rfl) (by kernel_rfl) (fun _ _ _ h => h) (by rfl) SX.out (fun X hX => ?_) ?_
        · go_simp
        simp only [Act.put, List.setIfInBounds_toArray, List.set_cons_zero, List.set_cons_succ]
        refine RD.h_take 2 (.pointer (some ⟨s, 0, none⟩)) rfl (by kernel_rfl) (by kernel_rfl) (by kernel_rfl) (fun _ _ _ h => h) (by rfl) SX.out (fun X hX => ?_) ?_
        · go_simp
        simp only [Act.put, List.setIfInBounds_toArray, List.set_cons_zero, List.set_cons_succ]
        refine RD.h_take 3 (.pointer (some ⟨gd, 0, none⟩)) rfl (by kernel_rfl) (by kernel_rfl) (by kernel_rfl) (fun _ _ _ h => h) (by rfl) SX.out (fun X hX => ?_) ?_
        · go_simp
        simp only [Act.put, List.setIfInBounds_toArray, List.set_cons_zero, List.set_cons_succ]
        refine RD.h_take 4 (.pointer (some ⟨s, 0, none⟩)) rfl (by kernel_rfl) (by kernel_rfl) (by kernel_rfl) (fun _ _ _ h => h) (by rfl) SX.out (fun X hX => ?_) ?_
        · go_simp
        simp only [Act.put, List.setIfInBounds_toArray, List.set_cons_zero, List.set_cons_succ]
        refine RD.h_take 5 (.int .i64 (a : Int)) rfl (by kernel_rfl) (by kernel_rfl) (by kernel_rfl) (fun _ _ _ h => h) (by rfl) SX.out (fun X hX => ?_) ?_
        · go_simp
        simp only [Act.put, List.setIfInBounds_toArray, List.set_cons_zero, List.set_cons_succ]
        refine RD.h_take 6 (.int .i64 (j : Int)) rfl (by kernel_rfl) (by kernel_rfl) (by kernel_rfl) (fun _ _ _ h => h) (by rfl) SX.out (fun X hX => ?_) ?_
        · go_simp
        simp only [Act.put, List.setIfInBounds_toArray, List.set_cons_zero, List.set_cons_succ]
        refine RD.h_take 8 (.slice A m c) rfl (by kernel_rfl) (by kernel_rfl) (by kernel_rfl) (fun _ _ _ h => h) (by rfl) SX.out (fun X hX => ?_) ?_
        · go_simp
        simp only [Act.put, List.setIfInBounds_toArray, List.set_cons_zero, List.set_cons_succ]
        refine RD.h_take 9 (.int .i64 (j : Int)) rfl (by kernel_rfl) (by kernel_rfl) (by kernel_rfl) (fun _ _ _ h => h) (by rfl) SX.out (fun X hX => ?_) ?_
        · go_simp
        simp only [Act.put, List.setIfInBounds_toArray, List.set_cons_zero, List.set_cons_succ]
        refine RD.h_take 11 (.int .i64 (j : Int)) rfl (by kernel_rfl) (by kernel_rfl) (by kernel_rfl) (fun _ _ _ h => h) (by rfl) SX.out (fun X hX => ?_) ?_
        · go_simp
        simp only [Act.put, List.setIfInBounds_toArray, List.set_cons_zero, List.set_cons_succ]
        refine RD.h_take 12 (.int .i64 (j1 : Int)) rfl (by kernel_rfl) (by kernel_rfl) (by kernel_rfl) (fun _ _ _ h => h) (by rfl) SX.out (fun X hX => ?_) ?_
        · obtain ⟨i1, i2, i3⟩ := J1.out; go_simp
        simp only [Act.put, List.setIfInBounds_toArray, List.set_cons_zero, List.set_cons_succ]
        refine RD.h_any [7] (by kernel_rfl) (by simp) (RD.one_of ?_)
        refine RD.h_call 82 #[.pointer (some ⟨s, 0, none⟩), .int .i64 (a : Int), .int .i64 (j : Int)] rfl (by rfl) (by go_simp) ((SJ.out _ GD.out).mono ?_)
        rintro e X1 ⟨rfl, b1⟩
        have G1 := Lib.hid (GD.out.trans (b1.mono GD.out.size))
        clear b1
        refine ⟨_, rfl, CJ.out _ G1.out, ?_⟩
        simp only [Act.put, List.setIfInBounds_toArray, List.set_cons_zero, List.set_cons_succ]
        refine RD.h_any [10] (by kernel_rfl) (by simp) (RD.one_of ?_)
        refine RD.h_call 79 #[.int .i64 (j : Int)] rfl (by rfl) (by go_simp) ((A1.out _).mono ?_)
        rintro e X2 ⟨rfl, rfl⟩
        refine ⟨_, rfl, CJ.out _ G1.out, ?_⟩
        simp only [Act.put, List.setIfInBounds_toArray, List.set_cons_zero, List.set_cons_succ]
        refine RD.h_any [13] (by kernel_rfl) (by simp) (RD.one_of ?_)
        refine RD.h_call 79 #[.int .i64 (j1 : Int)] rfl (by rfl) (by go_simp) ((A2.out _).mono ?_)
        rintro e X2 ⟨rfl, rfl⟩
        refine ⟨_, rfl, CJ.out _ G1.out, ?_⟩
        simp only [Act.put, List.setIfInBounds_toArray, List.set_cons_zero, List.set_cons_succ]
        refine RD.h_take 14 (.slice Aj 64 (c - lj)) rfl (by kernel_rfl) (by kernel_rfl) (by kernel_rfl) (fun _ _ _ h => h) (by rfl) (CJ.out _ G1.out) (fun X hX => ?_) ?_
        · go_simp
        simp only [Act.put, List.setIfInBounds_toArray, List.set_cons_zero, List.set_cons_succ]
        refine RD.h_any [15] (by kernel_rfl) (by simp) (RD.one_of ?_)
        refine RD.h_call 85 #[.pointer (some ⟨gd, 0, none⟩), .int .i64 (aj : Int), .slice Aj 64 (c - lj)] rfl (by rfl) (by go_simp) ((WRC.out _ G1.out).mono ?_)
        rintro e X3 ⟨rfl, F7, k7, s7, m7⟩
        have K7 := Lib.hid k7
        have M7 := Lib.hid (show Mv N F w X3 from (MR.out.trans (Mv.of (F := Fj) (Nat.le_trans HN.out MR.out.size) G1.out) FR.out).trans m7 (fun b hb => FR.out b hb))
        have F7S := Lib.hid (show ∀ b, F7 b → F b ∨ w.heap.size ≤ b from fun b hb => (s7 b hb).elim (FR.out b) (fun h => .inr (Nat.le_trans MR.out.size (Nat.le_trans G1.out.size h))))
        have S7 := Lib.hid ((CS.out _ (TS.out.mv M7.out HFS.out)).1)
        clear k7 s7 m7
        refine ⟨_, rfl, S7.out, ?_⟩
        simp only [Act.put, List.setIfInBounds_toArray, List.set_cons_zero, List.set_cons_succ]
        refine RD.h_any [16] (by kernel_rfl) (by simp) (RD.one_of ?_)
        refine h_panic 59 #[.int .i64 (cd : Int)] rfl (by rfl) (by go_simp) ((DN.out _).mono ?_)
        rintro e X4 ⟨rfl, rfl⟩
        refine ⟨_, rfl, rfl, ?_⟩
        rw [ST.out]
        exact ⟨EC.out, F7, K7.out, F7S.out, M7.out⟩
    · obtain rfl : j = n := by omega
      have t0 : ¬ (j : Int) < (j : Int) := by omega
      have hw := WR.out
      have e0 : Sl.writes at0 xs (j - j) j Dj = (0, Dj) := by rw [Nat.sub_self]; rfl
      rw [e0] at hw
      have E0 := Lib.hid hw
      clear hw e0
      go_wp2_with (fail)
      go_end0
      rw [← E0.out]
      exact ⟨rfl, Fj, KR.out, FR.out, MR.out⟩
end Go.Proofs.YtnoflgkjdibblaaGreatDoor.S20
