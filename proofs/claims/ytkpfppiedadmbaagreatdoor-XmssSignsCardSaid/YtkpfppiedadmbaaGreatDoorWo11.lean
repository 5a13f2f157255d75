/-
  Texts put together: WpR5, WpR6, WpR7, WpB. No statement is proved here.
-/
import Derived.Test.YtkpfppiedadmbaaGreatDoorWo10
import Derived.Deep.AppendLies

/-
  What the document's own H of layer 14 do, of rows of 32 bytes. No statement is proved here. (Written by genwp3.py.)
-/
namespace Go.Proofs.YtkpfppiedadmbaaGreatDoor.S15
set_option linter.unusedSimpArgs false
set_option linter.unusedVariables false
set_option maxRecDepth 1024
open Go.RowKit

set_option maxHeartbeats 4000000 in
theorem rh_core (D : Ad) (As : Option Addr) (cs : Nat) (sd : List UInt8) (Ax : Option Addr) (cx : Nat) (xs : List UInt8) (Ay : Option Addr) (cy : Nat) (ys : List UInt8) (w : World) (hs : Rd w As 32 cs sd) (hx : Rd w Ax 32 cx xs) (hy : Rd w Ay 32 cy ys) (b0 b1 b2 p0 p1 p2 m1 m2 z : List UInt8)
    (h1 : ∀ X, Calls Tryz.prog 78 #[adV D, .int .u32 0] X (New X.heap.size X b0))
    (h2 : ∀ X A c, Rd X As 32 cs sd → Rd X A 32 c b0 → Calls Tryz.prog 33 #[.slice As 32 cs, .slice A 32 c] X (New X.heap.size X p0))
    (h3 : ∀ X, Calls Tryz.prog 78 #[adV D, .int .u32 1] X (New X.heap.size X b1))
    (h4 : ∀ X A c, Rd X As 32 cs sd → Rd X A 32 c b1 → Calls Tryz.prog 33 #[.slice As 32 cs, .slice A 32 c] X (New X.heap.size X p1))
    (h5 : ∀ X A c, Rd X Ax 32 cx xs → Rd X A 32 c p1 → Calls Tryz.prog 79 #[.slice Ax 32 cx, .slice A 32 c] X (New X.heap.size X m1))
    (h6 : ∀ X, Calls Tryz.prog 78 #[adV D, .int .u32 2] X (New X.heap.size X b2))
    (h7 : ∀ X A c, Rd X As 32 cs sd → Rd X A 32 c b2 → Calls Tryz.prog 33 #[.slice As 32 cs, .slice A 32 c] X (New X.heap.size X p2))
    (h8 : ∀ X A c, Rd X Ay 32 cy ys → Rd X A 32 c p2 → Calls Tryz.prog 79 #[.slice Ay 32 cy, .slice A 32 c] X (New X.heap.size X m2))
    (h9 : ∀ X A c A' c', Rd X A 32 c p0 → Rd X A' 64 c' (m1 ++ m2) → Calls Tryz.prog 36 #[.int .u8 1, .slice A 32 c, .slice A' 64 c'] X (New X.heap.size X z))
    (l1 : b0.length = 32)
    (l2 : p0.length = 32)
    (l3 : b1.length = 32)
    (l4 : p1.length = 32)
    (l5 : m1.length = 32)
    (l6 : b2.length = 32)
    (l7 : p2.length = 32)
    (l8 : m2.length = 32)

    : Calls Tryz.prog 51 #[.slice As 32 cs, adV D, .slice Ax 32 cx, .slice Ay 32 cy] w (New w.heap.size w z) := by
  have HS := Lib.hid hs
  have HX := Lib.hid hx
  have HY := Lib.hid hy
  unfold adV at *
  have H1H := Lib.hid h1
  have H2H := Lib.hid h2
  have H3H := Lib.hid h3
  have H4H := Lib.hid h4
  have H5H := Lib.hid h5
  have H6H := Lib.hid h6
  have H7H := Lib.hid h7
  have H8H := Lib.hid h8
  have H9H := Lib.hid h9
  have L1H := Lib.hid l1
  have L2H := Lib.hid l2
  have L3H := Lib.hid l3
  have L4H := Lib.hid l4
  have L5H := Lib.hid l5
  have L6H := Lib.hid l6
  have L7H := Lib.hid l7
  have L8H := Lib.hid l8
  clear hs hx hy h1 h2 h3 h4 h5 h6 h7 h8 h9 l1 l2 l3 l4 l5 l6 l7 l8
  obtain ⟨g, hg⟩ : ∃ g, g = w.heap.size := ⟨_, rfl⟩
  go_enter Tryz.func51, Tryz.ntmps51
  go_upto_region 3 with (fail)
  obtain ⟨w0, hw0⟩ : ∃ w0, w.alloc (.cells (adA D) 76) = w0 := ⟨_, rfl⟩
  have G0 := Lib.hid (show Bk w0 g 76 (adA D) by rw [← hw0, hg]; exact Bk.new _ _ _)
  have B0 := Lib.hid (show Below w.heap.size w w0 by rw [← hw0]; exact (Below.refl _ _).alloc (Nat.le_refl _) _)
  rw [hw0, ← hg]
  clear hw0 hg
  (go_region_held3 (fun w' => w'.cell? ⟨g, 0, none⟩ = some (.int .u32 (D.layer : Int)) ∧ w'.cell? ⟨g, 1, none⟩ = some (.int .u64 (D.tree : Int)) ∧ w'.cell? ⟨g, 2, none⟩ = some (.int .u32 (D.kind : Int)) ∧ w'.cell? ⟨g, 3, none⟩ = some (.int .u32 (D.a : Int)) ∧ w'.cell? ⟨g, 4, none⟩ = some (.int .u32 (D.b : Int)) ∧ w'.cell? ⟨g, 5, none⟩ = some (.int .u32 (D.c : Int)))
    (first
      | exact ad_cells G10.out
      | exact ad_cells G9.out
      | exact ad_cells G8.out
      | exact ad_cells G7.out
      | exact ad_cells G6.out
      | exact ad_cells G5.out
      | exact ad_cells G4.out
      | exact ad_cells G3.out
      | exact ad_cells G2.out
      | exact ad_cells G1.out
      | exact ad_cells G0.out)
    (first
      | (go_at_call 78; ((with_reducible refine (H1H.out _).mono ?_)); rintro e w1 ⟨A1, n1, c1, rfl, q, b⟩; obtain rfl : n1 = 32 := (own_len q).symm.trans (L1H.out); have R1 := Lib.hid (Rd.own q); have B1 := Lib.hid ((B0.out.drew).trans (b.mono B0.out.size)); have G1 := Lib.hid ((G0.out.drew).below b (G0.out.drew).lt); clear q b)
      | (go_at_call 33; ((with_reducible refine (H2H.out _ A1 c1 (HS.out.below B1.out) R1.out).mono ?_)); rintro e w2 ⟨A2, n2, c2, rfl, q, b⟩; obtain rfl : n2 = 32 := (own_len q).symm.trans (L2H.out); have R2 := Lib.hid (Rd.own q); have N2 := Lib.hid b; have B2 := Lib.hid ((B1.out).trans (b.mono B1.out.size)); have G2 := Lib.hid ((G1.out).below b (G1.out).lt); clear q b)
      | (go_at_call 78; ((with_reducible refine (H3H.out _).mono ?_)); rintro e w3 ⟨A3, n3, c3, rfl, q, b⟩; obtain rfl : n3 = 32 := (own_len q).symm.trans (L3H.out); have R3 := Lib.hid (Rd.own q); have N3 := Lib.hid b; have B3 := Lib.hid ((B2.out).trans (b.mono B2.out.size)); have G3 := Lib.hid ((G2.out).below b (G2.out).lt); clear q b)
      | (go_at_call 33; ((with_reducible refine (H4H.out _ A3 c3 (HS.out.below B3.out) R3.out).mono ?_)); rintro e w4 ⟨A4, n4, c4, rfl, q, b⟩; obtain rfl : n4 = 32 := (own_len q).symm.trans (L4H.out); have R4 := Lib.hid (Rd.own q); have N4 := Lib.hid b; have B4 := Lib.hid ((B3.out).trans (b.mono B3.out.size)); have G4 := Lib.hid ((G3.out).below b (G3.out).lt); clear q b)
      | (go_at_call 79; ((with_reducible refine (H5H.out _ A4 c4 (HX.out.below B4.out) R4.out).mono ?_)); rintro e w5 ⟨A5, n5, c5, rfl, q, b⟩; obtain rfl : n5 = 32 := (own_len q).symm.trans (L5H.out); have R5 := Lib.hid q; have N5 := Lib.hid b; have B5 := Lib.hid ((B4.out).trans (b.mono B4.out.size)); have G5 := Lib.hid ((G4.out).below b (G4.out).lt); clear q b)
      | (go_at_call 78; ((with_reducible refine (H6H.out _).mono ?_)); rintro e w6 ⟨A6, n6, c6, rfl, q, b⟩; obtain rfl : n6 = 32 := (own_len q).symm.trans (L6H.out); have R6 := Lib.hid (Rd.own q); have N6 := Lib.hid b; have B6 := Lib.hid ((B5.out).trans (b.mono B5.out.size)); have G6 := Lib.hid ((G5.out).below b (G5.out).lt); clear q b)
      | (go_at_call 33; ((with_reducible refine (H7H.out _ A6 c6 (HS.out.below B6.out) R6.out).mono ?_)); rintro e w7 ⟨A7, n7, c7, rfl, q, b⟩; obtain rfl : n7 = 32 := (own_len q).symm.trans (L7H.out); have R7 := Lib.hid (Rd.own q); have N7 := Lib.hid b; have B7 := Lib.hid ((B6.out).trans (b.mono B6.out.size)); have G7 := Lib.hid ((G6.out).below b (G6.out).lt); clear q b)
      | (go_at_call 79; ((with_reducible refine (H8H.out _ A7 c7 (HY.out.below B7.out) R7.out).mono ?_)); rintro e w8 ⟨A8, n8, c8, rfl, q, b⟩; obtain rfl : n8 = 32 := (own_len q).symm.trans (L8H.out); have R8 := Lib.hid (Rd.own q); have N8 := Lib.hid b; have B8 := Lib.hid ((B7.out).trans (b.mono B7.out.size)); have G8 := Lib.hid ((G7.out).below b (G7.out).lt); clear q b)
      | (refine step_append_rd (by rfl) (.tmp 31) (.tmp 37) (by rfl) w4.heap.size (.slice A5 32 c5) 32 m1 (by rfl) (own_below (own_below (own_below R5.out N6.out) N7.out) N8.out) A8 32 c8 m2 (by rfl) R8.out (by omega) (Nat.le_trans N5.out.size (Nat.le_trans N6.out.size (Nat.le_trans N7.out.size N8.out.size))) ?_; intro v9 w9 q9 g9 at9; obtain ⟨A9, c9, rfl⟩ := own_form q9; have R9 := Lib.hid (Rd.own q9); have N9 := Lib.hid (show Below w4.heap.size w8 w9 from (Below.refl _ _).grown g9 (Nat.le_trans N5.out.size (Nat.le_trans N6.out.size (Nat.le_trans N7.out.size N8.out.size))) (fun g hg => (R5.out.lt g hg).1)); have B9 := Lib.hid (B8.out.grown g9 B8.out.size (fun g hg => Nat.le_trans B4.out.size (R5.out.lt g hg).1)); have KK := Lib.hid (show Below w4.heap.size w4 w9 from (((N5.out.trans (N6.out.mono N5.out.size)).trans (N7.out.mono (Nat.le_trans N5.out.size N6.out.size))).trans (N8.out.mono (Nat.le_trans N5.out.size (Nat.le_trans N6.out.size N7.out.size)))).trans N9.out); have G9 := Lib.hid (G4.out.below KK.out G4.out.lt); clear q9 g9 at9)
      | (go_at_call 36; ((with_reducible refine (H9H.out _ A2 c2 A9 c9 ((R2.out.below N3.out |>.below N4.out).below KK.out) R9.out).mono ?_)); rintro e w10 ⟨A10, n10, c10, rfl, q, b⟩; have O10 := Lib.hid q; have M10 := Lib.hid b; have G10 := Lib.hid ((G9.out).below b (G9.out).lt); clear q b)
      | fail))
  go_wp2
  go_ret
  exact New.from B9.out ⟨A10, n10, c10, rfl, O10.out, M10.out⟩
theorem rh_any (D : Ad) (hD : D.Ok) (As : Option Addr) (cs : Nat) (sd : List UInt8) (Ax : Option Addr) (cx : Nat) (xs : List UInt8) (Ay : Option Addr) (cy : Nat) (ys : List UInt8) (w : World) (hs : Rd w As 32 cs sd) (hx : Rd w Ax 32 cx xs) (hy : Rd w Ay 32 cy ys) :
    Calls Tryz.prog 51 #[.slice As 32 cs, adV D, .slice Ax 32 cx, .slice Ay 32 cy] w (New w.heap.size w (hL sd D xs ys)) :=
  rh_core D As cs sd Ax cx xs Ay cy ys w hs hx hy (adB D 0) (adB D 1) (adB D 2) (prfL sd (adB D 0)) (prfL sd (adB D 1)) (prfL sd (adB D 2)) (xr xs (prfL sd (adB D 1))) (xr ys (prfL sd (adB D 2))) _
    (fun X => rbytes_any D hD 0 (by omega) X) (fun X A c h h' => rprf_any As 32 cs sd A 32 c _ X h h' (by omega) (by omega))
    (fun X => rbytes_any D hD 1 (by omega) X) (fun X A c h h' => rprf_any As 32 cs sd A 32 c _ X h h' (by omega) (by omega))
    (fun X A c h h' => rxor_any Ax A cx c xs _ X h h')
    (fun X => rbytes_any D hD 2 (by omega) X) (fun X A c h h' => rprf_any As 32 cs sd A 32 c _ X h h' (by omega) (by omega))
    (fun X A c h h' => rxor_any Ay A cy c ys _ X h h') (fun X A c A' c' h h' => rnum_any 1 A 32 c _ A' 64 c' _ X h h' (by omega) (by omega))
    (adB_len D 0) (prf_len _ _) (adB_len D 1) (prf_len _ _) (xr_len hx.len (prf_len _ _)) (adB_len D 2) (prf_len _ _) (xr_len hy.len (prf_len _ _))
end Go.Proofs.YtkpfppiedadmbaaGreatDoor.S15

/-
  What the document's own chain of layer 15 does: x gone up, and a chain's secret. No statement is proved here.
-/
namespace Go.Proofs.YtkpfppiedadmbaaGreatDoor.S15
set_option linter.unusedSimpArgs false
set_option linter.unusedVariables false
set_option maxRecDepth 1024
open Go.RowKit

/-- The address of a step. -/
abbrev stp (D : Ad) (i j : Nat) : Ad := { D with kind := 0, b := i, c := j }
theorem up_next (sd : List UInt8) (D : Ad) (i j n : Nat) (x : List UInt8) (h : 0 < n) : upL sd D i j n x = upL sd D i (j + 1) (n - 1) (fL sd (stp D i j) x) := by
  obtain ⟨m, rfl⟩ : ∃ m, n = m + 1 := ⟨n - 1, by omega⟩
  rfl
theorem f_len (sd : List UInt8) (D : Ad) (x : List UInt8) : (fL sd D x).length = 32 := num_len _ _ _
/-- A row of bytes lies in no address. -/
theorem rd_farAd {w : World} {g : Nat} {T : TypeId} {D : Ad} {A : Option Addr} {n c : Nat} {xs : List UInt8} (h : Rd w A n c xs) (hG : Bk w g T (adA D)) (i : Nat) (u : Value) : Rd (w.setCell ⟨g, i, none⟩ u) A n c xs := by
  refine ⟨h.len, h.cap, h.max, h.nil, fun hn => ?_⟩
  obtain ⟨b, off, rfl, hb, hc⟩ := h.at_ hn
  have hne : b ≠ g := by
    rintro rfl
    have h0 := hc 0 hn
    rw [hG.cell] at h0
    rcases off with _ | _ | _ | _ | _ | _ | o <;> simp at h0
  exact ⟨b, off, rfl, by simpa [World.setCell] using hb, fun j hj => (World.cell?_of_block (Below.heap_setCell w ⟨g, i, none⟩ u b hne)).trans (hc j hj)⟩
set_option maxHeartbeats 4000000 in
theorem rup_any (D : Ad) (hD : D.Ok) (i from' to : Nat) (hi : i < 2147483648) (hto : to < 2147483648) (As : Option Addr) (cs : Nat) (sd : List UInt8) (Ax : Option Addr) (cx : Nat) (xs : List UInt8) (w : World) (hs : Rd w As 32 cs sd) (hx : Rd w Ax 32 cx xs) (hf : from' ≤ to) :
    Calls Tryz.prog 68 #[.slice As 32 cs, adV D, .int .i64 (i : Int), .int .i64 (from' : Int), .int .i64 (to : Int), .slice Ax 32 cx] w (New w.heap.size w (upL sd D i from' (to - from') xs)) := by
  obtain ⟨R, hR⟩ : ∃ R, R = upL sd D i from' (to - from') xs := ⟨_, rfl⟩
  rw [← hR]
  have FA := Lib.hid (fun (X : World) (j : Nat) (hj : j < 2147483648) (A : Option Addr) (c : Nat) (ys : List UInt8) (h : Rd X As 32 cs sd) (h' : Rd X A 32 c ys) => rf_any (stp D i j) ⟨hD.layer, hD.tree, by show 0 < _; omega, hD.a, by show i < _; omega, by show j < _; omega⟩ As cs sd A c ys X h h')
  have HS := Lib.hid hs
  have HX := Lib.hid hx
  have HR := Lib.hid hR
  unfold adV at *
  clear hs hx hR hD
  obtain ⟨g, hg⟩ : ∃ g, g = w.heap.size := ⟨_, rfl⟩
  have HG := Lib.hid hg
  go_enter Tryz.func68, Tryz.ntmps68
  go_upto_region 1 with (fail)
  obtain ⟨w0, hw0⟩ : ∃ w0, w.alloc (.cells (adA D) 76) = w0 := ⟨_, rfl⟩
  have hG0 : Bk w0 g 76 (adA D) := by rw [← hw0, hg]; exact Bk.new _ _ _
  have hB0 : Below w.heap.size w w0 := by rw [← hw0]; exact (Below.refl _ _).alloc (Nat.le_refl _) _
  rw [hw0, ← hg]
  rw [← hg] at hB0
  have hgl := hG0.lt
  have c2 : w0.cell? ⟨g, 2, none⟩ = some (.int .u32 (D.kind : Int)) := hG0.cell 2
  have f2 := hG0.frozen 2
  clear hw0 hg
  go_upto_region 2 with (fail)
  obtain ⟨w1, hw1⟩ : ∃ w1, w0.setCell ⟨g, 2, none⟩ (.int .u32 0) = w1 := ⟨_, rfl⟩
  rw [hw1]
  have hG1 : Bk w1 g 76 (adA { D with kind := 0 }) := by rw [← hw1]; exact hG0.put 2 _
  have hB1 : Below g w w1 := by rw [← hw1]; exact hB0.setCell (Nat.le_refl _) _
  clear hw1 hG0 hB0 c2 f2 hgl
  have hgl := hG1.lt
  have c4 : w1.cell? ⟨g, 4, none⟩ = some (.int .u32 (D.b : Int)) := hG1.cell 4
  have f4 := hG1.frozen 4
  have ei : (i : Int) % 4294967296 = (i : Int) := by omega
  go_upto_region 3 with (fail)
  obtain ⟨w2, hw2⟩ : ∃ w2, w1.setCell ⟨g, 4, none⟩ (.int .u32 (i : Int)) = w2 := ⟨_, rfl⟩
  first
    | rw [hw2]
    | (trace_state; fail)
  have hG2 : Bk w2 g 76 (adA (stp D i D.c)) := by rw [← hw2]; exact hG1.put 4 _
  have hB2 : Below g w w2 := by rw [← hw2]; exact hB1.setCell (Nat.le_refl _) _
  clear hw2 hG1 hB1 c4 f4 hgl ei
  have hR := HR.out
  have hX2 : Rd w2 Ax 32 cx xs := HX.out.below (by have := HG.out; exact this ▸ hB2)
  go_wp2
  go_loopw [5, 13] (fun x j wr => ∃ (k : Nat) (A : Option Addr) (c q : Nat) (ys : List UInt8), k ≤ to - from' ∧ x = .slice A 32 c ∧ j = .int .i64 ((from' + k : Nat) : Int) ∧ Rd wr A 32 c ys ∧ Bk wr g 76 (adA (stp D i q)) ∧ Below g w wr ∧ R = upL sd D i (from' + k) (to - from' - k) ys) (fun _ j _ => to - (intOf j).toNat)
  case atStart => exact ⟨0, Ax, cx, D.c, xs, Nat.zero_le _, rfl, by simp, hX2, hG2, hB2, hR⟩
  case round =>
    clear hR hX2 hG2 hB2
    obtain ⟨k, A, c, q, ys, hk, rfl, rfl, hrd, hG, hB, hR⟩ := hrel
    have hgl := hG.lt
    by_cases hlt : k < to - from'
    · have t0 : ((from' + k : Nat) : Int) < (to : Int) := by omega
      obtain ⟨j, hj⟩ : ∃ j, j = from' + k := ⟨_, rfl⟩
      rw [← hj] at t0 hR ⊢
      have HJ := Lib.hid hj
      have c5 : wr.cell? ⟨g, 5, none⟩ = some (.int .u32 (q : Int)) := hG.cell 5
      have f5 := hG.frozen 5
      have ej : (j : Int) % 4294967296 = (j : Int) := by omega
      clear hj
      go_upto_region 7 with (fail)
      obtain ⟨w3, hw3⟩ : ∃ w3, wr.setCell ⟨g, 5, none⟩ (.int .u32 (j : Int)) = w3 := ⟨_, rfl⟩
      first
        | rw [hw3]
        | (trace_state; fail)
      have hG3 : Bk w3 g 76 (adA (stp D i j)) := by rw [← hw3]; exact hG.put 5 _
      have hB3 : Below g w w3 := by rw [← hw3]; exact hB.setCell (Nat.le_refl _) _
      have hr3 : Rd w3 A 32 c ys := by rw [← hw3]; exact rd_farAd hrd hG 5 _
      have hs3 : Rd w3 As 32 cs sd := HS.out.below (by have := HG.out; exact this ▸ hB3)
      have e1 := up_next sd D i j (to - from' - k) ys (by omega)
      rw [e1] at hR
      have l1 := f_len sd (stp D i j) ys
      have HF := Lib.hid (show Calls Tryz.prog 95 #[.slice As 32 cs, .agg #[.int .u32 (D.layer : Int), .int .u64 (D.tree : Int), .int .u32 0, .int .u32 (D.a : Int), .int .u32 (i : Int), .int .u32 (j : Int)], .slice A 32 c] w3 (New w3.heap.size w3 (fL sd (stp D i j) ys)) from FA.out w3 j (by omega) A c ys hs3 hr3)
      have HR2 := Lib.hid hR
      have HB3 := Lib.hid hB3
      have HL := Lib.hid l1
      generalize fL sd (stp D i j) ys = zs at HF HR2 HL
      clear hw3 hG hB hrd c5 f5 ej hr3 hs3 e1 l1 hR hB3
      have k0 : w3.cell? ⟨g, 0, none⟩ = some (.int .u32 (D.layer : Int)) := hG3.cell 0
      have k1 : w3.cell? ⟨g, 1, none⟩ = some (.int .u64 (D.tree : Int)) := hG3.cell 1
      have k2 : w3.cell? ⟨g, 2, none⟩ = some (.int .u32 0) := hG3.cell 2
      have k3 : w3.cell? ⟨g, 3, none⟩ = some (.int .u32 (D.a : Int)) := hG3.cell 3
      have k4 : w3.cell? ⟨g, 4, none⟩ = some (.int .u32 (i : Int)) := hG3.cell 4
      have k5 : w3.cell? ⟨g, 5, none⟩ = some (.int .u32 (j : Int)) := hG3.cell 5
      have HG3 := Lib.hid hG3
      clear hG3 hgl
      go_wp2_with (go_at_call 95; ((with_reducible refine HF.out.mono ?_); rintro e w4 ⟨A4, n4, c4, rfl, q4, b4⟩; have O4 := Lib.hid q4; have M4 := Lib.hid b4; clear q4 b4))
      go_roundw
      case rel =>
        obtain rfl : n4 = 32 := (own_len O4.out).symm.trans HL.out
        have e2 : to - from' - k - 1 = to - from' - (k + 1) := by omega
        have e3 : j + 1 = from' + (k + 1) := by have := HJ.out; omega
        exact ⟨k + 1, A4, c4, j, zs, by omega, rfl, by rw [← e3]; rfl, Rd.own O4.out, HG3.out.below M4.out HG3.out.lt, HB3.out.trans (M4.out.mono (Nat.le_of_lt HG3.out.lt)), by rw [HR2.out, e2, e3]⟩
      case measure => simp [intOf]; omega
    · have K0 : k = to - from' := by omega
      have t0 : ¬ ((from' + k : Nat) : Int) < (to : Int) := by omega
      have HE := Lib.hid (show upL sd D i (from' + k) (to - from' - k) ys = ys by rw [K0, Nat.sub_self]; rfl)
      obtain ⟨j, hj⟩ : ∃ j, j = from' + k := ⟨_, rfl⟩
      rw [← hj] at t0 ⊢
      have HR2 := Lib.hid hR
      have HRD := Lib.hid hrd
      have HB := Lib.hid hB
      have HGL := Lib.hid hgl
      clear hj K0 hk hlt hR hG hB hgl hrd
      have HOE := Lib.hid (S2.own_empty wr w.heap.size (by have := HB.out.size; have := HG.out; have := HGL.out; omega))
      go_wp2_with (at_builtin; go_loud (refine append_rd rfl (.tmp 31) (.tmp 32) rfl w.heap.size _ 0 [] rfl HOE.out A 32 c ys rfl (HRD.out.alloc _) (by omega) (by have := HGL.out; have := HG.out; simp; omega) ?_); intro v4 w4 hown4 hg4)
      go_ret
      rw [HR2.out, HE.out]
      have hB2 : Below w.heap.size w w4 := by
        have h1 := HG.out
        have h2 := HGL.out
        have h3 : Below w.heap.size w wr := h1 ▸ HB.out
        exact (h3.alloc h3.size (.cells #[] 5)).grown hg4 (Nat.le_trans h3.size (by simp)) (fun q hq => (HOE.out.lt q hq).1)
      exact New.mk (by simpa using hown4) hB2
end Go.Proofs.YtkpfppiedadmbaaGreatDoor.S15

/-
  What the document's own secret of a chain of layer 15 does. No statement is proved here.
-/
namespace Go.Proofs.YtkpfppiedadmbaaGreatDoor.S15
set_option linter.unusedSimpArgs false
set_option linter.unusedVariables false
set_option maxRecDepth 1024
open Go.RowKit

/-- A masked key's cells. -/
abbrev mkA (As : Option Addr) (ns cs : Nat) (Al : Option Addr) (nl cl : Nat) (Ad' : Option Addr) (nd cd : Nat) : Array Value := #[.slice As ns cs, .slice Al nl cl, .slice Ad' nd cd]
/-- What lies in a made row of 32 bytes, its last written. -/
theorem made32 (w : World) (mc : Array Value) (hm : mc.toList = bv (List.replicate 32 0)) (k : Nat) (hk : k < 256) (b : Nat) (hb : w.heap.size = b) :
    (w.alloc (.cells mc 5)).cell? ⟨b, 31, none⟩ = some (.int .u8 0) ∧ (w.alloc (.cells mc 5)).frozen? ⟨b, 31, none⟩ = false ∧
      Rd (w.alloc (.cells (mc.setIfInBounds 31 (.int .u8 (k : Int))) 5)) (some ⟨b, 0, none⟩) 32 32 (b32 (UInt8.ofNat k)) := by
  subst hb
  obtain ⟨mc⟩ := mc
  simp only at hm
  subst hm
  have ho := own_lit_u8 w w.heap.size (List.replicate 32 0) (Nat.le_refl _) (by simp [maxLen])
  simp only [List.length_replicate] at ho
  refine ⟨ho.cellAt 31 (by omega), ho.frozenAt 31, ?_⟩
  have e : ((UInt8.ofNat k).toNat : Int) = (k : Int) := by simp; omega
  have e1 : (bv (List.replicate 32 0)).toArray.setIfInBounds 31 (.int .u8 (k : Int)) = (bv (b32 (UInt8.ofNat k))).toArray := by
    rw [List.setIfInBounds_toArray, ← e, bv_set]
    rfl
  rw [e1]
  exact Rd.own (own_lit_u8 w w.heap.size (b32 (UInt8.ofNat k)) (Nat.le_refl _) (by simp [maxLen, b32]))
set_option maxHeartbeats 4000000 in
theorem rsec_core (D : Ad) (k : Nat) (hk : k < 256) (As : Option Addr) (cs : Nat) (sd : List UInt8) (Al : Option Addr) (nl cl : Nat) (Ae : Option Addr) (ne ce : Nat) (w : World) (hs : Rd w As 32 cs sd) (b0 p0 z : List UInt8)
    (h1 : ∀ X, Calls Tryz.prog 78 #[adV D, .int .u32 0] X (New X.heap.size X b0))
    (h2 : ∀ X A c, Rd X As 32 cs sd → Rd X A 32 c b0 → Calls Tryz.prog 33 #[.slice As 32 cs, .slice A 32 c] X (New X.heap.size X p0))
    (h3 : ∀ X A c A' c', Rd X A 32 c p0 → Rd X A' 32 c' (b32 (UInt8.ofNat k)) → Calls Tryz.prog 33 #[.slice A 32 c, .slice A' 32 c'] X (New X.heap.size X z))
    (l1 : b0.length = 32) (l2 : p0.length = 32) :
    Calls Tryz.prog 69 #[.agg (mkA As 32 cs Al nl cl Ae ne ce), adV D, .int .i64 (k : Int)] w (New w.heap.size w z) := by
  have HS := Lib.hid hs
  unfold adV at *
  have H1H := Lib.hid h1
  have H2H := Lib.hid h2
  have H3H := Lib.hid h3
  have L1H := Lib.hid l1
  have L2H := Lib.hid l2
  clear hs h1 h2 h3 l1 l2
  obtain ⟨g, hg⟩ : ∃ g, g = w.heap.size := ⟨_, rfl⟩
  go_enter Tryz.func69, Tryz.ntmps69
  go_upto_region 1 with (fail)
  obtain ⟨w0, hw0⟩ : ∃ w0, (w.alloc (.cells (mkA As 32 cs Al nl cl Ae ne ce) 26)).alloc (.cells (adA D) 76) = w0 := ⟨_, rfl⟩
  have G0 : Bk w0 g 26 (mkA As 32 cs Al nl cl Ae ne ce) := by rw [← hw0, hg]; exact (Bk.new _ _ _).alloc _
  have A0 : Bk w0 (g + 1) 76 (adA D) := by rw [← hw0, hg]; exact Bk.newAt _ _ _ _ (by simp)
  have B0 : Below w.heap.size w w0 := by rw [← hw0]; exact ((Below.refl _ _).alloc (Nat.le_refl _) _).alloc (by simp) _
  first
    | rw [hw0, ← hg]
    | (trace_state; fail)
  have hmk : ∀ X, (Instr.makeSlice 24 (.int .i64 32) (.int .i64 32)).run Tryz.prog X = .ok (.slice (some ⟨X.heap.size, 0, none⟩) 32 32) (X.alloc (.cells (madeCells #[Value.int .u8 0] 32) 5)) := fun _ => by kernel_rfl
  have hmc := bv_zero 32
  generalize madeCells #[Value.int .u8 0] 32 = mc at hmk hmc
  obtain ⟨b, hb⟩ : ∃ b, w0.heap.size = b := ⟨_, rfl⟩
  obtain ⟨k0, k1, k2⟩ := made32 w0 mc hmc k hk b hb
  have ew : (k : Int) % 256 = (k : Int) := by omega
  have K2 := Lib.hid k2
  have HB := Lib.hid hb
  have G0H := Lib.hid G0
  have A0H := Lib.hid A0
  have B0H := Lib.hid B0
  clear hw0 hg k2 G0 A0 B0 hmc
  go_upto_region 3 with (fail)
  obtain ⟨w1, hw1⟩ : ∃ w1, w0.alloc (.cells (mc.setIfInBounds 31 (.int .u8 (k : Int))) 5) = w1 := ⟨_, rfl⟩
  have R1 := Lib.hid (hw1 ▸ K2.out)
  have B1 := Lib.hid (show Below w.heap.size w w1 by rw [← hw1]; exact B0H.out.alloc B0H.out.size _)
  have M1 := Lib.hid (show Bk w1 g 26 (mkA As 32 cs Al nl cl Ae ne ce) by rw [← hw1]; exact G0H.out.alloc _)
  have G1 := Lib.hid (show Bk w1 (g + 1) 76 (adA D) by rw [← hw1]; exact A0H.out.alloc _)
  rw [hw1]
  clear hw1 K2 k0 k1 hmk HB hb G0H A0H B0H ew
  (go_region_held3 (fun w' => w'.cell? ⟨g, 0, none⟩ = some (.slice As 32 cs) ∧ w'.cell? ⟨g + 1, 0, none⟩ = some (.int .u32 (D.layer : Int)) ∧ w'.cell? ⟨g + 1, 1, none⟩ = some (.int .u64 (D.tree : Int)) ∧ w'.cell? ⟨g + 1, 2, none⟩ = some (.int .u32 (D.kind : Int)) ∧ w'.cell? ⟨g + 1, 3, none⟩ = some (.int .u32 (D.a : Int)) ∧ w'.cell? ⟨g + 1, 4, none⟩ = some (.int .u32 (D.b : Int)) ∧ w'.cell? ⟨g + 1, 5, none⟩ = some (.int .u32 (D.c : Int)))
    (first
      | exact ⟨M4.out.cell 0, ad_cells G4.out⟩
      | exact ⟨M3.out.cell 0, ad_cells G3.out⟩
      | exact ⟨M2.out.cell 0, ad_cells G2.out⟩
      | exact ⟨M1.out.cell 0, ad_cells G1.out⟩)
    (first
      | (go_at_call 78; ((with_reducible refine (H1H.out _).mono ?_)); rintro e w2 ⟨A2, n2, c2, rfl, q, b2⟩; obtain rfl : n2 = 32 := (own_len q).symm.trans (L1H.out); have R2 := Lib.hid (Rd.own q); have B2 := Lib.hid ((B1.out.drew).trans (b2.mono B1.out.size)); have Q2 := Lib.hid ((R1.out.drew).below b2); have M2 := Lib.hid ((M1.out.drew).below b2 (M1.out.drew).lt); have G2 := Lib.hid ((G1.out.drew).below b2 (G1.out.drew).lt); clear q b2)
      | (go_at_call 33; ((with_reducible refine (H2H.out _ A2 c2 (HS.out.below B2.out) R2.out).mono ?_)); rintro e w3 ⟨A3, n3, c3, rfl, q, b3⟩; obtain rfl : n3 = 32 := (own_len q).symm.trans (L2H.out); have R3 := Lib.hid (Rd.own q); have B3 := Lib.hid ((B2.out).trans (b3.mono B2.out.size)); have Q3 := Lib.hid ((Q2.out).below b3); have M3 := Lib.hid ((M2.out).below b3 (M2.out).lt); have G3 := Lib.hid ((G2.out).below b3 (G2.out).lt); clear q b3)
      | (go_at_call 33; ((with_reducible refine (H3H.out _ A3 c3 _ _ R3.out Q3.out).mono ?_)); rintro e w4 ⟨A4, n4, c4, rfl, q, b4⟩; have O4 := Lib.hid q; have N4 := Lib.hid b4; have M4 := Lib.hid ((M3.out).below b4 (M3.out).lt); have G4 := Lib.hid ((G3.out).below b4 (G3.out).lt); clear q b4)
      | fail))
  go_wp2
  go_ret
  exact New.from B3.out ⟨A4, n4, c4, rfl, O4.out, N4.out⟩
theorem rsec_any (D : Ad) (hD : D.Ok) (k : Nat) (hk : k < 256) (As : Option Addr) (cs : Nat) (sd : List UInt8) (Al : Option Addr) (nl cl : Nat) (Ae : Option Addr) (ne ce : Nat) (w : World) (hs : Rd w As 32 cs sd) :
    Calls Tryz.prog 69 #[.agg (mkA As 32 cs Al nl cl Ae ne ce), adV D, .int .i64 (k : Int)] w (New w.heap.size w (secL sd D k)) :=
  rsec_core D k hk As cs sd Al nl cl Ae ne ce w hs (adB D 0) (prfL sd (adB D 0)) _
    (fun X => rbytes_any D hD 0 (by omega) X) (fun X A c h h' => rprf_any As 32 cs sd A 32 c _ X h h' (by omega) (by omega))
    (fun X A c A' c' h h' => rprf_any A 32 c _ A' 32 c' _ X h h' (by omega) (by omega)) (adB_len D 0) (prf_len _ _)
end Go.Proofs.YtkpfppiedadmbaaGreatDoor.S15

/-
  Rows of 32 bytes that are put one behind another in a new slice of rows. No statement is proved here.
-/
namespace Go.Proofs.YtkpfppiedadmbaaGreatDoor.S15
set_option linter.unusedSimpArgs false
set_option linter.unusedVariables false
set_option maxRecDepth 1024
open Go.RowKit

theorem Tryz.infoRows : (Tryz.prog.info? 24).map (fun i => (i.zero, i.size, i.bytes)) = some (some (.slice none 0 0), 1, 24) := by kernel_rfl
/-- v is a new slice of k rows of 32 bytes that read as xss, none of them in its own block. -/
structure Rows (w : World) (B : Nat) (v : Value) (k : Nat) (vs : List Value) (xss : List (List UInt8)) : Prop where
  own : w.ownsRow B 24 1 v k vs
  len : xss.length = k
  row : ∀ j, j < k → ∃ A c, vs[j]? = some (.slice A 32 c) ∧ Rd w A 32 c (xss[j]?.getD []) ∧ ∀ a, A = some a → v.ownBlock ≠ some a.block
section
variable {w w' : World} {B k : Nat} {v : Value} {vs : List Value} {xss : List (List UInt8)}
theorem Rows.nil_ (w : World) (B : Nat) : Rows w B (.slice none 0 0) 0 [] [] := ⟨World.ownsRow_nil _ _ _ _, rfl, fun j hj => absurd hj (by omega)⟩
theorem Rows.below (h : Rows w B v k vs xss) (hb : Below w.heap.size w w') : Rows w' B v k vs xss :=
  ⟨own_below h.own hb, h.len, fun j hj => by
    obtain ⟨A, c, h1, h2, h3⟩ := h.row j hj
    exact ⟨A, c, h1, h2.below hb, h3⟩⟩
theorem Rows.drew (h : Rows w B v k vs xss) : Rows w.drew B v k vs xss := h.below (Below.refl _ _).drew
theorem Rows.alloc (h : Rows w B v k vs xss) (o : Obj) : Rows (w.alloc o) B v k vs xss := h.below ((Below.refl _ _).alloc (Nat.le_refl _) o)
theorem Rows.form (h : Rows w B v k vs xss) : ∃ A c, v = .slice A k c := own_form h.own
/-- A field of an address is set. -/
theorem Rows.setAd {g : Nat} {T : TypeId} {D : Ad} (h : Rows w B v k vs xss) (hG : Bk w g T (adA D)) (hg : g < B) (i : Nat) (u : Value) : Rows (w.setCell ⟨g, i, none⟩ u) B v k vs xss :=
  ⟨ownsRow_setCell_below h.own hg u, h.len, fun j hj => by
    obtain ⟨A, c, h1, h2, h3⟩ := h.row j hj
    exact ⟨A, c, h1, rd_farAd h2 hG i u, h3⟩⟩
theorem rd_grown {row : Option Nat} {A : Option Addr} {n c : Nat} {xs : List UInt8} (h : Rd w A n c xs) (hn : 0 < n) (hg : w.grownBy w' row) (hne : ∀ a, A = some a → row ≠ some a.block) : Rd w' A n c xs := by
  refine ⟨h.len, h.cap, h.max, h.nil, fun _ => ?_⟩
  obtain ⟨b, off, rfl, hb, hc⟩ := h.at_ hn
  exact ⟨b, off, rfl, Nat.lt_of_lt_of_le hb hg.size, fun j hj => (World.cell?_of_block (hg.block b hb (fun e => hne _ rfl e.symm))).trans (hc j hj)⟩
/-- One row more. -/
theorem Rows.push (h : Rows w B v k vs xss) {g cap : Nat} {A : Option Addr} {c : Nat} {xs : List UInt8} (ho : w'.ownsRow B 24 1 (.slice (some ⟨g, 0, none⟩) (k + 1) cap) (k + 1) (vs ++ [.slice A 32 c])) (hg : w.grownBy w' v.ownBlock)
    (hw : v.ownBlock = some g ∨ g = w.heap.size) (hr : Rd w A 32 c xs) (hne : ∀ a, A = some a → v.ownBlock ≠ some a.block) : Rows w' B (.slice (some ⟨g, 0, none⟩) (k + 1) cap) (k + 1) (vs ++ [.slice A 32 c]) (xss ++ [xs]) := by
  have hvl : vs.length = k := by have := h.own.1; omega
  have hl := h.len
  have key : ∀ (A : Option Addr) (c : Nat) (xs : List UInt8), Rd w A 32 c xs → (∀ a, A = some a → v.ownBlock ≠ some a.block) → ∀ a, A = some a → (Value.slice (some ⟨g, 0, none⟩) (k + 1) cap).ownBlock ≠ some a.block := by
    intro A c xs hr hne a ha e
    have e1 : g = a.block := by simpa [Value.ownBlock] using e
    rcases hw with hw | hw
    · exact hne a ha (by rw [hw, e1])
    · obtain ⟨b, off, rfl, hb, _⟩ := hr.at_ (by omega)
      injection ha with ha
      subst ha
      simp at e1
      omega
  refine ⟨ho, by simp [hl], fun j hj => ?_⟩
  rcases Nat.lt_or_ge j k with h1 | h1
  · obtain ⟨A', c', h2, h3, h4⟩ := h.row j h1
    refine ⟨A', c', by rw [List.getElem?_append_left (by omega)]; exact h2, ?_, key _ _ _ h3 h4⟩
    rw [List.getElem?_append_left (by omega)]
    exact rd_grown h3 (by omega) hg h4
  · obtain rfl : j = k := by omega
    refine ⟨A, c, by rw [← hvl]; simp, ?_, key _ _ _ hr hne⟩
    rw [← hl]
    simpa using rd_grown hr (by omega) hg hne
/-- They are read. -/
theorem Rows.read {A : Option Addr} {c : Nat} (h : Rows w B (.slice A k c) k vs xss) : RdBs w A k c xss := by
  have hl : vs.length = k := by have := h.own.1; omega
  have hl' := h.len
  rcases h.own.2 with ⟨h1, hn⟩ | ⟨g, cap, cur, h1, _, hh, hnc, hcm, _, htake⟩
  · injection h1 with h1 h2 h3
    subst h1 h2 h3
    have : xss = [] := List.eq_nil_of_length_eq_zero (by omega)
    subst this
    exact RdBs.nil_ w
  · have ho := h.own
    injection h1 with h1 h2 h3
    subst h1 h3
    refine ⟨hl', hnc, hcm, (fun h => by cases h), fun hn => ⟨g, 0, rfl, (Array.getElem?_eq_some_iff.1 hh).1, fun j hj => ?_⟩⟩
    obtain ⟨A', c', h2, h3, _⟩ := h.row j hj
    have := ho.cellAt j (by omega)
    exact ⟨A', 32, c', by rw [Nat.zero_add, this]; exact h2, h3⟩
/-- A row of a slice that is older lies in no new block. -/
theorem Rows.old (h : Rows w B v k vs xss) {A : Option Addr} {n c : Nat} {xs : List UInt8} {w0 : World} (hr : Rd w0 A n c xs) (hn : 0 < n) (hB : w0.heap.size ≤ B) : ∀ a, A = some a → v.ownBlock ≠ some a.block := by
  intro a ha e
  obtain ⟨b, off, rfl, hb, _⟩ := hr.at_ hn
  injection ha with ha
  subst ha
  have := (h.own.lt _ e).1
  simp at this
  omega
/-- A row that is newer lies not in the slice's own block. -/
theorem Rows.newer (h : Rows w B v k vs xss) {A : Option Addr} {n m c : Nat} {ys : List Value} {e : TypeId} (hr : w'.ownsRow w.heap.size e 1 (.slice A n c) m ys) : ∀ a, A = some a → v.ownBlock ≠ some a.block := by
  rintro a rfl e
  have h1 := (h.own.lt _ e).2
  have h2 := (hr.lt a.block rfl).1
  omega
end
end Go.Proofs.YtkpfppiedadmbaaGreatDoor.S15
