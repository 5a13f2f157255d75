/-
  Texts put together: SlL3, SlWBlank, SlWFull. No statement is proved here.
-/
import Derived.Test.YtdbamdbdogdpjaaDoorWa28
import Derived.Test.YtdbamdbdogdpjaaDoorWa06

/-
  The walk of layer 20's fourth statement (SlotsBlank), over the contracts. No statement is proved here. (Written by gensll3.py.)
-/
namespace Go.Proofs.YtdbamdbdogdpjaaDoor.S20
set_option linter.unusedSimpArgs false
set_option linter.unusedVariables false
set_option maxRecDepth 4096
open Go.RowKit S19

/-- A sector of no byte 0. -/
def fillS (a : List UInt8) (n : Nat) : List UInt8 := (List.range n).map fun i => UInt8.ofNat (1 + (a.getD (i % a.length) 0).toNat % 255)
theorem fillS_len (a : List UInt8) (n : Nat) : (fillS a n).length = n := by simp [fillS]
theorem fillS_step (a : List UInt8) (n k : Nat) (hk : k < n) : ((fillS a n).take k ++ List.replicate (n - k) 0).set k (UInt8.ofNat (1 + (a.getD (k % a.length) 0).toNat % 255)) = (fillS a n).take (k + 1) ++ List.replicate (n - (k + 1)) 0 := by
  have hl := fillS_len a n
  rw [List.set_append_right _ _ (by simp [hl]; omega)]
  have e1 : k - ((fillS a n).take k).length = 0 := by simp [hl]; omega
  rw [e1, show n - k = (n - (k + 1)) + 1 by omega, List.replicate_succ, List.set_cons_zero, List.take_add_one, List.append_assoc]
  congr 1
  have : (fillS a n)[k]? = some (UInt8.ofNat (1 + (a.getD (k % a.length) 0).toNat % 255)) := by simp [fillS, hk]
  rw [this]
  rfl
theorem one_byte (v : Nat) : (UInt8.ofNat (1 + v % 255)).toNat = 1 + v % 255 := by
  rw [UInt8.toNat_ofNat']
  exact Nat.mod_eq_of_lt (by have := Nat.mod_lt v (show 0 < 255 by omega); omega)
theorem fillS_pos (a : List UInt8) (n : Nat) : ∀ u ∈ fillS a n, 1 ≤ u.toNat := by
  intro u hu
  obtain ⟨i, _, rfl⟩ := List.mem_map.1 hu
  rw [one_byte]
  omega
def Z64' : List UInt8 := List.replicate 64 0
theorem not_zeros {x : List UInt8} (hx : ∀ u ∈ x, 1 ≤ u.toNat) (hl : 0 < x.length) {n : Nat} : x ≠ List.replicate n 0 := by
  intro e
  have h0 : (0 : UInt8) ∈ x := by
    rw [e]
    refine List.mem_replicate.2 ⟨?_, rfl⟩
    rintro rfl
    rw [e] at hl
    simp at hl
  have := hx 0 h0
  simp at this
theorem head_zero (x : List UInt8) (n : Nat) : whole (Z64' ++ x) n = (0, []) := by
  unfold whole
  refine if_neg fun h => h.1 ?_
  unfold numOf Z64'
  rw [List.take_append_of_le_length (by simp), List.take_replicate, getL_zero]
theorem four_pos {l : List UInt8} (hl : l.length = 4) (hp : ∀ u ∈ l, 1 ≤ u.toNat) : 16777216 ≤ getL l := by
  match l, hl with
  | u :: r, hl =>
    have hr : r.length = 3 := by simpa using hl
    rw [getL_cons, hr]
    have := hp u (by simp)
    have e : (256 : Nat) ^ 3 = 16777216 := by decide
    rw [e]
    omega
theorem pos_not (y z : List UInt8) (hy : ∀ u ∈ y, 1 ≤ u.toNat) (hl : y.length = 64) : whole (y ++ z) 2 = (0, []) := by
  unfold whole
  refine if_neg fun h => ?_
  have h2 := h.2.1
  have e : ((y ++ z).drop 8).take 4 = (y.drop 8).take 4 := by
    rw [List.drop_append_of_le_length (by omega), List.take_append_of_le_length (by simp; omega)]
  have h4 := four_pos (l := (y.drop 8).take 4) (by simp; omega) (fun u hu => hy u (List.mem_of_mem_drop (List.mem_of_mem_take hu)))
  unfold cntOf at h2
  rw [e, room_nat (n := 2) (by omega) (by omega)] at h2
  omega
theorem blank_facts (x y : List UInt8) (hx : ∀ u ∈ x, 1 ≤ u.toNat) (hy : ∀ u ∈ y, 1 ≤ u.toNat) (lx : x.length = 64) (ly : y.length = 64) :
    (Dk.new 4).writeC 1 x = 0 ∧ ((Dk.new 4).write 1 x).writeC 2 y = 0 ∧ (Sl.new 0 2).loadC ((Dk.new 4).write 1 x) = 11 ∧ (Sl.new 0 2).load ((Dk.new 4).write 1 x) = Sl.new 0 2 ∧
    (Sl.new 0 2).loadC (((Dk.new 4).write 1 x).write 2 y) = 8 ∧ (Sl.new 0 2).load (((Dk.new 4).write 1 x).write 2 y) = Sl.new 0 2 := by
  have hC := Calm.new 4
  obtain ⟨w1, d1⟩ := hC.write (i := 1) (b := x) (by simp [Dk.new]) lx
  have hC1 : Calm { Dk.new 4 with cnt := (Dk.new 4).cnt + 1, pend := (Dk.new 4).pend ++ [(1, x)] } := ⟨hC.off, hC.stop, hC.fails⟩
  obtain ⟨w2, d2⟩ := hC1.write (i := 2) (b := y) (by simp [Dk.new]) ly
  have d1' : (Dk.new 4).write 1 x = { Dk.new 4 with cnt := (Dk.new 4).cnt + 1, pend := (Dk.new 4).pend ++ [(1, x)] } := d1
  rw [d1']
  have d2' := d2
  obtain ⟨D1, hD1⟩ : ∃ D1, D1 = ({ Dk.new 4 with cnt := (Dk.new 4).cnt + 1, pend := (Dk.new 4).pend ++ [(1, x)] } : Dk) := ⟨_, rfl⟩
  rw [← hD1] at w2 d2 hC1 ⊢
  obtain ⟨D2, hD2⟩ : ∃ D2, D2 = D1.write 2 y := ⟨_, rfl⟩
  have hD2' : D2 = { D1 with cnt := D1.cnt + 1, pend := D1.pend ++ [(2, y)] } := hD2.trans d2
  rw [← hD2]
  have hC2 : Calm D2 := by rw [hD2']; exact ⟨hC1.off, hC1.stop, hC1.fails⟩
  have a10 : (Sl.new 0 2).area D1 0 = Z64' ++ x := by rw [hD1]; simp [Sl.area, Sl.new, Sl.areaK, Dk.atS, Dk.new, Dk.lastOf, Z64']
  have a11 : (Sl.new 0 2).area D1 1 = List.replicate 128 0 := by rw [hD1]; simp [Sl.area, Sl.new, Sl.areaK, Dk.atS, Dk.new, Dk.lastOf]
  have a20 : (Sl.new 0 2).area D2 0 = Z64' ++ x := by rw [hD2', hD1]; simp [Sl.area, Sl.new, Sl.areaK, Dk.atS, Dk.new, Dk.lastOf, Z64']
  have a21 : (Sl.new 0 2).area D2 1 = y ++ Z64' := by rw [hD2', hD1]; simp [Sl.area, Sl.new, Sl.areaK, Dk.atS, Dk.new, Dk.lastOf, Z64']
  have s1 : (Sl.new 0 2).seen D1 = (-1, 0, []) := by
    rw [seen_of (a0 := (0, [])) (a1 := (0, [])) (by rw [a10]; exact head_zero _ _) (by rw [a11]; exact whole_zero _ _)]
    rfl
  have s2 : (Sl.new 0 2).seen D2 = (-1, 0, []) := by
    rw [seen_of (a0 := (0, [])) (a1 := (0, [])) (by rw [a20]; exact head_zero _ _) (by rw [a21]; exact pos_not _ _ hy ly)]
    rfl
  have o1 : ¬ D1.off = true := by rw [hC1.off]; simp
  have o2 : ¬ D2.off = true := by rw [hC2.off]; simp
  have b20 : blank (Z64' ++ x) (Sl.new 0 2).n = false := by
    refine decide_eq_false fun e => ?_
    have e2 : x = (List.replicate (64 * 2) (0 : UInt8)).drop 64 := by
      have := congrArg (List.drop 64) e
      rw [List.drop_left' (by simp [Z64'])] at this
      exact this
    rw [List.drop_replicate] at e2
    exact not_zeros hx (by omega) e2
  have b21 : blank (y ++ Z64') (Sl.new 0 2).n = false := by
    refine decide_eq_false fun e => ?_
    have e2 : y = (List.replicate (64 * 2) (0 : UInt8)).take 64 := by
      have := congrArg (List.take 64) e
      rw [List.take_left' ly] at this
      exact this
    rw [List.take_replicate] at e2
    exact not_zeros hy (by omega) e2
  refine ⟨w1, w2, ?_, ?_, ?_, ?_⟩
  · rw [Sl.loadC, if_neg o1, s1, if_pos (by decide), if_pos (by rw [a11]; simp [blank, Sl.new])]
  · rw [Sl.load, if_neg o1, s1]; rfl
  · rw [Sl.loadC, if_neg o2, s2, if_pos (by decide), a20, a21, b20, b21]; rfl
  · rw [Sl.load, if_neg o2, s2]; rfl
theorem rep64 : (madeCells (Value.int .u8 0).cells (64 * 1)).toList = bv (List.replicate 64 0) := bv_zero 64
theorem own_setOther {w : World} {B e size n g i : Nat} {v u : Value} {xs : List Value} (h : w.ownsRow B e size v n xs) (hne : v.ownBlock ≠ some g) : (w.setCell ⟨g, i, none⟩ u).ownsRow B e size v n xs :=
  own_keepH h fun b hb _ => Below.heap_setCell w ⟨g, i, none⟩ u b (by rintro rfl; exact hne hb)
theorem wLen {w : World} {A : Option Addr} {n c : Nat} {xs : List UInt8} (h : Rd w A n c xs) (hn : 100 < n) : (decide ((100 : Int) < (n : Int))) = true := by simp; omega
set_option maxHeartbeats 8000000 in
theorem blank_core (M : DC) (C : SlC M) (w : World) (hk : C.ok w) (Aa : Option Addr) (na ca : Nat) (a : List UInt8) (Ab : Option Addr) (nb cb : Nat) (b : List UInt8) (ra : Rd w Aa na ca a) (rb : Rd w Ab nb cb b) (ha1 : 1 ≤ na) (ha2 : na ≤ 100) (hb1 : 1 ≤ nb) (hb2 : nb ≤ 100) :
    Calls Tryd.prog 5 #[.slice Aa na ca, .slice Ab nb cb] w fun e w' => e = .returned (.bool true) ∧ Below w.heap.size w w' := by
  obtain ⟨N, hN⟩ : ∃ N, w.heap.size = N := ⟨_, rfl⟩
  have HN := Lib.hid hN
  have HK := Lib.hid hk
  have RA := Lib.hid ra
  have RB := Lib.hid rb
  have OKN := Lib.hid (show ∀ X, Below N w X → C.ok X from fun X hX => C.bel hk (by rw [hN]; exact hX))
  have BN := Lib.hid (show ∀ X Y, Below N w X → Below X.heap.size X Y → Below N w Y from fun X Y h h' => h.trans (h'.mono (by have := h.size; omega)))
  have RN := Lib.hid (show ∀ X, Below N w X → Rd X Aa na ca a ∧ Rd X Ab nb cb b from fun X hX => ⟨ra.below (by rw [hN]; exact hX), rb.below (by rw [hN]; exact hX)⟩)
  have LA := Lib.hid ra.len
  have LBB := Lib.hid rb.len
  obtain ⟨f1, f2, _⟩ := aw_facts
  obtain ⟨x, hx⟩ : ∃ x, x = fillS a 64 := ⟨_, rfl⟩
  obtain ⟨y, hy⟩ : ∃ y, y = fillS b 64 := ⟨_, rfl⟩
  have lx : x.length = 64 := by rw [hx]; exact fillS_len _ _
  have ly : y.length = 64 := by rw [hy]; exact fillS_len _ _
  obtain ⟨g1, g2, g3, g4, g5, g6⟩ := blank_facts x y (by rw [hx]; exact fillS_pos _ _) (by rw [hy]; exact fillS_pos _ _) lx ly
  obtain ⟨D0, hD0⟩ : ∃ D0, D0 = Dk.new 4 := ⟨_, rfl⟩
  obtain ⟨Z0, hZ0⟩ : ∃ Z0, Z0 = Sl.new 0 2 := ⟨_, rfl⟩
  rw [← hD0, ← hZ0] at f1 f2
  rw [← hD0] at g1 g2 g3 g4 g5 g6
  rw [← hZ0] at g3 g4 g5 g6
  obtain ⟨D1, hD1⟩ : ∃ D1, D1 = D0.write 1 x := ⟨_, rfl⟩
  rw [← hD1] at g2 g3 g4 g5 g6
  obtain ⟨D2, hD2⟩ : ∃ D2, D2 = D1.write 2 y := ⟨_, rfl⟩
  rw [← hD2] at g5 g6
  have k1 : D1 = { Dk.new 4 with cnt := (Dk.new 4).cnt + 1, pend := (Dk.new 4).pend ++ [(1, x)] } := by rw [hD1, hD0]; exact ((Calm.new 4).write (i := 1) (b := x) (by simp [Dk.new]) lx).2
  have hl1 : D1.sure.length = D0.sure.length := by rw [k1, hD0]
  have hcal1 : Calm D1 := by rw [k1]; exact ⟨rfl, rfl, rfl⟩
  have hcn1 : D1.cnt = 1 := by rw [k1]; rfl
  have k2 : D2 = { D1 with cnt := D1.cnt + 1, pend := D1.pend ++ [(2, y)] } := by rw [hD2]; exact (hcal1.write (i := 2) (b := y) (by rw [hl1, hD0]; simp [Dk.new]) ly).2
  have hl2 : D2.sure.length = D1.sure.length := by rw [k2]
  clear k1 k2
  have CA := Lib.hid (show Calls Tryd.prog 7 #[] w fun e w' => e = .returned (.bool true) ∧ Below N w w' from (awake20_any M C w hk).mono fun e w' h => by rw [← hN]; exact h)
  have C1 := Lib.hid (show ∀ X, Below N w X → Calls Tryd.prog 8 #[.int .i64 4] X fun e w' => ∃ g F, e = .returned (.tuple #[.pointer (some ⟨g, 0, none⟩), .int .i64 0]) ∧ M.Is N w' g D0 F ∧ Below N X w' from fun X hX => (M.new N X 4 (C.okM (OKN.out X hX)) (by rw [← hN]; exact hX.size) (by omega) (by omega)).mono fun e w' ⟨g, F, h1, h2, h3, h4⟩ => ⟨g, F, h1, by rw [hD0]; exact h2, h4.mono (by rw [← hN]; exact hX.size)⟩)
  have C2 := Lib.hid (show ∀ X g F, Below N w X → M.Is N X g D0 F → Calls Tryd.prog 9 #[.pointer (some ⟨g, 0, none⟩), .int .i64 0, .int .i64 2] X fun e w' => ∃ s F' S', e = .returned (.tuple #[.pointer (some ⟨s, 0, none⟩), .int .i64 0]) ∧ Lz M C N w' g s D0 Z0 F' S' ∧ Below N X w' from fun X g F hX hI => (C.new N X g D0 F 0 2 (OKN.out X hX) hI (by rw [hD0]; rfl)).mono fun e w' ⟨s, S, F', h1, h2, h3, h4, h5, h6, h7⟩ => ⟨s, F', S, h1, ⟨h3, by rw [hZ0]; exact h2, h6, by rw [hZ0]; exact new_ok (first := 0) (n := 2) (by rw [hD0]; rfl)⟩, h7.bel⟩)
  have C3 := Lib.hid (show ∀ X g s F S, Below N w X → Lz M C N X g s D0 Z0 F S → Calls Tryd.prog 17 #[.pointer (some ⟨s, 0, none⟩)] X fun e w' => ∃ A n c m F' S', e = .returned (.tuple #[.slice A n c, .int .u64 m, .int .i64 11]) ∧ Lz M C N w' g s D0 Z0 F' S' ∧ Below N X w' from fun X g s F S hX hI => (hI.load (OKN.out X hX)).mono fun e w' ⟨A, c, F', S', h1, h2, _, h3, h4, h5⟩ => ⟨A, (Z0.loadB D0).length, c, (Z0.loadN D0 : Int), F', S', by rw [h1, f1]; rfl, by rw [f2] at h3; exact h3, h5.bel⟩)
  have C4 := Lib.hid (show ∀ X g s F S A c, Below N w X → Lz M C N X g s D0 Z0 F S → Rd X A 64 c x → (∀ a, 0 < 64 → A = some a → ¬ F a.block) → Calls Tryd.prog 19 #[.pointer (some ⟨g, 0, none⟩), .int .i64 1, .slice A 64 c] X fun e w' => e = .returned (.int .i64 0) ∧ ∃ F', Lz M C N w' g s D1 Z0 F' S ∧ (∀ b, Or2 F' S b → Or2 F S b ∨ X.heap.size ≤ b) ∧ Mv N (Or2 F S) X w' from fun X g s F S A c hX hI hR hZ => (M.write N X g D0 F 1 A 64 c x (C.okM (OKN.out X hX)) hI.is hR hZ (by rw [hD0]; show 0 < _; omega)).mono fun e w' ⟨h1, F', h2, h3, h4⟩ => ⟨by rw [h1, g1]; rfl, F', hI.disk (by rw [hD1]; exact h2) h3 h4 hl1, fun b hb => hb.elim (fun e => (h3 b e).imp .inl id) (fun e => .inl (.inr e)), h4.mono (fun b hb => .inl hb)⟩)
  have C5 := Lib.hid (show ∀ X g s F S, Below N w X → Lz M C N X g s D1 Z0 F S → Calls Tryd.prog 17 #[.pointer (some ⟨s, 0, none⟩)] X fun e w' => ∃ A n c m F' S', e = .returned (.tuple #[.slice A n c, .int .u64 m, .int .i64 11]) ∧ Lz M C N w' g s D1 Z0 F' S' ∧ (∀ b, Or2 F' S' b → Or2 F S b ∨ X.heap.size ≤ b) ∧ Mv N (Or2 F S) X w' from fun X g s F S hX hI => (hI.load (OKN.out X hX)).mono fun e w' ⟨A, c, F', S', h1, h2, _, h3, h4, h5⟩ => ⟨A, (Z0.loadB D1).length, c, (Z0.loadN D1 : Int), F', S', by rw [h1, g3]; rfl, by rw [g4] at h3; exact h3, h4, h5⟩)
  have C6 := Lib.hid (show ∀ X g s F S A c, Below N w X → Lz M C N X g s D1 Z0 F S → Rd X A 64 c y → (∀ a, 0 < 64 → A = some a → ¬ F a.block) → Calls Tryd.prog 19 #[.pointer (some ⟨g, 0, none⟩), .int .i64 2, .slice A 64 c] X fun e w' => e = .returned (.int .i64 0) ∧ ∃ F', Lz M C N w' g s D2 Z0 F' S ∧ Below N X w' from fun X g s F S A c hX hI hR hZ => (M.write N X g D1 F 2 A 64 c y (C.okM (OKN.out X hX)) hI.is hR hZ (by rw [hcn1]; omega)).mono fun e w' ⟨h1, F', h2, h3, h4⟩ => ⟨by rw [h1, g2]; rfl, F', hI.disk (by rw [hD2]; exact h2) h3 h4 hl2, h4.bel⟩)
  have C7 := Lib.hid (show ∀ X g s F S, Below N w X → Lz M C N X g s D2 Z0 F S → Calls Tryd.prog 17 #[.pointer (some ⟨s, 0, none⟩)] X fun e w' => ∃ A n c m F' S', e = .returned (.tuple #[.slice A n c, .int .u64 m, .int .i64 8]) ∧ Lz M C N w' g s D2 Z0 F' S' ∧ Below N X w' from fun X g s F S hX hI => (hI.load (OKN.out X hX)).mono fun e w' ⟨A, c, F', S', h1, h2, _, h3, h4, h5⟩ => ⟨A, (Z0.loadB D2).length, c, (Z0.loadN D2 : Int), F', S', by rw [h1, g5]; rfl, by rw [g6] at h3; exact h3, h5.bel⟩)
  have C8 := Lib.hid (show ∀ X g s F S, Below N w X → Lz M C N X g s D2 Z0 F S → Calls Tryd.prog 20 #[.pointer (some ⟨s, 0, none⟩)] X fun e w' => ∃ A c, e = .returned (.tuple #[.slice A 0 c, .int .u64 0]) ∧ Below N X w' from fun X g s F S hX hI => (hI.now (OKN.out X hX)).mono fun e w' ⟨A, c, h1, h2, h0, h3, h4⟩ => by
    rw [hZ0] at h1
    exact ⟨A, c, h1, h4⟩)
  obtain ⟨i8, hi8, hz80, hz81, hz82⟩ := info_parts Tryd.infoU8
  have HI8 := Lib.hid hi8
  have HXX := Lib.hid hx
  have HYY := Lib.hid hy
  have HLX := Lib.hid lx
  have HLY := Lib.hid ly
  clear f1 f2 g1 g2 g3 g4 g5 g6 hD0 hZ0 hD1 hD2 hk hl1 hl2 hcal1 hcn1 lx ly hx hy ra rb hi8
  have c1 : decide ((100 : Int) < (na : Int)) = false := by simp; omega
  have c2 : decide ((100 : Int) < (nb : Int)) = false := by simp; omega
  have c3 : ((na : Int) == 0) = false := by simp; omega
  have c4 : ((nb : Int) == 0) = false := by simp; omega
  have c5 : ¬ (100 : Int) < (na : Int) := by omega
  have c6 : ¬ (100 : Int) < (nb : Int) := by omega
  have c7 : ¬ (na : Int) = 0 := by omega
  have c8 : ¬ (nb : Int) = 0 := by omega
  have c9 : ¬ na = 0 := by omega
  have cA : ¬ nb = 0 := by omega
  go_enter Tryd.func5, Tryd.ntmps5
  go_upto_region 12 with (first
    | (go_at_call 7; ((with_reducible refine CA.out.mono ?_); rintro e w1 ⟨rfl, b1⟩; have B1 := Lib.hid b1; clear b1))
    | (go_at_call 8; ((with_reducible refine (C1.out w1 B1.out).mono ?_); rintro e w2 ⟨g, F2, rfl, i2, b2⟩; have I2 := Lib.hid i2; have B2 := Lib.hid (B1.out.trans b2); clear i2 b2))
    | (go_at_call 9; ((with_reducible refine (C2.out w2 g F2 B2.out I2.out).mono ?_); rintro e w3 ⟨s, F3, S3, rfl, i3, b3⟩; have I3 := Lib.hid i3; have B3 := Lib.hid (B2.out.trans b3); clear i3 b3))
    | (go_at_call 17; ((with_reducible refine (C3.out w3 g s F3 S3 B3.out I3.out).mono ?_); rintro e w4 ⟨A4, n4, c4', m4, F4, S4, rfl, i4, b4⟩; have I4 := Lib.hid i4; have B4 := Lib.hid (B3.out.trans b4); clear i4 b4)))
  go_upto_region 13 with (at_make; (refine wpList_make_full _ rfl _ _ 36 rfl w4.heap.size 5 i8 (.int .u8 0) 1 Tryd.underlying36 HI8.out hz80 hz81 _ _ _ _ 64 rfl rfl rfl rfl (by rw [hz82]; decide) (by unfold maxLen; decide) (Nat.le_refl _) ?_); intro w5 o5 g5; rw [rep64] at o5; have G5 := Lib.hid (show Below w4.heap.size w4 w5 from (Below.refl _ _).grown g5 (Nat.le_refl _) (fun q hq => by cases hq)); have O5 := Lib.hid o5; clear o5 g5)
  go_upto_region 14 with (at_make; refine wpList_make_full _ rfl _ _ 36 rfl w5.heap.size 5 i8 (.int .u8 0) 1 Tryd.underlying36 HI8.out hz80 hz81 _ _ _ _ 64 rfl rfl rfl rfl (by rw [hz82]; decide) (by unfold maxLen; decide) (Nat.le_refl _) ?_; intro w6 o6 g6; rw [rep64] at o6; have G6 := Lib.hid (show Below w5.heap.size w5 w6 from (Below.refl _ _).grown g6 (Nat.le_refl _) (fun q hq => by cases hq)); have O6 := Lib.hid o6; clear o6 g6)
  obtain ⟨L0, hL0⟩ : ∃ L0, w4.heap.size = L0 := ⟨_, rfl⟩
  obtain ⟨L1, hL1⟩ : ∃ L1, w5.heap.size = L1 := ⟨_, rfl⟩
  have s5 := (O5.out.lt L0 (by rw [← hL0]; rfl)).2
  have HLL := Lib.hid (show L0 < L1 by omega)
  have HG := Lib.hid (show Below L0 w4 w6 by have := G6.out; rw [hL1] at this; have h5 := G5.out; rw [hL0] at h5; exact h5.trans (this.mono (Nat.le_of_lt HLL.out)))
  have OX := Lib.hid (show w6.ownsRow L0 5 1 (.slice (some ⟨L0, 0, none⟩) 64 64) 64 (bv (List.replicate 64 0)) by have h5 := own_below O5.out G6.out; rw [hL0] at h5; exact h5)
  have OY := Lib.hid (show w6.ownsRow L0 5 1 (.slice (some ⟨L1, 0, none⟩) 64 64) 64 (bv (List.replicate 64 0)) by have h6 := O6.out; rw [hL1] at h6; exact own_base h6 (Nat.le_of_lt HLL.out))
  have HL0 := Lib.hid hL0
  rw [hL0, hL1]
  clear hL0 hL1 s5
  go_wp2
  go_loopw [14] (fun i wr => ∃ k : Nat, k ≤ 64 ∧ i = .int .i64 (k : Int) ∧ wr.ownsRow L0 5 1 (.slice (some ⟨L0, 0, none⟩) 64 64) 64 (bv (x.take k ++ List.replicate (64 - k) 0)) ∧ wr.ownsRow L0 5 1 (.slice (some ⟨L1, 0, none⟩) 64 64) 64 (bv (y.take k ++ List.replicate (64 - k) 0)) ∧ Below L0 w4 wr) (fun i _ => 64 - (intOf i).toNat)
  case atStart => exact ⟨0, by omega, rfl, by simpa using OX.out, by simpa using OY.out, HG.out⟩
  case round =>
    obtain ⟨k, hk, rfl, ownx, owny, hbel⟩ := hrel
    have hbel' : Below w4.heap.size w4 wr := by rw [HL0.out]; exact hbel
    have BW := Lib.hid (BN.out _ _ B4.out hbel')
    by_cases hk0 : k < 64
    · obtain ⟨r1, r2⟩ := RN.out wr BW.out
      obtain ⟨pa, hpa⟩ : ∃ pa, pa = k % na := ⟨_, rfl⟩
      obtain ⟨pb, hpb⟩ : ∃ pb, pb = k % nb := ⟨_, rfl⟩
      have hpa1 : pa < na := by rw [hpa]; exact Nat.mod_lt _ (by omega)
      have hpb1 : pb < nb := by rw [hpb]; exact Nat.mod_lt _ (by omega)
      obtain ⟨ba, oa, rfl, hba, hca⟩ := r1.at_ (by omega)
      obtain ⟨bb, ob, rfl, hbb, hcb⟩ := r2.at_ (by omega)
      have hca1 := hca pa hpa1
      have hcb1 := hcb pb hpb1
      have qa : (k : Int).tmod (na : Int) = (pa : Int) := by rw [hpa, Int.tmod_eq_emod_of_nonneg (by omega)]; rfl
      have qb : (k : Int).tmod (nb : Int) = (pb : Int) := by rw [hpb, Int.tmod_eq_emod_of_nonneg (by omega)]; rfl
      have qa2 : (k : Int) % (na : Int) = (pa : Int) := by rw [hpa]; rfl
      have qb2 : (k : Int) % (nb : Int) = (pb : Int) := by rw [hpb]; rfl
      have qa3 : (pa : Int) < (na : Int) := by omega
      have qb3 : (pb : Int) < (nb : Int) := by omega
      obtain ⟨va, hva⟩ : ∃ va, va = a.getD pa 0 := ⟨_, rfl⟩
      obtain ⟨vb, hvb⟩ : ∃ vb, vb = b.getD pb 0 := ⟨_, rfl⟩
      rw [← hva] at hca1
      rw [← hvb] at hcb1
      obtain ⟨ua, hua⟩ : ∃ u, u = UInt8.ofNat (1 + va.toNat % 255) := ⟨_, rfl⟩
      obtain ⟨ub, hub⟩ : ∃ u, u = UInt8.ofNat (1 + vb.toNat % 255) := ⟨_, rfl⟩
      have ea : ua.toNat = 1 + va.toNat % 255 := by rw [hua]; exact one_byte _
      have eb : ub.toNat = 1 + vb.toNat % 255 := by rw [hub]; exact one_byte _
      have ea1 : ((1 : Int) + (va.toNat : Int) % 255) % 256 = (ua.toNat : Int) := by omega
      have eb1 : ((1 : Int) + (vb.toNat : Int) % 255) % 256 = (ub.toNat : Int) := by omega
      have ea2 : (1 : Int) + (va.toNat : Int) % 255 = (ua.toNat : Int) := by omega
      have eb2 : (1 : Int) + (vb.toNat : Int) % 255 = (ub.toNat : Int) := by omega
      have ea3 : (va.toNat : Int).tmod 255 = (va.toNat : Int) % 255 := Int.tmod_eq_emod_of_nonneg (by omega)
      have eb3 : (vb.toNat : Int).tmod 255 = (vb.toNat : Int) % 255 := Int.tmod_eq_emod_of_nonneg (by omega)
      have ea4 : IntKind.u8.wrap (ua.toNat : Int) = (ua.toNat : Int) := by rw [IntKind.wrap_u8]; have := ua.toNat_lt; omega
      have eb4 : IntKind.u8.wrap (ub.toNat : Int) = (ub.toNat : Int) := by rw [IntKind.wrap_u8]; have := ub.toNat_lt; omega
      have HUA := Lib.hid (show ua = UInt8.ofNat (1 + (a.getD (k % a.length) 0).toNat % 255) by rw [hua, hva, hpa, LA.out])
      have HUB := Lib.hid (show ub = UInt8.ofNat (1 + (b.getD (k % b.length) 0).toNat % 255) by rw [hub, hvb, hpb, LBB.out])
      have hc := ownx.cellAt k (by omega)
      have hf := ownx.frozenAt k
      have hs := ownx.stored k
      rw [bv_at _ _ (by simp [HLX.out]; omega)] at hc
      have HS := Lib.hid hs
      have HOY := Lib.hid owny
      have HB := Lib.hid hbel
      have HBB := Lib.hid (show bb ≠ L0 from fun e => by
        obtain ⟨b0, _, e0, h0, _⟩ := RB.out.at_ (by omega)
        injection e0 with e0
        injection e0 with e0
        have q1 := B4.out.size
        have q2 := HL0.out
        omega)
      clear hua hub hva hvb hpa hpb hca hcb r1 r2 owny hbel hbel' ea eb hs hba hbb
      go_upto_region 18 with (fail)
      obtain ⟨wx, hwx⟩ : ∃ wx, wr.setCell ⟨L0, k, none⟩ (.int .u8 (ua.toNat : Int)) = wx := ⟨_, rfl⟩
      have hne : ∀ q, q ≠ L0 → wx.heap[q]? = wr.heap[q]? := fun q hq => by rw [← hwx]; exact Below.heap_setCell wr ⟨L0, k, none⟩ _ q hq
      have ox := Lib.hid (show wx.ownsRow L0 5 1 (.slice (some ⟨L0, 0, none⟩) 64 64) 64 (bv (x.take (k + 1) ++ List.replicate (64 - (k + 1)) 0)) by
        rw [← hwx, HXX.out, ← fillS_step a 64 k hk0, ← HUA.out, ← bv_set, ← HXX.out]
        exact (HS.out _).1)
      have oy := Lib.hid (show wx.ownsRow L0 5 1 (.slice (some ⟨L1, 0, none⟩) 64 64) 64 (bv (y.take k ++ List.replicate (64 - k) 0)) by
        rw [← hwx]
        exact own_setOther HOY.out (by show some L1 ≠ some L0; have := HLL.out; intro e; injection e; omega))
      have bx := Lib.hid (show Below L0 w4 wx by rw [← hwx]; exact HB.out.setCell (Nat.le_refl _) _)
      have hcb2 : wx.cell? ⟨bb, ob + pb, none⟩ = some (.int .u8 (vb.toNat : Int)) := (World.cell?_of_block (a := ⟨bb, ob + pb, none⟩) (hne bb HBB.out)).trans hcb1
      rw [hwx]
      clear hc hf hcb1 hca1 hwx hne ownx
      have hc := oy.out.cellAt k (by omega)
      have hf := oy.out.frozenAt k
      have hs := oy.out.stored k
      rw [bv_at _ _ (by simp [HLY.out]; omega)] at hc
      have HS2 := Lib.hid hs
      clear hs
      go_wp2
      go_roundw
      case rel =>
        refine ⟨k + 1, by omega, by go_num, own_setOther ox.out (by show some L0 ≠ some L1; have := HLL.out; intro e; injection e; omega), ?_, bx.out.setCell (Nat.le_of_lt HLL.out) _⟩
        rw [HYY.out, ← fillS_step b 64 k hk0, ← HUB.out, ← bv_set, ← HYY.out]
        exact (HS2.out _).1
      case measure => simp [intOf]; omega
    · obtain rfl : k = 64 := by omega
      obtain ⟨wo, rfl⟩ : ∃ wo : World, wo = wr := ⟨_, rfl⟩
      have I6 := Lib.hid (I4.out.grow hbel')
      have RX6 := Lib.hid (show Rd wo (some ⟨L0, 0, none⟩) 64 64 x by
        rw [List.take_of_length_le (by rw [HLX.out]; omega)] at ownx
        exact Rd.own (by simpa using ownx))
      have RY6 := Lib.hid (show Rd wo (some ⟨L1, 0, none⟩) 64 64 y by
        rw [List.take_of_length_le (by rw [HLY.out]; omega)] at owny
        exact Rd.own (by simpa using owny))
      have NX6 := Lib.hid (show ∀ a : Addr, 0 < 64 → some (⟨L0, 0, none⟩ : Addr) = some a → ¬ F4 a.block from fun a _ e hF => by injection e with e; rw [← e] at hF; have q1 := (I4.out.lt L0 (.inl hF)).2; have q2 := HL0.out; omega)
      have NY6 := Lib.hid (show ¬ Or2 F4 S4 L1 ∧ L1 < wo.heap.size from ⟨fun hO => by have q1 := (I4.out.lt _ hO).2; have q2 := HL0.out; have q3 := HLL.out; omega, (owny.lt L1 rfl).2⟩)
      clear ownx owny hbel hbel' hk0
      go_wp2_with (first
        | (go_at_call 19; ((with_reducible refine (C4.out wo g s F4 S4 _ _ BW.out I6.out RX6.out NX6.out).mono ?_); rintro e w7 ⟨rfl, F7, i7, s7, m7⟩; have I7 := Lib.hid i7; have B7 := Lib.hid (BW.out.trans m7.bel); have RY7 := Lib.hid (m7.rd RY6.out (fun q _ e => by injection e with e; rw [← e]; exact NY6.out.1)); have NY7 := Lib.hid (show ¬ Or2 F7 S4 L1 ∧ L1 < w7.heap.size from ⟨out_of s7 NY6.out.2 NY6.out.1, Nat.lt_of_lt_of_le NY6.out.2 m7.size⟩); clear i7 s7 m7))
        | (go_at_call 17; ((with_reducible refine (C5.out w7 g s F7 S4 B7.out I7.out).mono ?_); rintro e w8 ⟨A8, n8, c8', m8', F8, S8, rfl, i8', s8, m8⟩; have I8 := Lib.hid i8'; have B8 := Lib.hid (B7.out.trans m8.bel); have NY8 := Lib.hid (show ∀ a : Addr, 0 < 64 → some (⟨L1, 0, none⟩ : Addr) = some a → ¬ F8 a.block from fun a _ e hF => by injection e with e; rw [← e] at hF; exact out_of s8 NY7.out.2 NY7.out.1 (.inl hF)); have RY8 := Lib.hid (m8.rd RY7.out (fun q _ e => by injection e with e; rw [← e]; exact NY7.out.1)); clear i8' s8 m8))
        | (go_at_call 19; ((with_reducible refine (C6.out w8 g s F8 S8 _ _ B8.out I8.out RY8.out NY8.out).mono ?_); rintro e w9 ⟨rfl, F9, i9, b9⟩; have I9 := Lib.hid i9; have B9 := Lib.hid (B8.out.trans b9); clear i9 b9))
        | (go_at_call 17; ((with_reducible refine (C7.out w9 g s F9 S8 B9.out I9.out).mono ?_); rintro e wa ⟨Aa', na', ca', ma', Fa, Sa, rfl, ia, b10⟩; have IA := Lib.hid ia; have BA := Lib.hid (B9.out.trans b10); clear ia b10))
        | (go_at_call 20; ((with_reducible refine (C8.out wa g s Fa Sa BA.out IA.out).mono ?_); rintro e wb ⟨Ab', cb', rfl, b11⟩; have BB := Lib.hid (BA.out.trans b11); clear b11)))
      go_ret
      exact ⟨rfl, by first | exact BB.out | (rw [HN.out]; exact BB.out)⟩
set_option maxHeartbeats 4000000 in
theorem blank_out (M : DC) (C : SlC M) (w : World) (hk : C.ok w) (Aa : Option Addr) (na ca : Nat) (Ab : Option Addr) (nb cb : Nat) (p q r t : Bool) (c1 : decide ((100 : Int) < (na : Int)) = p) (c2 : decide ((100 : Int) < (nb : Int)) = q) (c3 : ((na : Int) == 0) = r) (c4 : ((nb : Int) == 0) = t) (h : (p || q || r || t) = true) :
    Calls Tryd.prog 5 #[.slice Aa na ca, .slice Ab nb cb] w fun e w' => e = .returned (.bool true) ∧ Below w.heap.size w w' := by
  obtain ⟨N, hN⟩ : ∃ N, w.heap.size = N := ⟨_, rfl⟩
  have HN := Lib.hid hN
  have CA := Lib.hid (show Calls Tryd.prog 7 #[] w fun e w' => e = .returned (.bool true) ∧ Below N w w' from (awake20_any M C w hk).mono fun e w' h => by rw [← hN]; exact h)
  clear hk hN
  cases p <;> cases q <;> cases r <;> cases t <;> first | (simp at h; done) | (
    clear h
    go_enter Tryd.func5, Tryd.ntmps5
    go_wp2_with (go_at_call 7; ((with_reducible refine CA.out.mono ?_); rintro e w1 ⟨rfl, b1⟩; have B1 := Lib.hid b1; clear b1))
    go_ret
    exact ⟨rfl, by first | exact B1.out | (rw [HN.out]; exact B1.out)⟩)
theorem slotsBlank_walk (M : DC) (C : SlC M) (w : World) (hk : C.ok w) (Aa : Option Addr) (na ca : Nat) (a : List UInt8) (Ab : Option Addr) (nb cb : Nat) (b : List UInt8) (ra : Rd w Aa na ca a) (rb : Rd w Ab nb cb b) :
    Calls Tryd.prog 5 #[.slice Aa na ca, .slice Ab nb cb] w fun e w' => e = .returned (.bool true) ∧ Below w.heap.size w w' := by
  by_cases h : 1 ≤ na ∧ na ≤ 100 ∧ 1 ≤ nb ∧ nb ≤ 100
  · exact blank_core M C w hk Aa na ca a Ab nb cb b ra rb h.1 h.2.1 h.2.2.1 h.2.2.2
  · refine blank_out M C w hk Aa na ca Ab nb cb _ _ _ _ rfl rfl rfl rfl ?_
    by_cases h1 : (100 : Int) < (na : Int)
    · simp [h1]
    · by_cases h2 : (100 : Int) < (nb : Int)
      · simp [h2]
      · by_cases h3 : na = 0
        · simp [h3]
        · have : nb = 0 := by omega
          simp [this]
end Go.Proofs.YtdbamdbdogdpjaaDoor.S20

/-
  The walk of one statement of layer 20, as its frame calls it.
-/
namespace Go.Proofs.YtdbamdbdogdpjaaDoor.S20
set_option linter.unusedSimpArgs false
set_option linter.unusedVariables false
set_option maxRecDepth 4096
open Go.ChangeShapes Go.WideShapes Go.ChangeAt Go.RowKit Go.Joins S19
theorem slotsBlank_frame (W : World) (hk : C0.ok W) (Aa : Option Addr) (na ca : Nat) (a : List UInt8) (ra : Rd W Aa na ca a) (Ab : Option Addr) (nb cb : Nat) (b : List UInt8) (rb : Rd W Ab nb cb b) :
    Calls Tryd.prog 5 #[.slice Aa na ca, .slice Ab nb cb] W fun e w' => e = .returned (.bool true) ∧ Below W.heap.size W w' :=
  slotsBlank_walk M0 C0 W hk Aa na ca a Ab nb cb b ra rb
end Go.Proofs.YtdbamdbdogdpjaaDoor.S20

/-
  The walk of one statement of layer 20, as its frame calls it.
-/
namespace Go.Proofs.YtdbamdbdogdpjaaDoor.S20
set_option linter.unusedSimpArgs false
set_option linter.unusedVariables false
set_option maxRecDepth 4096
open Go.ChangeShapes Go.WideShapes Go.ChangeAt Go.RowKit Go.Joins S19
theorem slotsFull_frame (W : World) (hk : C0.ok W) (a : Int) (wa : (Lit.int .u8 a).wf = true) (b : Int) (wb : (Lit.int .u8 b).wf = true) :
    Calls Tryd.prog 6 #[.int .u8 a, .int .u8 b] W fun e w' => e = .returned (.bool true) ∧ Below W.heap.size W w' := by
  obtain ⟨n, rfl, hn⟩ := nat_of_b wa
  obtain ⟨c, rfl⟩ := byte_of_b wb
  exact slotsFull_walk M0 C0 W hk n hn c
end Go.Proofs.YtdbamdbdogdpjaaDoor.S20
