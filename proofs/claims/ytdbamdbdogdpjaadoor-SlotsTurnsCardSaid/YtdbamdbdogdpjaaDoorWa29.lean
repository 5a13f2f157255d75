/-
  Texts put together: SlL4, SlWTurns. No statement is proved here.
-/
import Derived.Test.YtdbamdbdogdpjaaDoorWa28

/-
  The walk of layer 20's third statement (SlotsTurns), over the contracts. No statement is proved here. (Written by gensll4.py.)
-/
namespace Go.Proofs.YtdbamdbdogdpjaaDoor.S20
set_option linter.unusedSimpArgs false
set_option linter.unusedVariables false
set_option maxRecDepth 4096
open Go.RowKit S19

/-- So many records were saved, on a disk of four sectors with which nothing failed. -/
structure Tn (i : Nat) (D : Dk) (Z : Sl) : Prop where
  calm : Calm D
  pend : D.pend = []
  len : D.sure.length = 4
  cnt : D.cnt = 3 * i
  first : Z.first = 0
  n : Z.n = 2
  num : Z.num = i
  goes : Z.goes = i % 2
  other : (whole (Z.area D (1 - Z.goes)) Z.n).1 ≤ Z.num
theorem Tn.start : Tn 0 (Dk.new 4) (Sl.new 0 2) :=
  ⟨Calm.new 4, rfl, rfl, rfl, rfl, rfl, rfl, rfl, by
    rw [area_new (k := 4) (Z := Sl.new 0 2) (by show 0 + 2 * 2 ≤ 4; omega) (by omega), whole_zero]
    exact Nat.zero_le _⟩
theorem Tn.step {i : Nat} {D : Dk} {Z : Sl} {b : List UInt8} (t : Tn i D Z) (hZ : Z.Ok D) (hi : i < 30) (hb : b.length ≤ 100) :
    Z.saveC D b = 0 ∧ Tn (i + 1) (Z.saveD D b) (Z.save D b) ∧ ((Z.saveD D b).sure.getD (2 * (i % 2)) []).take 8 = putL (i + 1) 8 ∧ (Sl.new 0 2).loadC (Z.saveD D b) = 0 ∧ (Sl.new 0 2).loadB (Z.saveD D b) = b ∧ (Sl.new 0 2).loadN (Z.saveD D b) = i + 1 := by
  have hr : b.length ≤ room Z.n := by rw [t.n, room_nat (n := 2) (by omega) (by omega)]; omega
  obtain ⟨h1, h2, h3, h4, h5, h6, h7⟩ := save_calm t.calm t.pend hZ hr
  have hn : Z.num + 1 < 18446744073709551616 := by rw [t.num]; omega
  have hx : Z.next = i + 1 := by rw [Sl.next, Nat.mod_eq_of_lt hn, t.num]
  have hl := saveD_len Z D b
  have hg : Z.goes = 0 ∨ Z.goes = 1 := by rw [t.goes]; omega
  obtain ⟨l1, l2⟩ := load_saved t.calm t.pend hZ hr hn t.other (Sl.new 0 2) ⟨t.first.symm, t.n.symm⟩
  have hg2 : (Z.save D b).goes = 1 - Z.goes := by
    rw [h2]
    show (if (Z.goes : Int) = 0 then 1 else 0) = _
    rcases hg with e | e <;> rw [e] <;> rfl
  have hf : (Z.save D b).first = 0 ∧ (Z.save D b).n = 2 := by rw [h2]; exact ⟨t.first, t.n⟩
  refine ⟨h1, ⟨h3, h4, by rw [hl]; exact t.len, by rw [h5, t.cnt, t.n]; omega, hf.1, hf.2, by rw [h2]; exact hx, by rw [hg2, t.goes]; omega, ?_⟩, ?_, l1, by rw [Sl.loadB, if_pos l1, l2], by rw [Sl.loadN, if_pos l1, l2, t.num]⟩
  · have e1 : 1 - (Z.save D b).goes = Z.goes := by rw [hg2]; omega
    have e2 : (Z.save D b).area (Z.saveD D b) Z.goes = Z.area (Z.saveD D b) Z.goes := by rw [Sl.area, Sl.area, hf.1, hf.2, t.first, t.n]
    rw [e1, e2, h6, hf.2, t.n, whole_rec (by rw [hx]; omega) (by rw [hx]; omega) (by omega) (by omega) (by rw [← t.n]; exact hr), h2]
    exact Nat.le_refl _
  · have e1 : Z.area (Z.saveD D b) Z.goes = (Z.saveD D b).sure.getD (2 * (i % 2)) [] ++ (Z.saveD D b).sure.getD (2 * (i % 2) + 1) [] := by
      rw [Sl.area, t.first, t.n, Nat.zero_add, t.goes, Nat.mul_comm (i % 2) 2]
      simp [Sl.areaK, Dk.atS, h4, Dk.lastOf]
    have hD : (Z.saveD D b).sure.getD (2 * (i % 2)) [] = Sl.row (recB (i + 1) b 2) 0 := by
      have e2 : Z.saveD D b = { D with cnt := D.cnt + Z.n + 1, sure := Dk.laid (rowsP (Z.first + Z.goes * Z.n) (recB Z.next b Z.n) 0 Z.n) D.sure, pend := [] } := by
        have hw : Z.written D b = (0, { D with cnt := D.cnt + Z.n, pend := rowsP (Z.first + Z.goes * Z.n) (recB Z.next b Z.n) 0 Z.n }) := by
          have hfit : Z.first + Z.goes * Z.n + 0 + Z.n ≤ D.sure.length := by
            rw [t.first, t.n, t.len]
            rcases hg with e | e <;> rw [e] <;> omega
          rw [Sl.written, writes_calm _ _ _ _ _ t.calm hfit (by rw [recB_len _ _ _ (by have := room_nat hZ.one hZ.most; have := hZ.one; omega)]; omega), t.pend, List.nil_append]
        have hc2 : Calm { D with cnt := D.cnt + Z.n, pend := rowsP (Z.first + Z.goes * Z.n) (recB Z.next b Z.n) 0 Z.n } := ⟨t.calm.off, t.calm.stop, t.calm.fails⟩
        rw [Sl.saveD, if_neg (by omega), hw, if_pos rfl]
        show Dk.flush _ = _
        rw [Dk.flush, if_neg (by show ¬ D.off = true; rw [t.calm.off]; simp), if_pos hc2.code, hc2.step]
      rw [e2]
      show (Dk.laid _ D.sure).getD _ [] = _
      have hfit : Z.first + Z.goes * Z.n + 0 + Z.n ≤ D.sure.length := by
        rw [t.first, t.n, t.len]
        rcases hg with e | e <;> rw [e] <;> omega
      rw [laid_rowsP _ _ _ _ _ _ hfit, if_pos (by rw [t.first, t.n, t.goes]; omega), hx, t.n, t.first, t.goes]
      congr 1
      omega
    have hlen : 28 + b.length ≤ 64 * 2 := by omega
    rw [hD, Sl.row, Nat.mul_zero, List.drop_zero, List.take_take, recB, fullB, headB]
    simp [putL_length]
theorem u64_small (m : Nat) (h : m ≤ 1000000) : IntKind.u64.wrap (m : Int) = (m : Int) ∧ (m : Int) % 18446744073709551616 = (m : Int) := by
  constructor
  · rw [IntKind.wrap_u64]; omega
  · omega
theorem mod8 (j : Nat) (h : j < 30) : (j + 1) % 256 ^ 8 = j + 1 := by
  have e : (256 : Nat) ^ 8 = 18446744073709551616 := by decide
  exact Nat.mod_eq_of_lt (by rw [e]; omega)
theorem half_of (j : Nat) (h : j < 30) : ∃ p r j1 : Nat, p = j % 2 ∧ r = 2 * p ∧ j1 = j + 1 ∧ (j : Int).tmod 2 = (p : Int) ∧ (j : Int) % 2 = (p : Int) ∧ (2 : Int) * (p : Int) = (r : Int) ∧ (r : Int) < 4 ∧ r < 4 ∧ (j : Int) + 1 = (j1 : Int) ∧ j1 ≤ 1000000 ∧ r ≤ 1000000 ∧ p ≤ 1000000 :=
  ⟨j % 2, 2 * (j % 2), j + 1, rfl, rfl, rfl, by rw [Int.tmod_eq_emod_of_nonneg (by omega)]; rfl, rfl, by omega, by omega, by omega, by omega, by omega, by omega, by omega⟩
/-- Slots beside others on one disk. -/
theorem Lz.other {M : DC} {C : SlC M} {N : Nat} {w w' : World} {g s : Nat} {D : Dk} {Z : Sl} {F S F' S2 S2' : Nat → Prop} (t : Lz M C N w g s D Z F S) (l2 : ∀ b, S2 b → N ≤ b) (d2 : ∀ b, S b → ¬ S2 b) (hI : M.Is N w' g D F') (hs : ∀ b, Or2 F' S2' b → Or2 F S2 b ∨ w.heap.size ≤ b) (m : Mv N (Or2 F S2) w w') : Lz M C N w' g s D Z F' S := by
  refine ⟨hI, C.keep t.sl m.size fun b hb hlt => m.same b hlt fun hF => ?_, fun b hF hS => ?_, t.zo⟩
  · rcases hb with e | e
    · rcases hF with q | q
      · have := (M.lt t.is b q).1; omega
      · have := l2 b q; omega
    · rcases hF with q | q
      · exact t.dj b q e
      · exact d2 b e q
  · rcases hs b (.inl hF) with (e | e) | e
    · exact t.dj b e hS
    · exact d2 b hS e
    · have := (C.lt t.sl b hS).2; omega
set_option maxHeartbeats 8000000 in
theorem slotsTurns_walk (M : DC) (C : SlC M) (w : World) (hk : C.ok w) (A0 : Option Addr) (n0 c0 : Nat) (xss : List (List UInt8)) (hx : RdBs w A0 n0 c0 xss) :
    Calls Tryd.prog 4 #[.slice A0 n0 c0] w fun e w' => e = .returned (.bool true) ∧ Below w.heap.size w w' := by
  obtain ⟨N, hN⟩ : ∃ N, w.heap.size = N := ⟨_, rfl⟩
  have HN := Lib.hid hN
  have HX := Lib.hid hx
  have OKN := Lib.hid (show ∀ X, Below N w X → C.ok X from fun X hX => C.bel hk (by rw [hN]; exact hX))
  have BN := Lib.hid (show ∀ X Y, Below N w X → Below X.heap.size X Y → Below N w Y from fun X Y h h' => h.trans (h'.mono (by have := h.size; omega)))
  have CA := Lib.hid (show Calls Tryd.prog 7 #[] w fun e w' => e = .returned (.bool true) ∧ Below N w w' from (awake20_any M C w hk).mono fun e w' h => by rw [← hN]; exact h)
  have C1 := Lib.hid (show ∀ X, Below N w X → Calls Tryd.prog 8 #[.int .i64 4] X fun e w' => ∃ g F, e = .returned (.tuple #[.pointer (some ⟨g, 0, none⟩), .int .i64 0]) ∧ M.Is N w' g (Dk.new 4) F ∧ Below N X w' from fun X hX => (M.new N X 4 (C.okM (OKN.out X hX)) (by rw [← hN]; exact hX.size) (by omega) (by omega)).mono fun e w' ⟨g, F, h1, h2, h3, h4⟩ => ⟨g, F, h1, h2, h4.mono (by rw [← hN]; exact hX.size)⟩)
  have C2 := Lib.hid (show ∀ X g F, Below N w X → M.Is N X g (Dk.new 4) F → Calls Tryd.prog 9 #[.pointer (some ⟨g, 0, none⟩), .int .i64 0, .int .i64 2] X fun e w' => ∃ s F' S', e = .returned (.tuple #[.pointer (some ⟨s, 0, none⟩), .int .i64 0]) ∧ (∃ D Z, Lz M C N w' g s D Z F' S' ∧ Tn 0 D Z) ∧ Below N X w' from fun X g F hX hI => (C.new N X g (Dk.new 4) F 0 2 (OKN.out X hX) hI (by rfl)).mono fun e w' ⟨s, S, F', h1, h2, h3, h4, h5, h6, h7⟩ => ⟨s, F', S, h1, ⟨_, _, ⟨h3, h2, h6, new_ok (first := 0) (n := 2) (by rfl)⟩, Tn.start⟩, h7.bel⟩)
  have C3 := Lib.hid (show ∀ X g s D Z F S A m c j b, Below N w X → Lz M C N X g s D Z F S → Tn j D Z → j < 30 → 100 < m → Rd X A m c b → (∀ a, 0 < m → A = some a → a.block < N) → Calls Tryd.prog 14 #[.pointer (some ⟨s, 0, none⟩), .slice A m c] X fun e w' => e = .returned (.int .i64 1) ∧ Below N w w' from fun X g s D Z F S A m c j b hX hI hT hj hm hR hA => (hI.save (OKN.out X hX) hR (fun a h1 h2 hO => by have := hA a h1 h2; have := (hI.lt _ hO).1; omega) (by rw [hT.cnt]; omega)).mono fun e w' ⟨h1, F', S', h2, h3, h4⟩ => ⟨by rw [h1, Sl.saveC, if_pos (by rw [hT.n, room_nat (n := 2) (by omega) (by omega), hR.len]; omega)]; rfl, hX.trans h4.bel⟩)
  have C4 := Lib.hid (show ∀ X g s D Z F S A m c j b, Below N w X → Lz M C N X g s D Z F S → Tn j D Z → j < 30 → m ≤ 100 → Rd X A m c b → (∀ a, 0 < m → A = some a → a.block < N) → Calls Tryd.prog 14 #[.pointer (some ⟨s, 0, none⟩), .slice A m c] X fun e w' => e = .returned (.int .i64 0) ∧ ∃ D' Z' F' S', (Lz M C N w' g s D' Z' F' S' ∧ Tn (j + 1) D' Z' ∧ (D'.sure.getD (2 * (j % 2)) []).take 8 = putL (j + 1) 8 ∧ (Sl.new 0 2).loadC D' = 0 ∧ (Sl.new 0 2).loadB D' = b ∧ (Sl.new 0 2).loadN D' = j + 1) ∧ Below N w w' from fun X g s D Z F S A m c j b hX hI hT hj hm hR hA => (hI.save (OKN.out X hX) hR (fun a h1 h2 hO => by have := hA a h1 h2; have := (hI.lt _ hO).1; omega) (by rw [hT.cnt]; omega)).mono fun e w' ⟨h1, F', S', h2, h3, h4⟩ => by
    obtain ⟨t1, t2, t3, t4, t5, t6⟩ := hT.step hI.zo hj (by rw [hR.len]; exact hm)
    exact ⟨by rw [h1, t1]; rfl, _, _, F', S', ⟨h2, t2, t3, t4, t5, t6⟩, hX.trans h4.bel⟩)
  have C5 := Lib.hid (show ∀ X g s D Z F S j, Below N w X → Lz M C N X g s D Z F S → Tn j D Z → Calls Tryd.prog 15 #[.pointer (some ⟨g, 0, none⟩)] X fun e w' => ∃ A c F', e = .returned (.slice A 4 c) ∧ (Rs w' (fun _ => True) A 4 c D.sure ∧ D.Ok ∧ Lz M C N w' g s D Z F' S) ∧ Below N w w' from fun X g s D Z F S j hX hI hT => (M.sure N X g D F (C.okM (OKN.out X hX)) hI.is).mono fun e w' ⟨A, c, F', h1, h2, h3, h4, h5⟩ => by
    rw [hT.len] at h1 h2
    exact ⟨A, c, F', h1, ⟨⟨h2.len, h2.cap, h2.max, h2.nil, fun h0 => by
      obtain ⟨b, off, e, hb, _, hc⟩ := h2.at_ h0
      refine ⟨b, off, e, hb, trivial, fun j hj => ?_⟩
      obtain ⟨A', m, c', q1, q2, q3⟩ := hc j hj
      exact ⟨A', m, c', q1, q2, fun _ _ _ => trivial⟩⟩, M.okD hI.is, hI.disk h3 h4 h5 rfl⟩, hX.trans h5.bel⟩)
  have C6 := Lib.hid (show ∀ X g s D Z F S j, Below N w X → Lz M C N X g s D Z F S → Tn j D Z → Calls Tryd.prog 9 #[.pointer (some ⟨g, 0, none⟩), .int .i64 0, .int .i64 2] X fun e w' => ∃ s2 F' S2, e = .returned (.tuple #[.pointer (some ⟨s2, 0, none⟩), .int .i64 0]) ∧ (Lz M C N w' g s D Z F' S ∧ Lz M C N w' g s2 D (Sl.new 0 2) F' S2 ∧ (∀ b, S b → ¬ S2 b)) ∧ Below N w w' from fun X g s D Z F S j hX hI hT => (C.new N X g D F 0 2 (OKN.out X hX) hI.is (by rw [hT.len]; rfl)).mono fun e w' ⟨s2, S2, F', h1, h2, h3, h4, h5, h6, h7⟩ => ⟨s2, F', S2, h1, ⟨hI.disk h3 h5 h7 rfl, ⟨h3, h2, h6, new_ok (first := 0) (n := 2) (by rw [hT.len]; rfl)⟩, fun b hb h2' => by have := (C.lt hI.sl b hb).2; have := h4 b h2'; omega⟩, hX.trans h7.bel⟩)
  have C7 := Lib.hid (show ∀ X g s s2 D Z F S S2 j b, Below N w X → Lz M C N X g s D Z F S → Lz M C N X g s2 D (Sl.new 0 2) F S2 → (∀ b, S b → ¬ S2 b) → (Sl.new 0 2).loadC D = 0 → (Sl.new 0 2).loadB D = b → (Sl.new 0 2).loadN D = j + 1 → Calls Tryd.prog 17 #[.pointer (some ⟨s2, 0, none⟩)] X fun e w' => ∃ A c F', e = .returned (.tuple #[.slice A b.length c, .int .u64 ((j + 1 : Nat) : Int), .int .i64 0]) ∧ (Rd w' A b.length c b ∧ Lz M C N w' g s D Z F' S) ∧ Below N w w' from fun X g s s2 D Z F S S2 j b hX hI hJ hd e1 e2 e3 => (hJ.load (OKN.out X hX)).mono fun e w' ⟨A, c, F', S', h1, h2, _, h3, h4, h5⟩ => by
    rw [e2] at h1 h2
    rw [e1, e3] at h1
    exact ⟨A, c, F', h1, ⟨h2, hI.other (fun b hb => (C.lt hJ.sl b hb).1) hd h3.is h4 h5⟩, hX.trans h5.bel⟩)
  clear hk hx
  go_enter Tryd.func4, Tryd.ntmps4
  go_upto_region 9 with (first
    | (go_at_call 7; ((with_reducible refine CA.out.mono ?_); rintro e w1 ⟨rfl, b1⟩; have B1 := Lib.hid b1; clear b1))
    | (go_at_call 8; ((with_reducible refine (C1.out w1 B1.out).mono ?_); rintro e w2 ⟨g, F2, rfl, i2, b2⟩; have I2 := Lib.hid i2; have B2 := Lib.hid (B1.out.trans b2); clear i2 b2))
    | (go_at_call 9; ((with_reducible refine (C2.out w2 g F2 B2.out I2.out).mono ?_); rintro e w3 ⟨s, F3, S3, rfl, i3, b3⟩; have I3 := Lib.hid i3; have B3 := Lib.hid (B2.out.trans b3); clear i3 b3)))
  go_wp2
  go_loopw [7] (fun i wr => ∃ j D Z F S, j ≤ n0 ∧ j ≤ 30 ∧ i = .int .i64 ((j : Nat) : Int) ∧ Lz M C N wr g s D Z F S ∧ Tn j D Z ∧ Below N w wr) (fun i _ => n0 - (intOf i).toNat)
  case atStart =>
    obtain ⟨D, Z, h1, h2⟩ := I3.out
    exact ⟨0, D, Z, F3, S3, Nat.zero_le _, Nat.zero_le _, rfl, h1, h2, B3.out⟩
  case round =>
    obtain ⟨j, D, Z, F, S, hj, hj30, rfl, hI, hT, hB⟩ := hrel
    have HI := Lib.hid hI
    have HT := Lib.hid hT
    have BR := Lib.hid hB
    clear hI hT hB
    by_cases q0 : j < n0 ∧ j < 30
    · obtain ⟨q1, q2⟩ := q0
      have t1 : (j : Int) < (n0 : Int) := by omega
      have t2 : (j : Int) < 30 := by omega
      have t1' : decide ((j : Int) < (n0 : Int)) = true := by simp; omega
      have t2' : decide ((j : Int) < 30) = true := by simp; omega
      obtain ⟨b0, off, rfl, hb0, hc0⟩ := HX.out.at_ (by omega)
      obtain ⟨A', m, c', hc1, hr1⟩ := hc0 j q1
      have hbel := BR.out
      rw [← hN] at hbel
      have hcell : wr.cell? ⟨b0, off + j, none⟩ = some (.slice A' m c') := (hbel.cell (p := ⟨b0, off + j, none⟩) hb0).trans hc1
      obtain ⟨b, hb⟩ : ∃ b, b = xss[j]?.getD [] := ⟨_, rfl⟩
      rw [← hb] at hr1
      have RW := Lib.hid hr1
      have RM := Lib.hid (show ∀ X, Below N w X → Rd X A' m c' b from fun X hX => hr1.below (by rw [hN]; exact hX))
      have AM := Lib.hid (show ∀ a, 0 < m → A' = some a → a.block < N from fun a h1 h2 => by
        obtain ⟨bb, oo, e, hl, _⟩ := RW.out.at_ h1
        rw [h2] at e
        injection e with e
        rw [e, ← hN]
        exact hl)
      have HC := Lib.hid hc1
      clear hc0 hb0 hc1 hbel hb hr1
      by_cases q3 : m ≤ 100
      · have t3 : ¬ (100 : Int) < (m : Int) := by omega
        obtain ⟨p, r, j1, hp, hr, hj1, p1, p2, p3, p5, p6, u1, l1, l2, l3⟩ := half_of j q2
        have p4 : wrap64 (r : Int) = (r : Int) := (wrap_nat r l2).1
        have p4' : IntKind.i64.wrap (r : Int) = (r : Int) := (wrap_nat r l2).2
        have p7 : wrap64 (p : Int) = (p : Int) := (wrap_nat p l3).1
        have u2 : wrap64 (j1 : Int) = (j1 : Int) := (wrap_nat j1 l1).1
        have u3 : IntKind.i64.wrap (j1 : Int) = (j1 : Int) := (wrap_nat j1 l1).2
        have u4 : IntKind.u64.wrap (j1 : Int) = (j1 : Int) := (u64_small j1 l1).1
        have u5 : (j1 : Int) % 18446744073709551616 = (j1 : Int) := (u64_small j1 l1).2
        have HJ1 := Lib.hid hj1
        have HR := Lib.hid (show 2 * (j % 2) = r by rw [← hp, hr])
        clear hp hr hj1 l1 l2 l3
        have HJ := Lib.hid q2
        have QJ := Lib.hid (show j + 1 ≤ n0 ∧ j + 1 ≤ 30 ∧ n0 - (j + 1) < n0 - j from ⟨by clear p1 p2 p3 p4 p4' p5 p6 p7 u1 u2 u3 u4 u5; omega, by clear p1 p2 p3 p4 p4' p5 p6 p7 u1 u2 u3 u4 u5; omega, by clear p1 p2 p3 p4 p4' p5 p6 p7 u1 u2 u3 u4 u5; omega⟩)
        go_upto_region 18 with (first
          | (go_at_call 14; ((with_reducible refine (C4.out wr g s D Z F S A' m c' j b BR.out HI.out HT.out q2 q3 (RM.out _ BR.out) AM.out).mono ?_); rintro e w4 ⟨rfl, D4, Z4, F4, S4, i4, b4⟩; have I4 := Lib.hid i4; have B4 := Lib.hid b4; clear i4 b4))
          | (go_at_call 15; ((with_reducible refine (C5.out w4 g s D4 Z4 F4 S4 (j + 1) B4.out I4.out.1 I4.out.2.1).mono ?_); rintro e w5 ⟨A5, c5, F5, rfl, i5, b5⟩; have I5 := Lib.hid i5; have B5 := Lib.hid b5; clear i5 b5)))
        obtain ⟨x1, x2, x3, x4, x5, x6⟩ := I4.out
        obtain ⟨y1, y2, y3⟩ := I5.out
        obtain ⟨b5, o5, rfl, hb5, _, hc5⟩ := y1.at_ (by omega)
        obtain ⟨A6, m6, c6, hc6, hr6, _⟩ := hc5 r p6
        have hm6 : m6 = 64 := by
          rw [← hr6.len]
          refine y2.rows _ ?_
          rw [List.getD_eq_getElem?_getD, List.getElem?_eq_getElem (by rw [x2.len]; exact p6)]
          exact List.getElem_mem _
        subst hm6
        have hcp := hr6.cap
        have S1 : ∀ X, (Instr.slice 36 (.slice A6 64 c6) none (some (.int .i64 8)) none).run Tryd.prog X = .ok (.slice A6 8 c6) X := fun X => run_cutSlH (m := 8) rfl (by omega) X
        have S2' : ∀ X, (Instr.sliceAt 36 (.slice A6 64 c6) none (some (.int .i64 8)) none).run Tryd.prog X = .ok (.slice A6 8 c6) X := fun X => run_cutSlHAt (m := 8) rfl (by omega) X
        have hg := rget20 A6 8 c6 _ w5 (by omega) (hr6.take (by omega))
        rw [← HR.out, x3, getL_putL] at hg
        have hG := Lib.hid (show Calls Tryd.prog 16 #[.slice A6 8 c6] w5 fun e w' => e = .returned (.tuple #[.int .u64 (j1 : Int), .bool true]) ∧ w5 = w' from by
          have e9 : (j + 1) % 256 ^ 8 = j1 := by rw [HJ1.out]; exact mod8 j HJ.out
          rw [e9] at hg
          exact hg)
        have C7' := Lib.hid (show ∀ X s2 F' S2, Below N w X → Lz M C N X g s D4 Z4 F' S4 → Lz M C N X g s2 D4 (Sl.new 0 2) F' S2 → (∀ b, S4 b → ¬ S2 b) → Calls Tryd.prog 17 #[.pointer (some ⟨s2, 0, none⟩)] X fun e w' => ∃ A c F', e = .returned (.tuple #[.slice A b.length c, .int .u64 (j1 : Int), .int .i64 0]) ∧ (Rd w' A b.length c b ∧ Lz M C N w' g s D4 Z4 F' S4) ∧ Below N w w' from fun X s2 F' S2 h1 h2 h3 h4 => by rw [HJ1.out]; exact C7.out X g s s2 D4 Z4 F' S4 S2 j b h1 h2 h3 h4 x4 x5 x6)
        have X1 := Lib.hid x1
        have X2 := Lib.hid x2
        have Y3 := Lib.hid y3
        clear x1 x2 x3 x4 x5 x6 y1 y2 y3 hb5 hc5 hr6 hcp hg
        go_wp2_with (first
          | (go_at_call 16; ((with_reducible refine hG.out.mono ?_); rintro e w6 ⟨rfl, rfl⟩))
          | (go_at_call 9; ((with_reducible refine (C6.out w5 g s D4 Z4 F5 S4 (j + 1) B5.out Y3.out X2.out).mono ?_); rintro e w7 ⟨s2, F7, S7, rfl, i7, b7⟩; have I7 := Lib.hid i7; have B7 := Lib.hid b7; clear i7 b7))
          | (go_at_call 17; ((with_reducible refine (C7'.out w7 s2 F7 S7 B7.out I7.out.1 I7.out.2.1 I7.out.2.2).mono ?_); rintro e w8 ⟨A8, c8, F8, rfl, i8, b8⟩; have I8 := Lib.hid i8; have B8 := Lib.hid b8; clear i8 b8))
          | (go_at_call 18; ((with_reducible refine (rsame_true A8 A' b.length c8 m c' b b w8 I8.out.1 (RM.out _ B8.out) rfl).mono ?_); rintro e w9 ⟨rfl, b9⟩; have I9 := Lib.hid (I8.out.2.grow b9); have B9 := Lib.hid (BN.out _ _ B8.out b9); clear b9)))
        go_roundw
        case rel => exact ⟨j + 1, D4, Z4, F8, S4, QJ.out.1, QJ.out.2.1, by rw [HJ1.out], I9.out, X2.out, B9.out⟩
        case measure => have h9 := QJ.out.2.2; rw [← HJ1.out] at h9; clear p1 p2 p3 p4 p4' p5 p6 p7 u1 u2 u3 u4 u5; simpa [intOf] using h9
      · have q4 : 100 < m := by omega
        have t3 : (100 : Int) < (m : Int) := by omega
        go_wp2_with (go_at_call 14; ((with_reducible refine (C3.out wr g s D Z F S A' m c' j b BR.out HI.out HT.out q2 q4 (RM.out _ BR.out) AM.out).mono ?_); rintro e w4 ⟨rfl, b4⟩; have B4 := Lib.hid b4; clear b4))
        go_ret
        exact ⟨rfl, by first | exact B4.out | (rw [HN.out]; exact B4.out)⟩
    · by_cases q1 : j < n0
      · have q2 : ¬ j < 30 := fun h => q0 ⟨q1, h⟩
        have t1 : (j : Int) < (n0 : Int) := by omega
        have t2 : ¬ (j : Int) < 30 := by omega
        have t1' : decide ((j : Int) < (n0 : Int)) = true := by simp; omega
        have t2' : decide ((j : Int) < 30) = false := by simp; omega
        go_wp2
        go_ret
        exact ⟨rfl, by first | exact BR.out | (rw [HN.out]; exact BR.out)⟩
      · have t1 : ¬ (j : Int) < (n0 : Int) := by omega
        have t1' : decide ((j : Int) < (n0 : Int)) = false := by simp; omega
        go_wp2
        go_ret
        exact ⟨rfl, by first | exact BR.out | (rw [HN.out]; exact BR.out)⟩
end Go.Proofs.YtdbamdbdogdpjaaDoor.S20

/-
  The walk of one statement of layer 20, as its frame calls it.
-/
namespace Go.Proofs.YtdbamdbdogdpjaaDoor.S20
set_option linter.unusedSimpArgs false
set_option linter.unusedVariables false
set_option maxRecDepth 4096
open Go.ChangeShapes Go.WideShapes Go.ChangeAt Go.RowKit Go.Joins S19
theorem slotsTurns_frame (W : World) (hk : C0.ok W) (v : Value) (y : Option Addr × Nat × Nat × List (List UInt8)) (o : v = .slice y.1 y.2.1 y.2.2.1 ∧ RdBs W y.1 y.2.1 y.2.2.1 y.2.2.2) :
    Calls Tryd.prog 4 #[v] W fun e w' => e = .returned (.bool true) ∧ Below W.heap.size W w' := by
  obtain ⟨rfl, h⟩ := o
  exact slotsTurns_walk M0 C0 W hk _ _ _ _ h
end Go.Proofs.YtdbamdbdogdpjaaDoor.S20
