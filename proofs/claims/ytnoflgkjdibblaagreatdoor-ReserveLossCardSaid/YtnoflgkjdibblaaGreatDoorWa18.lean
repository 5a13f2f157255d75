/-
  Texts put together: SlL4, RvE, RvF, SlO, RvO, RvS. No statement is proved here.
-/
import Derived.Test.YtnoflgkjdibblaaGreatDoorWa17
import Derived.Test.YtnoflgkjdibblaaGreatDoorWa12
import Derived.Test.YtnoflgkjdibblaaGreatDoorWa05
import Derived.Test.YtnoflgkjdibblaaGreatDoorWa01

/-
  The walk of layer 20's third statement (SlotsTurns), over the contracts. No statement is proved here. (Written by gensll4.py.)
-/
namespace Go.Proofs.YtnoflgkjdibblaaGreatDoor.S20
set_option linter.unusedSimpArgs false
set_option linter.unusedVariables false
set_option maxRecDepth 4096
open Go.RowKit S19

/-- So many records were saved, on a disk of four sectors with which nothing failed. -/
structure Tn (i : Nat) (D : Dk) (Z : Sl) : Prop where
  calm : Calm D
  pend : D.pend = []
  len : D.sure.length = 4
  cnt : D.cnt = 3 * i
  first : Z.first = 0
  n : Z.n = 2
  num : Z.num = i
  goes : Z.goes = i % 2
  other : (whole (Z.area D (1 - Z.goes)) Z.n).1 ≤ Z.num
theorem Tn.start : Tn 0 (Dk.new 4) (Sl.new 0 2) :=
  ⟨Calm.new 4, rfl, rfl, rfl, rfl, rfl, rfl, rfl, by
    rw [area_new (k := 4) (Z := Sl.new 0 2) (by show 0 + 2 * 2 ≤ 4; omega) (by omega), whole_zero]
    exact Nat.zero_le _⟩
theorem Tn.step {i : Nat} {D : Dk} {Z : Sl} {b : List UInt8} (t : Tn i D Z) (hZ : Z.Ok D) (hi : i < 30) (hb : b.length ≤ 100) :
    Z.saveC D b = 0 ∧ Tn (i + 1) (Z.saveD D b) (Z.save D b) ∧ ((Z.saveD D b).sure.getD (2 * (i % 2)) []).take 8 = putL (i + 1) 8 ∧ (Sl.new 0 2).loadC (Z.saveD D b) = 0 ∧ (Sl.new 0 2).loadB (Z.saveD D b) = b ∧ (Sl.new 0 2).loadN (Z.saveD D b) = i + 1 := by
  have hr : b.length ≤ room Z.n := by rw [t.n, room_nat (n := 2) (by omega) (by omega)]; omega
  obtain ⟨h1, h2, h3, h4, h5, h6, h7⟩ := save_calm t.calm t.pend hZ hr
  have hn : Z.num + 1 < 18446744073709551616 := by rw [t.num]; omega
  have hx : Z.next = i + 1 := by rw [Sl.next, Nat.mod_eq_of_lt hn, t.num]
  have hl := saveD_len Z D b
  have hg : Z.goes = 0 ∨ Z.goes = 1 := by rw [t.goes]; omega
  obtain ⟨l1, l2⟩ := load_saved t.calm t.pend hZ hr hn t.other (Sl.new 0 2) ⟨t.first.symm, t.n.symm⟩
  have hg2 : (Z.save D b).goes = 1 - Z.goes := by
    rw [h2]
    show (if (Z.goes : Int) = 0 then 1 else 0) = _
    rcases hg with e | e <;> rw [e] <;> rfl
  have hf : (Z.save D b).first = 0 ∧ (Z.save D b).n = 2 := by rw [h2]; exact ⟨t.first, t.n⟩
  refine ⟨h1, ⟨h3, h4, by rw [hl]; exact t.len, by rw [h5, t.cnt, t.n]; omega, hf.1, hf.2, by rw [h2]; exact hx, by rw [hg2, t.goes]; omega, ?_⟩, ?_, l1, by rw [Sl.loadB, if_pos l1, l2], by rw [Sl.loadN, if_pos l1, l2, t.num]⟩
  · have e1 : 1 - (Z.save D b).goes = Z.goes := by rw [hg2]; omega
    have e2 : (Z.save D b).area (Z.saveD D b) Z.goes = Z.area (Z.saveD D b) Z.goes := by rw [Sl.area, Sl.area, hf.1, hf.2, t.first, t.n]
    rw [e1, e2, h6, hf.2, t.n, whole_rec (by rw [hx]; omega) (by rw [hx]; omega) (by omega) (by omega) (by rw [← t.n]; exact hr), h2]
    exact Nat.le_refl _
  · have e1 : Z.area (Z.saveD D b) Z.goes = (Z.saveD D b).sure.getD (2 * (i % 2)) [] ++ (Z.saveD D b).sure.getD (2 * (i % 2) + 1) [] := by
      rw [Sl.area, t.first, t.n, Nat.zero_add, t.goes, Nat.mul_comm (i % 2) 2]
      simp [Sl.areaK, Dk.atS, h4, Dk.lastOf]
    have hD : (Z.saveD D b).sure.getD (2 * (i % 2)) [] = Sl.row (recB (i + 1) b 2) 0 := by
      have e2 : Z.saveD D b = { D with cnt := D.cnt + Z.n + 1, sure := Dk.laid (rowsP (Z.first + Z.goes * Z.n) (recB Z.next b Z.n) 0 Z.n) D.sure, pend := [] } := by
        have hw : Z.written D b = (0, { D with cnt := D.cnt + Z.n, pend := rowsP (Z.first + Z.goes * Z.n) (recB Z.next b Z.n) 0 Z.n }) := by
          have hfit : Z.first + Z.goes * Z.n + 0 + Z.n ≤ D.sure.length := by
            rw [t.first, t.n, t.len]
            rcases hg with e | e <;> rw [e] <;> omega
          rw [Sl.written, writes_calm _ _ _ _ _ t.calm hfit (by rw [recB_len _ _ _ (by have := room_nat hZ.one hZ.most; have := hZ.one; omega)]; omega), t.pend, List.nil_append]
        have hc2 : Calm { D with cnt := D.cnt + Z.n, pend := rowsP (Z.first + Z.goes * Z.n) (recB Z.next b Z.n) 0 Z.n } := ⟨t.calm.off, t.calm.stop, t.calm.fails⟩
        rw [Sl.saveD, if_neg (by omega), hw, if_pos rfl]
        show Dk.flush _ = _
        rw [Dk.flush, if_neg (by show ¬ D.off = true; rw [t.calm.off]; simp), if_pos hc2.code, hc2.step]
      rw [e2]
      show (Dk.laid _ D.sure).getD _ [] = _
      have hfit : Z.first + Z.goes * Z.n + 0 + Z.n ≤ D.sure.length := by
        rw [t.first, t.n, t.len]
        rcases hg with e | e <;> rw [e] <;> omega
      rw [laid_rowsP _ _ _ _ _ _ hfit, if_pos (by rw [t.first, t.n, t.goes]; omega), hx, t.n, t.first, t.goes]
      congr 1
      omega
    have hlen : 28 + b.length ≤ 64 * 2 := by omega
    rw [hD, Sl.row, Nat.mul_zero, List.drop_zero, List.take_take, recB, fullB, headB]
    simp [putL_length]
theorem u64_small (m : Nat) (h : m ≤ 1000000) : IntKind.u64.wrap (m : Int) = (m : Int) ∧ (m : Int) % 18446744073709551616 = (m : Int) := by
  constructor
  · rw [IntKind.wrap_u64]; omega
  · omega
theorem mod8 (j : Nat) (h : j < 30) : (j + 1) % 256 ^ 8 = j + 1 := by
  have e : (256 : Nat) ^ 8 = 18446744073709551616 := by decide
  exact Nat.mod_eq_of_lt (by rw [e]; omega)
theorem half_of (j : Nat) (h : j < 30) : ∃ p r j1 : Nat, p = j % 2 ∧ r = 2 * p ∧ j1 = j + 1 ∧ (j : Int).tmod 2 = (p : Int) ∧ (j : Int) % 2 = (p : Int) ∧ (2 : Int) * (p : Int) = (r : Int) ∧ (r : Int) < 4 ∧ r < 4 ∧ (j : Int) + 1 = (j1 : Int) ∧ j1 ≤ 1000000 ∧ r ≤ 1000000 ∧ p ≤ 1000000 :=
  ⟨j % 2, 2 * (j % 2), j + 1, rfl, rfl, rfl, by rw [Int.tmod_eq_emod_of_nonneg (by omega)]; rfl, rfl, by omega, by omega, by omega, by omega, by omega, by omega, by omega⟩
/-- Slots beside others on one disk. -/
theorem Lz.other {M : DC} {C : SlC M} {N : Nat} {w w' : World} {g s : Nat} {D : Dk} {Z : Sl} {F S F' S2 S2' : Nat → Prop} (t : Lz M C N w g s D Z F S) (l2 : ∀ b, S2 b → N ≤ b) (d2 : ∀ b, S b → ¬ S2 b) (hI : M.Is N w' g D F') (hs : ∀ b, Or2 F' S2' b → Or2 F S2 b ∨ w.heap.size ≤ b) (m : Mv N (Or2 F S2) w w') : Lz M C N w' g s D Z F' S := by
  refine ⟨hI, C.keep t.sl m.size fun b hb hlt => m.same b hlt fun hF => ?_, fun b hF hS => ?_, t.zo⟩
  · rcases hb with e | e
    · rcases hF with q | q
      · have := (M.lt t.is b q).1; omega
      · have := l2 b q; omega
    · rcases hF with q | q
      · exact t.dj b q e
      · exact d2 b e q
  · rcases hs b (.inl hF) with (e | e) | e
    · exact t.dj b e hS
    · exact d2 b hS e
    · have := (C.lt t.sl b hS).2; omega
end Go.Proofs.YtnoflgkjdibblaaGreatDoor.S20

/-
  The walk of layer 21's third statement (ReserveAll), over the contracts. No statement is proved here.
-/
namespace Go.Proofs.YtnoflgkjdibblaaGreatDoor.S21
set_option linter.unusedSimpArgs false
set_option linter.unusedVariables false
set_option maxRecDepth 8192
open Go.RowKit S19 S20

theorem all_nums (a c : Nat) (ha : a < 256) (hc : c < 256) : ∃ p n q b : Nat, (a : Int).tmod 60 = (p : Int) ∧ (a : Int) % 60 = (p : Int) ∧ (1 : Int) + (p : Int) = (n : Int) ∧ (c : Int).tmod 70 = (q : Int) ∧ (c : Int) % 70 = (q : Int) ∧ (1 : Int) + (q : Int) = (b : Int) ∧ 1 ≤ n ∧ n ≤ 60 ∧ 1 ≤ b ∧ b ≤ 70 ∧ p ≤ 60 ∧ q ≤ 70 :=
  ⟨a % 60, 1 + a % 60, c % 70, 1 + c % 70, by rw [Int.tmod_eq_emod_of_nonneg (by omega)]; rfl, rfl, by omega, by rw [Int.tmod_eq_emod_of_nonneg (by omega)]; rfl, rfl, by omega, by omega, by omega, by omega, by omega, by omega, by omega⟩
theorem quo_nums (i b : Nat) (hb : 1 ≤ b) (hi : i ≤ 60) : ∃ d e : Nat, d = i / b ∧ (i : Int).tdiv (b : Int) = (d : Int) ∧ (i : Int) / (b : Int) = (d : Int) ∧ (2 : Int) + (d : Int) = (e : Int) ∧ e = 2 + i / b ∧ d ≤ 60 ∧ e ≤ 100 := by
  have h : i / b ≤ i := Nat.div_le_self _ _
  refine ⟨i / b, 2 + i / b, rfl, ?_, rfl, by omega, rfl, by omega, by omega⟩
  rw [Int.tdiv_eq_ediv_of_nonneg (by omega)]
  rfl
end Go.Proofs.YtnoflgkjdibblaaGreatDoor.S21

/-
  The walk of layer 21's fourth statement (ReserveLoss), over the contracts. No statement is proved here.
-/
namespace Go.Proofs.YtnoflgkjdibblaaGreatDoor.S21
set_option linter.unusedSimpArgs false
set_option linter.unusedVariables false
set_option maxRecDepth 8192
open Go.RowKit S19 S20

/-- A row of truth values. -/
structure Rb (w : World) (A : Option Addr) (n c : Nat) (bs : List Bool) : Prop where
  len : bs.length = n
  at_ : 0 < n → ∃ b off, A = some ⟨b, off, none⟩ ∧ b < w.heap.size ∧ ∀ j, j < n → w.cell? ⟨b, off + j, none⟩ = some (.bool (bs.getD j false))
theorem loss_nums (a : Nat) (ha : a < 256) : ∃ p b : Nat, (a : Int).tmod 9 = (p : Int) ∧ (a : Int) % 9 = (p : Int) ∧ (1 : Int) + (p : Int) = (b : Int) ∧ 1 ≤ b ∧ b ≤ 9 ∧ p ≤ 9 :=
  ⟨a % 9, 1 + a % 9, by rw [Int.tmod_eq_emod_of_nonneg (by omega)]; rfl, rfl, by omega, by omega, by omega, by omega⟩
theorem u64_sub {m k d : Nat} (h : m = k + d) (hm : m ≤ 1000000) : (m : Int) - (k : Int) = (d : Int) ∧ d ≤ 1000000 := by omega
set_option maxHeartbeats 16000000 in
theorem reserveLoss_walk (M : DC) (C : SlC M) (K : RvC M C) (w : World) (hk : K.ok w) (a : Nat) (ha : a < 256) (A0 : Option Addr) (n0 c0 : Nat) (bs : List Bool) (hx : Rb w A0 n0 c0 bs) (hn0 : n0 ≤ 9223372036854775807) :
    Calls Tryz.prog 4 #[.int .u8 (a : Int), .slice A0 n0 c0] w fun e w' => e = .returned (.bool true) ∧ Below w.heap.size w w' := by
  obtain ⟨N, hN⟩ : ∃ N, w.heap.size = N := ⟨_, rfl⟩
  have HN := Lib.hid hN
  have HX := Lib.hid hx
  have OKN := Lib.hid (show ∀ X, Below N w X → K.ok X from fun X hX => K.bel hk (by rw [hN]; exact hX))
  have SZ := Lib.hid (show ∀ X, Below N w X → N ≤ X.heap.size from fun X hX => by have := hX.size; omega)
  have CA := Lib.hid (show Calls Tryz.prog 5 #[] w fun e w' => e = .returned (.bool true) ∧ Below N w w' from (awake21_any M C K w hk).mono fun e w' h => by rw [← hN]; exact h)
  obtain ⟨p, b, p1, p2, p3, b1, b2, p4⟩ := loss_nums a ha
  obtain ⟨ZZ, DD, e1, e2, e3, e4⟩ := Lo.start (b := b) b1 b2
  have C1 := Lib.hid (show ∀ X, Below N w X → Calls Tryz.prog 6 #[.int .i64 16] X fun e w' => ∃ g F, e = .returned (.tuple #[.pointer (some ⟨g, 0, none⟩), .int .i64 0]) ∧ M.Is N w' g aD0 F ∧ Below N w w' from fun X hX => (made_disk M C K X (OKN.out X hX) (SZ.out X hX)).mono fun e w' ⟨g, F, h1, h2, h3⟩ => ⟨g, F, h1, h2, hX.trans h3⟩)
  have C2 := Lib.hid (show ∀ X g D F, Below N w X → M.Is N X g D F → 16 ≤ D.sure.length → Calls Tryz.prog 8 #[.pointer (some ⟨g, 0, none⟩), .int .i64 0, .int .i64 8] X fun e w' => ∃ s F' S', e = .returned (.tuple #[.pointer (some ⟨s, 0, none⟩), .int .i64 0]) ∧ Lz M C N w' g s D aZ0 F' S' ∧ Below N w w' from fun X g D F hX hI hl => (made_slots K (OKN.out X hX) hI hl).mono fun e w' ⟨s, F', S', h1, h2, h3, h4⟩ => ⟨s, F', S', h1, h2, hX.trans h4.bel⟩)
  have C3 := Lib.hid (show ∀ X g s F S, Below N w X → Lz M C N X g s aD0 aZ0 F S → Calls Tryz.prog 10 #[.pointer (some ⟨s, 0, none⟩), .slice none 0 0, .int .u64 40, .int .u64 (b : Int)] X fun e w' => ∃ cc F' S' R, e = .returned (.tuple #[.pointer (some ⟨cc, 0, none⟩), .int .i64 0]) ∧ Lv M C K N w' g s cc (Cn.fresh 40 b) [] ZZ DD F' S' R ∧ Below N w w' from fun X g s F S hX hL =>
    (made_cn K (tot := 40) (fun Y hY => OKN.out Y (hX.trans hY)) hL (Rd.nil_ X) (fun a h _ => absurd h (by omega)) (by omega) (by omega) (by omega) e1).mono fun e w' ⟨cc, F', S', R, h1, h2, h3, h4⟩ => ⟨cc, F', S', R, h1, by rw [e2, e3] at h2; exact h2, hX.trans h4.bel⟩)
  have C4 := Lib.hid (show ∀ X g s cc i gv sk x Z D F S R, Below N w X → Lv M C K N X g s cc x [] Z D F S R → Lo b i gv sk x Z D → i < 60 → x.nxt < 40 → Calls Tryz.prog 13 #[.pointer (some ⟨cc, 0, none⟩)] X fun e w' =>
      ∃ F' S' R' x' Z' D', e = .returned (.tuple #[.int .u64 ((gv + sk : Nat) : Int), .int .i64 0]) ∧ Lv M C K N w' g s cc x' [] Z' D' F' S' R' ∧ Lo b (i + 1) (gv + 1) sk x' Z' D' ∧ Below N w w' from fun X g s cc i gv sk x Z D F S R hX hL hA hi hx => by
    obtain ⟨Z', D', x', t1, t2, t3, t4, t5, t6⟩ := hA.take hx hi
    refine (hL.take (OKN.out X hX) hA.at_.ok (by have := hA.cnt; omega)).mono fun e w' ⟨F', S', R', h1, h2, h3, h4⟩ => ?_
    rw [t1, t2] at h1
    rw [t3, t4, t5] at h2
    exact ⟨F', S', R', x', Z', D', h1, h2, t6, hX.trans h4.bel⟩)
  have C5 := Lib.hid (show ∀ X g s cc i gv sk x Z D F S R, Below N w X → Lv M C K N X g s cc x [] Z D F S R → Lo b i gv sk x Z D → i < 60 → 40 ≤ x.nxt → Calls Tryz.prog 13 #[.pointer (some ⟨cc, 0, none⟩)] X fun e w' =>
      e = .returned (.tuple #[.int .u64 0, .int .i64 9]) ∧ Below N w w' from fun X g s cc i gv sk x Z D F S R hX hL hA hi hx => by
    obtain ⟨t1, t2, t3⟩ := hA.out hx
    refine (hL.take (OKN.out X hX) hA.at_.ok (by have := hA.cnt; omega)).mono fun e w' ⟨F', S', R', h1, h2, h3, h4⟩ => ?_
    rw [t1, t2] at h1
    exact ⟨h1, hX.trans h4.bel⟩)
  have C6 := Lib.hid (show ∀ X g s cc i gv sk x Z D F S R, Below N w X → Lv M C K N X g s cc x [] Z D F S R → Lo b i gv sk x Z D → Calls Tryz.prog 25 #[.pointer (some ⟨cc, 0, none⟩)] X fun e w' =>
      e = .returned (.agg #[.int .u64 40, .int .u64 (b : Int), .int .u64 (x.res : Int), .int .u64 (x.nxt : Int), .bool false]) ∧ Lv M C K N w' g s cc x [] Z D F S R ∧ Below N w w' from fun X g s cc i gv sk x Z D F S R hX hL hA => by
    have hcell : x.cells = #[.int .u64 40, .int .u64 (b : Int), .int .u64 (x.res : Int), .int .u64 (x.nxt : Int), .bool false] := by rw [Cn.cells, hA.tot, hA.bat, hA.at_.live]; rfl
    refine (hL.state (OKN.out X hX)).mono fun e w' ⟨h1, h2, h3⟩ => ?_
    rw [hcell] at h1
    exact ⟨h1, h2, hX.trans (h3.mono (SZ.out X hX))⟩)
  have C7 := Lib.hid (show ∀ X g s cc i gv sk x Z D F S R, Below N w X → Lv M C K N X g s cc x [] Z D F S R → Lo b i gv sk x Z D → Calls Tryz.prog 19 #[.pointer (some ⟨g, 0, none⟩), .slice none 0 0, .agg #[.slice none 0 0, .int .i64 0]] X fun e w' =>
      e = .returned (.tuple #[]) ∧ ∃ F', M.Is N w' g { D with cnt := 0 } F' ∧ Below N w w' from fun X g s cc i gv sk x Z D F S R hX hL hA => by
    refine (M.up N X g D F none 0 0 [] none 0 0 [] 0 (C.okM (K.okC (OKN.out X hX))) hL.lz.is (Rd.nil_ X) (fun a h _ => absurd h (by omega)) (RI.nil_ X .i64) (fun a h _ => absurd h (by omega)) (by omega)).mono fun e w' ⟨h1, F', h2, h3, h4⟩ => ⟨h1, F', ?_, hX.trans h4.bel⟩
    rw [hA.lose.1] at h2
    exact h2)
  have C8 := Lib.hid (show ∀ X g s i gv sk x Z D F S, Below N w X → Lz M C N X g s { D with cnt := 0 } aZ0 F S → Lo b i gv sk x Z D → Calls Tryz.prog 21 #[.pointer (some ⟨s, 0, none⟩)] X fun e w' =>
      ∃ cc F' S' R, e = .returned (.tuple #[.pointer (some ⟨cc, 0, none⟩), .int .i64 0]) ∧ Lv M C K N w' g s cc { x with nxt := x.res } [] Z { D with cnt := 0 } F' S' R ∧ Lo b (i + 1) gv (sk + x.res - x.nxt) { x with nxt := x.res } Z { D with cnt := 0 } ∧ Below N w w' from fun X g s i gv sk x Z D F S hX hL hA => by
    obtain ⟨o1, o2, o3, o4, o5⟩ := hA.lose.2.2 aZ0 rfl rfl
    refine (K.opn N X s g _ aZ0 F S (OKN.out X hX) hL).mono ?_
    rintro e w' ⟨p, F', S', h1, h2, h3, h4, h5, h6⟩
    obtain ⟨cc, R, rfl, i1, i2, i3⟩ := h3 o1
    rw [o1] at h1
    rw [o2, o3] at i1
    rw [o4] at h4
    exact ⟨cc, F', S', R, h1, ⟨h4, i1, i3⟩, o5, hX.trans h6.bel⟩)
  have AS := Lib.hid e4
  have NB := Lib.hid (show 1 ≤ b ∧ b ≤ 9 from ⟨b1, b2⟩)
  obtain ⟨x1, x2⟩ := u64_small p (by omega)
  obtain ⟨x3, x4⟩ := u64_small b (by omega)
  have HN0 := Lib.hid hn0
  have HA16 := Lib.hid (show 16 ≤ aD0.sure.length from Nat.le_refl 16)
  clear hk e1 e2 e3 e4 b1 b2 p4 hN hx hn0
  go_enter Tryz.func4, Tryz.ntmps4
  go_upto_region 5 with (first
    | (go_at_call 5; ((with_reducible refine CA.out.mono ?_); rintro e w1 ⟨rfl, b1⟩; have B1 := Lib.hid b1; clear b1)))
  clear p1 p2 p3 x1 x2
  go_upto_region 14 with (first
    | (go_at_call 6; ((with_reducible refine (C1.out w1 B1.out).mono ?_); rintro e w2 ⟨g, F2, rfl, i2, b2⟩; have I2 := Lib.hid i2; have B2 := Lib.hid b2; clear i2 b2))
    | (go_at_call 8; ((with_reducible refine (C2.out w2 g aD0 F2 B2.out I2.out HA16.out).mono ?_); rintro e w3 ⟨s0, F3, S3, rfl, i3, b3⟩; have I3 := Lib.hid i3; have B3 := Lib.hid b3; clear i3 b3))
    | (go_at_call 10; ((with_reducible refine (C3.out w3 g s0 F3 S3 B3.out I3.out).mono ?_); rintro e w4 ⟨cc0, F4, S4, R4, rfl, i4, b4⟩; have I4 := Lib.hid i4; have B4 := Lib.hid b4; clear i4 b4)))
  go_wp2_with (fail)
  go_loopw [9, 11, 13, 14, 15] (fun vs vc vg vk vi wr => ∃ i gv sk s cc x Z D F S R, i ≤ n0 ∧ i ≤ 60 ∧ vs = .pointer (some ⟨s, 0, none⟩) ∧ vc = .pointer (some ⟨cc, 0, none⟩) ∧ vg = .int .u64 ((gv : Nat) : Int) ∧ vk = .int .u64 ((sk : Nat) : Int) ∧ vi = .int .i64 ((i : Nat) : Int) ∧ Lv M C K N wr g s cc x [] Z D F S R ∧ Lo b i gv sk x Z D ∧ Below N w wr) (fun _ _ _ _ vi _ => 60 - (intOf vi).toNat)
  case atStart => exact ⟨0, 0, 0, s0, cc0, _, _, _, F4, S4, R4, Nat.zero_le _, Nat.zero_le _, rfl, rfl, rfl, rfl, rfl, I4.out, AS.out, B4.out⟩
  case round =>
    obtain ⟨i, gv, sk, s, cc, x, Z, D, F, S, R, hi, hi60, rfl, rfl, rfl, rfl, rfl, hI, hA, hB⟩ := hrel
    have HI := Lib.hid hI
    have HA := Lib.hid hA
    have BR := Lib.hid hB
    clear hI hA hB
    by_cases q0 : i < n0 ∧ i < 60
    · obtain ⟨t1, t2⟩ := q0
      have u1 : (i : Int) < (n0 : Int) := by omega
      have u2 : (i : Int) < 60 := by omega
      obtain ⟨bb, off, rfl, hbb, hcc⟩ := HX.out.at_ (by omega)
      have hcell : wr.cell? ⟨bb, off + i, none⟩ = some (.bool (bs.getD i false)) := by
        have hbel := BR.out
        rw [← HN.out] at hbel
        exact (hbel.cell (p := ⟨bb, off + i, none⟩) hbb).trans (hcc i t1)
      have HLT := Lib.hid (show i + 1 ≤ n0 ∧ i + 1 ≤ 60 ∧ i < 60 from ⟨t1, t2, t2⟩)
      obtain ⟨bv0, hbv⟩ : ∃ bv0, bv0 = bs.getD i false := ⟨_, rfl⟩
      rw [← hbv] at hcell
      have HS := Lib.hid (show gv + sk = x.nxt ∧ x.nxt ≤ x.res ∧ x.res ≤ 40 ∧ x.res < x.nxt + b from ⟨HA.out.sum, HA.out.below.1, HA.out.below.2, HA.out.few⟩)
      clear hcc hbb hi hi60 t1 t2 hbv
      cases bv0 with
      | true =>
        by_cases q : x.nxt < 40
        · have CT := Lib.hid (C4.out wr g s cc i gv sk x Z D F S R BR.out HI.out HA.out HLT.out.2.2 q)
          obtain ⟨tt, htt⟩ : ∃ tt, tt = gv + sk := ⟨_, rfl⟩
          rw [← htt] at CT
          have v1 : (gv : Int) + (sk : Int) = (tt : Int) := by omega
          have bt : tt ≤ 1000000 := by have := HS.out; omega
          obtain ⟨y1, y2⟩ := u64_small tt bt
          have W1 := Lib.hid (show IntKind.u64.wrap ((gv : Int) + 1) = ((gv + 1 : Nat) : Int) from (u64_small (gv + 1) (by have := HS.out; omega)).1)
          clear htt bt q
          go_wp2_with (first
            | (go_at_call 13; ((with_reducible refine CT.out.mono ?_); rintro e w5 ⟨F5, S5, R5, x5, Z5, D5, rfl, l5, a5, b5⟩; have L5 := Lib.hid l5; have A5 := Lib.hid a5; have B5 := Lib.hid b5; clear l5 a5 b5)))
          go_roundw
          case rel => exact ⟨i + 1, gv + 1, sk, s, cc, x5, Z5, D5, F5, S5, R5, HLT.out.1, HLT.out.2.1, rfl, rfl, by rw [W1.out], rfl, by go_num, L5.out, A5.out, B5.out⟩
          case measure => have := HLT.out; simp [intOf]; omega
        · have CT := Lib.hid (C5.out wr g s cc i gv sk x Z D F S R BR.out HI.out HA.out HLT.out.2.2 (by omega))
          have v1 : (gv : Int) + (sk : Int) = 40 := by have := (HA.out.out (by omega)).2.2; omega
          clear q
          go_wp2_with (first
            | (go_at_call 13; ((with_reducible refine CT.out.mono ?_); rintro e w5 ⟨rfl, b5⟩; have B5 := Lib.hid b5; clear b5)))
          go_ret
          rw [HN.out]
          exact ⟨by first | rfl | simp, B5.out⟩
      | false =>
        have hD := HA.out.at_.fine.ok.fits
        have h16 : 16 ≤ D.sure.length := by rw [HA.out.at_.first, HA.out.at_.n] at hD; omega
        obtain ⟨nx, hnx⟩ : ∃ nx, nx = x.nxt := ⟨_, rfl⟩
        obtain ⟨rs, hrs⟩ : ∃ rs, rs = x.res := ⟨_, rfl⟩
        obtain ⟨df, hdf⟩ : ∃ df, df = rs - nx := ⟨_, rfl⟩
        obtain ⟨sr, hsr⟩ : ∃ sr, sr = sk + rs := ⟨_, rfl⟩
        obtain ⟨s9, hs9⟩ : ∃ s9, s9 = sk + rs - nx := ⟨_, rfl⟩
        have hs := HS.out
        rw [← hnx, ← hrs] at hs
        have v1 : (rs : Int) - (nx : Int) = (df : Int) := by omega
        have v2 : (sk : Int) + (rs : Int) = (sr : Int) := by omega
        have v3 : (sr : Int) - (nx : Int) = (s9 : Int) := by omega
        have v4 : ¬ (rs : Int) < (nx : Int) := by omega
        have v5 : ¬ (b : Int) ≤ (df : Int) := by omega
        have v4' : decide ((rs : Int) < (nx : Int)) = false := decide_eq_false v4
        have v5' : decide ((b : Int) ≤ (df : Int)) = false := decide_eq_false v5
        have v4'' : decide (rs < nx) = false := decide_eq_false (by omega)
        have v5'' : decide (b ≤ df) = false := decide_eq_false (by omega)
        have bd : df ≤ 1000000 := by omega
        have bsr : sr ≤ 1000000 := by omega
        have bs9 : s9 ≤ 1000000 := by omega
        obtain ⟨y1, y2⟩ := u64_small df bd
        obtain ⟨y3, y4⟩ := u64_small sr bsr
        obtain ⟨y5, y6⟩ := u64_small s9 bs9
        have C6X := Lib.hid (show ∀ X s' cc' F' S' R', Below N w X → Lv M C K N X g s' cc' { x with nxt := x.res } [] Z { D with cnt := 0 } F' S' R' → Calls Tryz.prog 25 #[.pointer (some ⟨cc', 0, none⟩)] X fun e w' =>
            e = .returned (.agg #[.int .u64 40, .int .u64 (b : Int), .int .u64 (rs : Int), .int .u64 (rs : Int), .bool false]) ∧ Lv M C K N w' g s' cc' { x with nxt := x.res } [] Z { D with cnt := 0 } F' S' R' ∧ Below N w w' from fun X s' cc' F' S' R' hX hL => by
          have h := C6.out X g s' cc' (i + 1) gv (sk + x.res - x.nxt) { x with nxt := x.res } Z { D with cnt := 0 } F' S' R' hX hL (HA.out.lose.2.2 aZ0 rfl rfl).2.2.2.2
          rw [hrs]
          exact h)
        have C60 := Lib.hid (C6.out wr g s cc i gv sk x Z D F S R BR.out HI.out HA.out)
        rw [← hnx, ← hrs] at C60
        have C8X := Lib.hid (show ∀ X s' F' S', Below N w X → Lz M C N X g s' { D with cnt := 0 } aZ0 F' S' → Calls Tryz.prog 21 #[.pointer (some ⟨s', 0, none⟩)] X fun e w' =>
            ∃ cc F' S' R, e = .returned (.tuple #[.pointer (some ⟨cc, 0, none⟩), .int .i64 0]) ∧ Lv M C K N w' g s' cc { x with nxt := x.res } [] Z { D with cnt := 0 } F' S' R ∧ Lo b (i + 1) gv s9 { x with nxt := x.res } Z { D with cnt := 0 } ∧ Below N w w' from fun X s' F' S' hX hL => by
          rw [hs9, hnx, hrs]
          exact C8.out X g s' i gv sk x Z D F' S' hX hL HA.out)
        have H16 := Lib.hid h16
        have fd3 := cn_fd3
        clear hD h16 hnx hrs hdf hsr hs9 hs bd bsr bs9
        go_wp2_with (first
          | (go_at_call 25; ((with_reducible refine C60.out.mono ?_); rintro e w5 ⟨rfl, l5, b5⟩; have L5 := Lib.hid l5; have B5 := Lib.hid b5; clear l5 b5))
          | (go_at_call 19; ((with_reducible refine (C7.out w5 g s cc i gv sk x Z D F S R B5.out L5.out HA.out).mono ?_); rintro e w6 ⟨rfl, F6, i6, b6⟩; have I6 := Lib.hid i6; have B6 := Lib.hid b6; clear i6 b6))
          | (go_at_call 8; ((with_reducible refine (C2.out w6 g { D with cnt := 0 } F6 B6.out I6.out H16.out).mono ?_); rintro e w7 ⟨s7, F7, S7, rfl, i7, b7⟩; have I7 := Lib.hid i7; have B7 := Lib.hid b7; clear i7 b7))
          | (go_at_call 21; ((with_reducible refine (C8X.out w7 s7 F7 S7 B7.out I7.out).mono ?_); rintro e w8 ⟨c8, F8, S8, R8, rfl, l8, a8, b8⟩; have L8 := Lib.hid l8; have A8 := Lib.hid a8; have B8 := Lib.hid b8; clear l8 a8 b8))
          | (go_at_call 25; ((with_reducible refine (C6X.out w8 s7 c8 F8 S8 R8 B8.out L8.out).mono ?_); rintro e w9 ⟨rfl, l9, b9⟩; have L9 := Lib.hid l9; have B9 := Lib.hid b9; clear l9 b9))
          | (go_at_call 25; ((with_reducible refine (C6X.out w9 s7 c8 F8 S8 R8 B9.out L9.out).mono ?_); rintro e w10 ⟨rfl, l10, b10⟩; have L10 := Lib.hid l10; have B10 := Lib.hid b10; clear l10 b10))
          | (go_at_call 25; ((with_reducible refine (C6X.out w10 s7 c8 F8 S8 R8 B10.out L10.out).mono ?_); rintro e w11 ⟨rfl, l11, b11⟩; have L11 := Lib.hid l11; have B11 := Lib.hid b11; clear l11 b11)))
        go_roundw
        case rel => exact ⟨i + 1, gv, s9, s7, c8, _, _, _, F8, S8, R8, HLT.out.1, HLT.out.2.1, rfl, rfl, rfl, rfl, by go_num, L11.out, A8.out, B11.out⟩
        case measure => have := HLT.out; simp [intOf]; omega
    · have t0 : decide ((i : Int) < (n0 : Int)) = true → decide ((i : Int) < 60) = false := fun h => by simp at h ⊢; omega
      by_cases h1 : i < n0
      · have u1 : (i : Int) < (n0 : Int) := by omega
        have u2 : ¬ (i : Int) < 60 := by omega
        clear t0 q0
        go_wp2_with (fail)
        go_ret
        rw [HN.out]
        exact ⟨rfl, BR.out⟩
      · have u1 : ¬ (i : Int) < (n0 : Int) := by omega
        clear t0 q0
        go_wp2_with (fail)
        go_ret
        rw [HN.out]
        exact ⟨rfl, BR.out⟩
end Go.Proofs.YtnoflgkjdibblaaGreatDoor.S21

/-
  How the steps of layer 20's statements read, which came in. No statement is proved here.
-/
namespace Go.Proofs.YtnoflgkjdibblaaGreatDoor.S20
set_option linter.unusedSimpArgs false
set_option linter.unusedVariables false
set_option maxRecDepth 4096
open Go.ChangeShapes Go.WideShapes Go.ChangeAt Go.RowKit Go.Joins S19

/-- A step, as it came in. -/
structure AcW where
  kd : Int
  ii : Int
  ba : Option Addr
  bn : Nat
  bc : Nat
  b : List UInt8
  ca : Option Addr
  cn : Nat
  cc : Nat
  ch : List UInt8
  fa : Option Addr
  fn : Nat
  fc : Nat
  fs : List Int
  st : Int
instance : Inhabited AcW := ⟨⟨0, 0, none, 0, 0, [], none, 0, 0, [], none, 0, 0, [], 0⟩⟩
def AcW.cells (a : AcW) : List Value := [.int .i64 a.kd, .int .i64 a.ii, .slice a.ba a.bn a.bc, .slice a.ca a.cn a.cc, .slice a.fa a.fn a.fc, .int .i64 a.st]
structure AcW.Ok (W : World) (a : AcW) : Prop where
  b : Rd W a.ba a.bn a.bc a.b
  ch : Rd W a.ca a.cn a.cc a.ch
  fs : RI W .i64 a.fa a.fn a.fc a.fs
  hi : -9223372036854775808 ≤ a.ii ∧ a.ii < 9223372036854775808
/-- A row of steps. -/
structure RW (W : World) (A : Option Addr) (n c : Nat) (xs : List AcW) : Prop where
  len : xs.length = n
  cap : n ≤ c
  max : c ≤ maxLen
  nil : A = none → c = 0
  at_ : 0 < n → ∃ b off, A = some ⟨b, off, none⟩ ∧ b < W.heap.size ∧ ∀ j, j < n → (xs.getD j default).Ok W ∧ ∀ q, q < 6 → W.cell? ⟨b, off + j * 6 + q, none⟩ = (xs.getD j default).cells[q]?
theorem trod_struct5' {H : Type} {enc : TypeId × Value → H} {P : Program} {w : World} {base : Nat} {spare : Nat → Bool} {held : Bool} {t : TypeId} {f0 f1 f2 f3 f4 : Field} {fuel : Nat} {cs : List Value} {x : DataW H × List MemPlace} (ht : P.underlying t = some (.struct #[f0, f1, f2, f3, f4])) (h : DataW.trod enc P w base spare held fuel t cs = some x) :
    ∃ y0 y1 y2 y3 y4 n, cs.length = P.cellsOf t ∧ DataW.trod enc P w base spare held n f0.type ((cs.drop f0.offset).take (P.cellsOf f0.type)) = some y0 ∧
      DataW.trod enc P w base spare held n f1.type ((cs.drop f1.offset).take (P.cellsOf f1.type)) = some y1 ∧ DataW.trod enc P w base spare held n f2.type ((cs.drop f2.offset).take (P.cellsOf f2.type)) = some y2 ∧
      DataW.trod enc P w base spare held n f3.type ((cs.drop f3.offset).take (P.cellsOf f3.type)) = some y3 ∧ DataW.trod enc P w base spare held n f4.type ((cs.drop f4.offset).take (P.cellsOf f4.type)) = some y4 := by
  obtain ⟨xs, n, _, rfl, hl, hlen, hf⟩ := DataW.trod_struct ht h
  match xs, hlen with
  | [y0, y1, y2, y3, y4], _ => exact ⟨y0, y1, y2, y3, y4, n, hl, by simpa using hf 0 f0 rfl, by simpa using hf 1 f1 rfl, by simpa using hf 2 f2 rfl, by simpa using hf 3 f3 rfl, by simpa using hf 4 f4 rfl⟩
end Go.Proofs.YtnoflgkjdibblaaGreatDoor.S20

/-
  How the arguments of layer 21's statements read, which came in: a counter, two rows. No statement is proved here.
-/
namespace Go.Proofs.YtnoflgkjdibblaaGreatDoor.S21
set_option linter.unusedSimpArgs false
set_option linter.unusedVariables false
set_option maxRecDepth 4096
open Go.ChangeShapes Go.WideShapes Go.ChangeAt Go.RowKit Go.Joins S19 S20

theorem bounds_u64' {n : Int} (h : (Lit.int .u64 n).wf = true) : 0 ≤ n ∧ n ≤ 18446744073709551615 := by
  simpa [Lit.wf, IntKind.min, IntKind.max, IntKind.signed, IntKind.bits] using h
theorem u64_of_trod {H : Type} {enc : TypeId × Value → H} {W : World} {n : Nat} {c : Value} {y : DataW H × List MemPlace} (h : DataW.trod enc Tryz.prog W 0 (fun _ => true) true n 22 [c] = some y) : ∃ k : Nat, c = .int .u64 (k : Int) ∧ k < 18446744073709551616 := by
  obtain ⟨a, e, _, wa⟩ := DataW.trod_int Tryz.underlying22 h
  simp at e
  subst e
  have := bounds_u64' wa
  exact ⟨a.toNat, by congr 1; omega, by omega⟩
theorem cn_of_trod {H : Type} {enc : TypeId × Value → H} {W : World} {n : Nat} {cs : List Value} {y : DataW H × List MemPlace} (h : DataW.trod enc Tryz.prog W 0 (fun _ => true) true n 46 cs = some y) : ∃ x : Cn, cs = x.cells.toList ∧ x.Fit := by
  obtain ⟨y0, y1, y2, y3, y4, m, hl, h0, h1, h2, h3, h4⟩ := trod_struct5' Tryz.underlying46 h
  have e5 : Tryz.prog.cellsOf 46 = 5 := by kernel_rfl
  have eu : Tryz.prog.cellsOf 22 = 1 := by kernel_rfl
  have eb : Tryz.prog.cellsOf 4 = 1 := by kernel_rfl
  rw [e5] at hl
  match cs, hl with
  | [c0, c1, c2, c3, c4], _ =>
    have k0 : DataW.trod enc Tryz.prog W 0 (fun _ => true) true m 22 [c0] = some y0 := by simpa [eu] using h0
    have k1 : DataW.trod enc Tryz.prog W 0 (fun _ => true) true m 22 [c1] = some y1 := by simpa [eu] using h1
    have k2 : DataW.trod enc Tryz.prog W 0 (fun _ => true) true m 22 [c2] = some y2 := by simpa [eu] using h2
    have k3 : DataW.trod enc Tryz.prog W 0 (fun _ => true) true m 22 [c3] = some y3 := by simpa [eu] using h3
    have k4 : DataW.trod enc Tryz.prog W 0 (fun _ => true) true m 4 [c4] = some y4 := by simpa [eb] using h4
    obtain ⟨v0, rfl, l0⟩ := u64_of_trod k0
    obtain ⟨v1, rfl, l1⟩ := u64_of_trod k1
    obtain ⟨v2, rfl, l2⟩ := u64_of_trod k2
    obtain ⟨v3, rfl, l3⟩ := u64_of_trod k3
    obtain ⟨v4, e4, _⟩ := DataW.trod_bool Tryz.underlying4 k4
    simp at e4
    subst e4
    exact ⟨⟨v0, v1, v2, v3, v4⟩, rfl, l0, l1, l2, l3⟩
/-- A counter that came in. -/
theorem open_cn {H : Type} {enc : TypeId × Value → H} {W : World} {v : Value} {d : DataW H} {p : List MemPlace} {base : Nat}
    (hv : Value.okWide Tryz.prog W .any base 46 v) (h : DataW.Trod enc Tryz.prog W 0 (fun _ => true) true 46 v d p) : ∃ x : Cn, v = .agg x.cells ∧ x.Fit := by
  obtain ⟨cs, rfl, hs⟩ := okWide_struct Tryz.underlying46 hv
  obtain ⟨fuel, hf⟩ := h
  obtain ⟨x, e, fx⟩ := cn_of_trod hf
  have hcs : ((Value.agg cs).cells).toList = cs.toList := rfl
  rw [hcs] at e
  exact ⟨x, by rw [Array.toList_inj.1 e], fx⟩
/-- Two rows that came in. -/
theorem open_two {H : Type} {enc : TypeId × Value → H} {W : World} {v : Value} {d : DataW H} {p : List MemPlace} {base : Nat}
    (hv : Value.okWide Tryz.prog W .any base 115 v) (h : DataW.Trod enc Tryz.prog W 0 (fun _ => true) true 115 v d p) :
    ∃ y : (Option Addr × Nat × Nat × List UInt8) × (Option Addr × Nat × Nat × List UInt8), v = .agg #[.slice y.1.1 y.1.2.1 y.1.2.2.1, .slice y.2.1 y.2.2.1 y.2.2.2.1] ∧ Rd W y.1.1 y.1.2.1 y.1.2.2.1 y.1.2.2.2 ∧ Rd W y.2.1 y.2.2.1 y.2.2.2.1 y.2.2.2.2 := by
  obtain ⟨cs, rfl, hs⟩ := okWide_array Tryz.underlying115 hv
  obtain ⟨fuel, hf⟩ := h
  obtain ⟨xs, m, _, _, hl, hxl, hall⟩ := DataW.trod_array Tryz.underlying115 hf
  have hcs : ((Value.agg cs).cells).toList = cs.toList := rfl
  rw [hcs] at hl hall
  have e1 : Tryz.prog.cellsOf 23 = 1 := by kernel_rfl
  have e2 : Tryz.prog.cellsOf 115 = 2 := by kernel_rfl
  rw [e2] at hl
  obtain ⟨l, hl2⟩ : ∃ l, l = cs.toList := ⟨_, rfl⟩
  rw [← hl2] at hl hall
  match l, hl with
  | [c0, c1], _ =>
    have h0 := hall 0 (by omega)
    have h1 := hall 1 (by omega)
    rw [e1] at h0 h1
    rw [List.getElem?_eq_getElem (by omega)] at h0 h1
    obtain ⟨v0, rfl, r0⟩ := row_of_trod (by simpa using h0)
    obtain ⟨v1, rfl, r1⟩ := row_of_trod (by simpa using h1)
    exact ⟨(v0, v1), by rw [show cs = #[.slice v0.1 v0.2.1 v0.2.2.1, .slice v1.1 v1.2.1 v1.2.2.1] from Array.toList_inj.1 hl2.symm], r0, r1⟩
end Go.Proofs.YtnoflgkjdibblaaGreatDoor.S21

/-
  How a row of bools reads, which came in. No statement is proved here.
-/
namespace Go.Proofs.YtnoflgkjdibblaaGreatDoor.S21
set_option linter.unusedSimpArgs false
set_option linter.unusedVariables false
set_option maxRecDepth 4096
open Go.ChangeShapes Go.WideShapes Go.ChangeAt Go.RowKit Go.Joins S19 S20

/-- A row of bools that came in. -/
theorem open_bools {H : Type} {enc : TypeId × Value → H} {W : World} {v : Value} {d : DataW H} {p : List MemPlace} {base : Nat}
    (hv : Value.okWide Tryz.prog W .any base 72 v) (h : DataW.Trod enc Tryz.prog W 0 (fun _ => true) true 72 v d p) :
    ∃ y : Option Addr × Nat × Nat × List Bool, v = .slice y.1 y.2.1 y.2.2.1 ∧ Rb W y.1 y.2.1 y.2.2.1 y.2.2.2 ∧ y.2.1 ≤ 9223372036854775807 := by
  obtain ⟨A, len, cap, rfl⟩ := okWide_slice Tryz.underlying72 hv
  obtain ⟨fuel, hf⟩ := h
  rcases Go.Deep.open_slice Tryz.underlying72 hf with ⟨hcs, _⟩ | ⟨a, l, c, m, n, D, Pl, hcs, _, hl, hm, hmm, _, hx⟩
  · simp [Value.cells] at hcs
    obtain ⟨rfl, rfl, rfl⟩ := hcs
    exact ⟨(none, 0, 0, []), rfl, ⟨rfl, fun h => absurd h (by simp)⟩, by simp⟩
  · simp [Value.cells] at hcs
    obtain ⟨rfl, rfl, rfl⟩ := hcs
    have hmc : m = cap := by simpa using hmm
    subst hmc
    have h1c : Tryz.prog.cellsOf 4 = 1 := by kernel_rfl
    rw [h1c] at hx
    obtain ⟨X, hX⟩ := Go.Deep.choose_lt (α := Bool) (p := fun i y => W.cell? ((a.add (i * 1)).add 0) = some (.bool y)) (fun i hi => by
      obtain ⟨cs', hc, ht⟩ := hx i hi
      obtain ⟨_, hlen, hat⟩ := World.cells?_some hc
      obtain ⟨b, e, _⟩ := DataW.trod_bool Tryz.underlying4 ht
      refine ⟨b, ?_⟩
      have := hat 0 (by omega)
      rw [e] at this
      exact this)
    have hlm : len ≤ 9223372036854775807 := Nat.le_trans hl (Nat.le_trans hm (by decide))
    refine ⟨(some a, len, m, (List.range len).map X), rfl, ⟨by simp, fun hn => ?_⟩, hlm⟩
    have hn' : 0 < len := hn
    obtain ⟨b, off, spot⟩ := a
    have h0 := hX 0 (by omega)
    rw [Go.Deep.add_add] at h0
    have hspot : spot = none := by simpa [Addr.add] using World.cell?_spot h0
    subst hspot
    refine ⟨b, off, rfl, World.block_lt_of_cell? W _ h0, fun j hj => ?_⟩
    have hj' : j < len := hj
    have e : ((List.range len).map X).getD j false = X j := by simp [List.getD, hj']
    rw [e]
    have h1 := hX j (by omega)
    rw [Go.Deep.add_add, Go.WideShapes.add_plain] at h1
    simpa using h1
end Go.Proofs.YtnoflgkjdibblaaGreatDoor.S21
