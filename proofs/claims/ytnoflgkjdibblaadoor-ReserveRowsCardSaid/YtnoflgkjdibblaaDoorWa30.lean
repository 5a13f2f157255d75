/-
  Texts put together: RvF, RvG, RvWHeads, RvWRows. No statement is proved here.
-/
import Derived.Test.YtnoflgkjdibblaaDoorWa29
import Derived.Test.YtnoflgkjdibblaaDoorWa09
import Derived.Test.YtnoflgkjdibblaaDoorWa21
import Derived.Test.YtnoflgkjdibblaaDoorWa14
import Derived.Test.YtnoflgkjdibblaaDoorWa12
import Derived.Test.YtnoflgkjdibblaaDoorWa15

/-
  The walk of layer 21's fourth statement (ReserveLoss), over the contracts. No statement is proved here.
-/
namespace Go.Proofs.YtnoflgkjdibblaaDoor.S21
set_option linter.unusedSimpArgs false
set_option linter.unusedVariables false
set_option maxRecDepth 8192
open Go.RowKit S19 S20

/-- A row of truth values. -/
structure Rb (w : World) (A : Option Addr) (n c : Nat) (bs : List Bool) : Prop where
  len : bs.length = n
  at_ : 0 < n → ∃ b off, A = some ⟨b, off, none⟩ ∧ b < w.heap.size ∧ ∀ j, j < n → w.cell? ⟨b, off + j, none⟩ = some (.bool (bs.getD j false))
theorem loss_nums (a : Nat) (ha : a < 256) : ∃ p b : Nat, (a : Int).tmod 9 = (p : Int) ∧ (a : Int) % 9 = (p : Int) ∧ (1 : Int) + (p : Int) = (b : Int) ∧ 1 ≤ b ∧ b ≤ 9 ∧ p ≤ 9 :=
  ⟨a % 9, 1 + a % 9, by rw [Int.tmod_eq_emod_of_nonneg (by omega)]; rfl, rfl, by omega, by omega, by omega, by omega⟩
theorem u64_sub {m k d : Nat} (h : m = k + d) (hm : m ≤ 1000000) : (m : Int) - (k : Int) = (d : Int) ∧ d ≤ 1000000 := by omega
end Go.Proofs.YtnoflgkjdibblaaDoor.S21

/-
  The walk of layer 21's fifth statement (ReserveHeads), over the contracts. No statement is proved here.
-/
namespace Go.Proofs.YtnoflgkjdibblaaDoor.S21
set_option linter.unusedSimpArgs false
set_option linter.unusedVariables false
set_option maxRecDepth 8192
open Go.RowKit S19 S20

theorem own_some {w : World} {B e n : Nat} {A : Option Addr} {c : Nat} {xs : List Value} (h : w.ownsRow B e 1 (.slice A n c) n xs) (hn : 0 < n) : ∃ g, A = some ⟨g, 0, none⟩ ∧ B ≤ g := by
  rcases h.2 with ⟨hv, h0⟩ | ⟨g, cap, cur, hv, hB, hh, hnc, hcm, _, htake⟩
  · omega
  · injection hv with h1 h2 h3
    exact ⟨g, h1, hB⟩
/-- One byte of a row of one's own is raised. -/
theorem bump {w : World} {B n g c : Nat} {xs : List UInt8} (h : w.ownsRow B 5 1 (.slice (some ⟨g, 0, none⟩) n c) n (bv xs)) {j : Nat} (hj : j < n) : ∃ v u : UInt8, w.cell? ⟨g, j, none⟩ = some (.int .u8 (v.toNat : Int)) ∧ w.frozen? ⟨g, j, none⟩ = false ∧ IntKind.u8.wrap ((v.toNat : Int) + 1) = (u.toNat : Int) ∧ ((v.toNat : Int) + 1) % 256 = (u.toNat : Int) ∧
    (w.setCell ⟨g, j, none⟩ (.int .u8 (u.toNat : Int))).ownsRow B 5 1 (.slice (some ⟨g, 0, none⟩) n c) n (bv (xs.set j u)) := by
  have hl : xs.length = n := by have := h.1; simp [bv_length] at this; exact this
  have hc := h.cellAt j (by omega)
  have hf := h.frozenAt j
  have hs := (h.stored j (.int .u8 ((xs[j]'(by omega) + 1).toNat : Int))).1
  rw [bv_at xs j (by omega)] at hc
  rw [bv_set] at hs
  have e : ((xs[j]'(by omega)).toNat : Int) + 1 = (((xs[j]'(by omega)).toNat + 1 : Nat) : Int) := rfl
  have e3 : (((xs[j]'(by omega)).toNat : Int) + 1) % 256 = ((xs[j]'(by omega) + 1).toNat : Int) := by
    rw [UInt8.toNat_add]
    simp
  refine ⟨xs[j]'(by omega), xs[j]'(by omega) + 1, hc, hf, ?_, e3, hs⟩
  rw [IntKind.wrap_u8]
  exact e3
theorem heads_nums (a : Nat) (ha : a < 256) : ∃ p : Nat, (a : Int).tmod 20 = (p : Int) ∧ (a : Int) % 20 = (p : Int) ∧ p < 20 :=
  ⟨a % 20, by rw [Int.tmod_eq_emod_of_nonneg (by omega)]; rfl, rfl, by omega⟩
set_option maxHeartbeats 16000000 in
theorem reserveHeads_walk (M : DC) (C : SlC M) (K : RvC M C) (w : World) (hk : K.ok w) (A0 : Option Addr) (n0 c0 : Nat) (xs : List UInt8) (hx : Rd w A0 n0 c0 xs) (a : Nat) (ha : a < 256) :
    Calls Tryd.prog 5 #[.slice A0 n0 c0, .int .u8 (a : Int)] w fun e w' => e = .returned (.bool true) ∧ Below w.heap.size w w' := by
  obtain ⟨N, hN⟩ : ∃ N, w.heap.size = N := ⟨_, rfl⟩
  have HN := Lib.hid hN
  have OKN := Lib.hid (show ∀ X, Below N w X → K.ok X from fun X hX => K.bel hk (by rw [hN]; exact hX))
  have SZ := Lib.hid (show ∀ X, Below N w X → N ≤ X.heap.size from fun X hX => by have := hX.size; omega)
  have CA := Lib.hid (show Calls Tryd.prog 7 #[] w fun e w' => e = .returned (.bool true) ∧ Below N w w' from (awake21_any M C K w hk).mono fun e w' h => by rw [← hN]; exact h)
  by_cases hlong : 200 < n0
  · have t0 : (200 : Int) < (n0 : Int) := by omega
    clear hx hk
    go_enter Tryd.func5, Tryd.ntmps5
    go_wp2_with (first
      | (go_at_call 7; ((with_reducible refine CA.out.mono ?_); rintro e w1 ⟨rfl, b1⟩; have B1 := Lib.hid b1; clear b1)))
    go_ret
    rw [HN.out]
    exact ⟨rfl, B1.out⟩
  have t0 : ¬ (200 : Int) < (n0 : Int) := by omega
  obtain ⟨p, p1, p2, p3⟩ := heads_nums a ha
  have hxl := hx.len
  obtain ⟨ZZ, DD, e1, e2, e3, e4⟩ := Hd.start (h := xs) (by omega)
  have HXA := Lib.hid (show ∀ X, Below N w X → Rd X A0 n0 c0 xs from fun X hX => hx.below (by rw [hN]; exact hX))
  have C1 := Lib.hid (show ∀ X, Below N w X → Calls Tryd.prog 13 #[.int .i64 16] X fun e w' => ∃ g F, e = .returned (.tuple #[.pointer (some ⟨g, 0, none⟩), .int .i64 0]) ∧ M.Is N w' g aD0 F ∧ Below N w w' from fun X hX => (made_disk M C K X (OKN.out X hX) (SZ.out X hX)).mono fun e w' ⟨g, F, h1, h2, h3⟩ => ⟨g, F, h1, h2, hX.trans h3⟩)
  have C2 := Lib.hid (show ∀ X g F, Below N w X → M.Is N X g aD0 F → Calls Tryd.prog 14 #[.pointer (some ⟨g, 0, none⟩), .int .i64 0, .int .i64 8] X fun e w' => ∃ s F' S', e = .returned (.tuple #[.pointer (some ⟨s, 0, none⟩), .int .i64 0]) ∧ Lz M C N w' g s aD0 aZ0 F' S' ∧ Below N w w' from fun X g F hX hI => (made_slots K (OKN.out X hX) hI (Nat.le_refl 16)).mono fun e w' ⟨s, F', S', h1, h2, h3, h4⟩ => ⟨s, F', S', h1, h2, hX.trans h4.bel⟩)
  have C3 := Lib.hid (show ∀ B X g s F S A c, Below N w X → N ≤ B → Lz M C N X g s aD0 aZ0 F S → (∀ b, Or2 F S b → b < B) → X.ownsRow B 5 1 (.slice A n0 c) n0 (bv xs) → Calls Tryd.prog 15 #[.pointer (some ⟨s, 0, none⟩), .slice A n0 c, .int .u64 100, .int .u64 3] X fun e w' => ∃ cc F' S' R, e = .returned (.tuple #[.pointer (some ⟨cc, 0, none⟩), .int .i64 0]) ∧ Lv M C K N w' g s cc (Cn.fresh 100 3) xs ZZ DD F' S' R ∧ w'.ownsRow B 5 1 (.slice A n0 c) n0 (bv xs) ∧ (∀ b, (Value.slice A n0 c).ownBlock = some b → ¬ Or3 F' S' R b) ∧ Below N w w' from fun B X g s F S A c hX hB hL hFS hO =>
    (made_cn K (tot := 100) (bat := 3) (fun Y hY => OKN.out Y (hX.trans hY)) hL (Rd.own hO) (fun a h1 h2 h3 => by have := hFS _ h3; have := (hO.lt a.block (by rw [h2]; rfl)).1; omega) (by omega) (by omega) (by omega) e1).mono fun e w' ⟨cc, F', S', R, h1, h2, h3, h4⟩ => by
      rw [e2, e3] at h2
      refine ⟨cc, F', S', R, h1, h2, own_keepH hO fun b hb hlt => h4.same b hlt fun h5 => ?_, fun b hb h5 => ?_, hX.trans h4.bel⟩
      · have := hFS _ h5; have := (hO.lt b hb).1; omega
      · have h7 := hO.lt b hb
        rcases h3 b h5 with h6 | h6
        · have := hFS _ h6; omega
        · omega)
  have C4 := Lib.hid (show ∀ X g s cc i x Z D F S R, Below N w X → Lv M C K N X g s cc x xs Z D F S R → Hd i xs x Z D → i < 20 → Calls Tryd.prog 16 #[.pointer (some ⟨cc, 0, none⟩)] X fun e w' =>
      ∃ F' S' R' x' Z' D', e = .returned (.tuple #[.int .u64 (i : Int), .int .i64 0]) ∧ Lv M C K N w' g s cc x' xs Z' D' F' S' R' ∧ Hd (i + 1) xs x' Z' D' ∧ Below N w w' from fun X g s cc i x Z D F S R hX hL hA hi => by
    obtain ⟨Z', D', x', t1, t2, t3, t4, t5, t6⟩ := hA.step hi
    refine (hL.take (OKN.out X hX) hA.at_.ok (by have := hA.cnt; omega)).mono fun e w' ⟨F', S', R', h1, h2, h3, h4⟩ => ?_
    rw [t1, t2] at h1
    rw [t3, t4, t5] at h2
    exact ⟨F', S', R', x', Z', D', h1, h2, t6, hX.trans h4.bel⟩)
  have C5 := Lib.hid (show ∀ X g s cc x Z D F S R, Below N w X → Lv M C K N X g s cc x xs Z D F S R → Calls Tryd.prog 20 #[.pointer (some ⟨cc, 0, none⟩)] X fun e w' => ∃ A c, e = .returned (.slice A n0 c) ∧ w'.ownsRow X.heap.size 5 1 (.slice A n0 c) n0 (bv xs) ∧ Lv M C K N w' g s cc x xs Z D F S R ∧ (∀ b, (Value.slice A n0 c).ownBlock = some b → ¬ Or3 F S R b) ∧ Below N w w' from fun X g s cc x Z D F S R hX hL => (hL.head (OKN.out X hX)).mono fun e w' ⟨A, c, h1, h2, h3, h4⟩ => by
    rw [hxl] at h1 h2
    exact ⟨A, c, h1, h2, h3, fun b hb h5 => by have := (h2.lt b hb).1; have := (hL.lt b h5).2; omega, hX.trans (h4.mono (SZ.out X hX))⟩)
  have CS := Lib.hid (show ∀ X A c, Below N w X → Rd X A n0 c xs → Calls Tryd.prog 12 #[.slice A n0 c, .slice A0 n0 c0] X fun e w' => e = .returned (.bool true) ∧ Below X.heap.size X w' from fun X A c hX hR => (rsame_any A A0 n0 c n0 c0 xs xs X hR (HXA.out X hX)).mono fun e w' ⟨h1, q, h2⟩ => ⟨by rw [h1, sameB_refl], by rw [h2]; exact ⟨rfl, rfl, rfl, Nat.le_refl _, fun _ _ => rfl⟩⟩)
  have C8 := Lib.hid (show ∀ X g s cc i x Z D F S R, Below N w X → Lv M C K N X g s cc x xs Z D F S R → Hd i xs x Z D → Calls Tryd.prog 21 #[.pointer (some ⟨s, 0, none⟩)] X fun e w' =>
      ∃ cc R y, e = .returned (.tuple #[.pointer (some ⟨cc, 0, none⟩), .int .i64 0]) ∧ K.Is N w' cc s y xs R ∧ y.tot = 100 ∧ Below N w w' from fun X g s cc i x Z D F S R hX hL hA => by
    obtain ⟨o1, o2, o3, o4⟩ := hA.opn Z hA.at_.first hA.at_.n
    refine (K.opn N X s g D Z F S (OKN.out X hX) hL.lz).mono ?_
    rintro e w' ⟨p, F', S', h1, h2, h3, h4, h5, h6⟩
    obtain ⟨c2, R2, rfl, i1, i2, i3⟩ := h3 o1
    rw [o1] at h1
    rw [o3] at i1
    exact ⟨c2, R2, _, h1, i1, o2, hX.trans h6.bel⟩)
  have C9 := Lib.hid (show ∀ X s cc y R, Below N w X → K.Is N X cc s y xs R → Calls Tryd.prog 20 #[.pointer (some ⟨cc, 0, none⟩)] X fun e w' => ∃ A c, e = .returned (.slice A n0 c) ∧ Rd w' A n0 c xs ∧ K.Is N w' cc s y xs R ∧ Below N w w' from fun X s cc y R hX hI => (K.head N X cc s y xs R (OKN.out X hX) hI).mono fun e w' ⟨A, c, h1, h2, h4⟩ => by
    rw [hxl] at h1 h2
    exact ⟨A, c, h1, Rd.own h2, K.keep hI h4.size fun b _ hl => h4.block b hl, hX.trans (h4.mono (SZ.out X hX))⟩)
  have C10 := Lib.hid (show ∀ X s cc y R, Below N w X → K.Is N X cc s y xs R → y.tot = 100 → Calls Tryd.prog 19 #[.pointer (some ⟨cc, 0, none⟩)] X fun e w' => e = .returned (.agg #[.int .u64 100, .int .u64 (y.bat : Int), .int .u64 (y.res : Int), .int .u64 (y.nxt : Int), .bool y.gone]) ∧ Below N w w' from fun X s cc y R hX hI ht => (K.state N X cc s y xs R (OKN.out X hX) hI).mono fun e w' ⟨h1, h4⟩ => ⟨by rw [h1, Cn.cells, ht]; rfl, hX.trans (h4.mono (SZ.out X hX))⟩)
  have AS := Lib.hid e4
  have NB := Lib.hid (show n0 ≤ 200 ∧ p < 20 from ⟨by omega, p3⟩)
  clear hk e1 e2 e3 e4 hN hx hxl hlong
  go_enter Tryd.func5, Tryd.ntmps5
  go_upto_region 11 with (first
    | (go_at_call 7; ((with_reducible refine CA.out.mono ?_); rintro e w1 ⟨rfl, b1⟩; have B1 := Lib.hid b1; clear b1))
    | (go_at_call 13; ((with_reducible refine (C1.out w1 B1.out).mono ?_); rintro e w2 ⟨g, F2, rfl, i2, b2⟩; have I2 := Lib.hid i2; have B2 := Lib.hid b2; clear i2 b2))
    | (go_at_call 14; ((with_reducible refine (C2.out w2 g F2 B2.out I2.out).mono ?_); rintro e w3 ⟨s, F3, S3, rfl, i3, b3⟩; have I3 := Lib.hid i3; have B3 := Lib.hid b3; clear i3 b3)))
  have HB3 := Lib.hid (SZ.out _ B3.out)
  go_upto_region 12 with (at_builtin; refine append_rd rfl (.tmp 38) (.tmp 39) rfl w3.heap.size _ 0 [] rfl (World.ownsRow_lit (base := w3.heap.size) (e := 5) (size := 1) w3 #[] 0 (Nat.le_refl _) (by simp [maxLen]) rfl) A0 n0 c0 xs rfl ((HXA.out _ B3.out).alloc _) (by have := NB.out; omega) (by simp) ?_; intro v4 w4 o4 g4; obtain ⟨A4, c4, rfl⟩ := own_form o4; have O4 := Lib.hid (show w4.ownsRow w3.heap.size 5 1 (.slice A4 n0 c4) n0 (bv xs) from by simpa using o4); have B34 := Lib.hid (((Below.refl _ _).alloc (Nat.le_refl _) _).grown g4 (by simp) (fun k hk => Nat.le_of_eq (Option.some.inj hk))); clear o4 g4)
  have B4 := Lib.hid (show Below N w w4 from B3.out.trans (B34.out.mono HB3.out))
  have I4 := Lib.hid (I3.out.grow B34.out)
  have NW := Lib.hid (C3.out w3.heap.size w4 g s F3 S3 A4 c4 B4.out HB3.out I4.out (fun b hb => (I3.out.lt b hb).2) O4.out)
  obtain ⟨B, hB⟩ : ∃ B, B = w3.heap.size := ⟨_, rfl⟩
  rw [← hB] at NW HB3
  clear hB O4 I4
  go_upto_region 15 with (first
    | (go_at_call 15; ((with_reducible refine NW.out.mono ?_); rintro e w5 ⟨cc, F5, S5, R5, rfl, l5, o5, n5, b5⟩; have L5 := Lib.hid l5; have O5 := Lib.hid o5; have N5 := Lib.hid n5; have B5 := Lib.hid b5; clear l5 o5 n5 b5)))
  go_wp2_with (fail)
  go_loopw [12] (fun vi wr => ∃ (j : Nat) (ys : List UInt8), j ≤ n0 ∧ vi = .int .i64 (j : Int) ∧ wr.ownsRow B 5 1 (.slice A4 n0 c4) n0 (bv ys) ∧ Lv M C K N wr g s cc (Cn.fresh 100 3) xs ZZ DD F5 S5 R5 ∧ Below N w wr) (fun vi _ => n0 - (intOf vi).toNat)
  case atStart => exact ⟨0, xs, Nat.zero_le _, rfl, O5.out, L5.out, B5.out⟩
  case round =>
    obtain ⟨j, ys, hj, rfl, hO, hL, hBel⟩ := hrel
    have OR := Lib.hid hO
    have LR := Lib.hid hL
    have BR := Lib.hid hBel
    clear hO hL hBel
    by_cases hlt : j < n0
    · have u1 : (j : Int) < (n0 : Int) := by omega
      obtain ⟨g9, rfl, hg9⟩ := own_some OR.out (by omega)
      obtain ⟨bv1, bu1, k1, k2, k3, k4, k5⟩ := bump OR.out hlt
      have OX := Lib.hid k5
      have LX := Lib.hid (LR.out.keep (w' := wr.setCell ⟨g9, j, none⟩ (.int .u8 (bu1.toNat : Int))) (by simp) fun b hb _ => Below.heap_setCell wr ⟨g9, j, none⟩ _ b fun e => by
        rcases hb with h | h
        · have e2 : b = g9 := e
          have := HB3.out
          omega
        · exact N5.out g9 rfl (by rw [← show b = g9 from e]; exact h))
      have BX := Lib.hid (show Below N w (wr.setCell ⟨g9, j, none⟩ (.int .u8 (bu1.toNat : Int))) from BR.out.setCell (p := ⟨g9, j, none⟩) (Nat.le_trans HB3.out hg9) _)
      have HLT := Lib.hid (show j + 1 ≤ n0 ∧ n0 ≤ 200 from ⟨hlt, NB.out.1⟩)
      have WJ := Lib.hid (wrap_succ j (by have := NB.out; omega))
      clear k5 hlt hj hg9
      go_wp2_with (fail)
      go_roundw
      case rel => exact ⟨j + 1, _, HLT.out.1, by first | rw [WJ.out] | go_num, OX.out, LX.out, BX.out⟩
      case measure =>
        have h9 : n0 - (j + 1) < n0 - j := by have := HLT.out.1; omega
        first
          | exact meas_of WJ.out h9
          | (have h1 := HLT.out; simp [intOf]; omega)
    · have u1 : ¬ (j : Int) < (n0 : Int) := by omega
      clear hlt hj OR
      go_wp2_with (fail)
      go_loopw [13] (fun vi wq => ∃ i x Z D F S R, i ≤ p ∧ vi = .int .i64 ((i : Nat) : Int) ∧ Lv M C K N wq g s cc x xs Z D F S R ∧ Hd i xs x Z D ∧ Below N w wq) (fun vi _ => 20 - (intOf vi).toNat)
      case atStart => exact ⟨0, _, _, _, F5, S5, R5, Nat.zero_le _, rfl, LR.out, AS.out, BR.out⟩
      case round =>
        obtain ⟨i, x, Z, D, F, S, R, hi, rfl, hL, hA, hBel⟩ := hrel
        have LI := Lib.hid hL
        have HA := Lib.hid hA
        have BI := Lib.hid hBel
        clear hL hA hBel
        by_cases q : i < p
        · have u2 : (i : Int) < (p : Int) := by omega
          have CT := Lib.hid (C4.out wr g s cc i x Z D F S R BI.out LI.out HA.out (by have := NB.out; omega))
          have HLT := Lib.hid (show i + 1 ≤ p ∧ i < 20 from ⟨q, by have := NB.out; omega⟩)
          have WI := Lib.hid (wrap_succ i (by have := NB.out; omega))
          clear q hi
          go_upto_region 25 with (first
            | (go_at_call 16; ((with_reducible refine CT.out.mono ?_); rintro e w6 ⟨F6, S6, R6, x6, Z6, D6, rfl, l6, a6, b6⟩; have L6 := Lib.hid l6; have A6 := Lib.hid a6; have B6 := Lib.hid b6; clear l6 a6 b6))
            | (go_at_call 20; ((with_reducible refine (C5.out w6 g s cc x6 Z6 D6 F6 S6 R6 B6.out L6.out).mono ?_); rintro e w7 ⟨A7, c7, rfl, o7, l7, n7, b7⟩; have O7 := Lib.hid o7; have L7 := Lib.hid l7; have N7 := Lib.hid n7; have B7 := Lib.hid b7; clear o7 l7 n7 b7)))
          have H6 := Lib.hid (SZ.out _ B6.out)
          obtain ⟨BB, hBB⟩ : ∃ BB, BB = w6.heap.size := ⟨_, rfl⟩
          rw [← hBB] at O7 H6
          clear hBB
          go_loopw [17] (fun vk wk => ∃ (k : Nat) (ys : List UInt8), k ≤ n0 ∧ vk = .int .i64 (k : Int) ∧ wk.ownsRow BB 5 1 (.slice A7 n0 c7) n0 (bv ys) ∧ Lv M C K N wk g s cc x6 xs Z6 D6 F6 S6 R6 ∧ Below N w wk) (fun vk _ => n0 - (intOf vk).toNat)
          case atStart => exact ⟨0, xs, Nat.zero_le _, rfl, O7.out, L7.out, B7.out⟩
          case round =>
            obtain ⟨k, ys, hk9, rfl, hO, hL, hBel⟩ := hrel
            have OK9 := Lib.hid hO
            have LK := Lib.hid hL
            have BK := Lib.hid hBel
            clear hO hL hBel
            by_cases hlt : k < n0
            · have u3 : (k : Int) < (n0 : Int) := by omega
              obtain ⟨g9, rfl, hg9⟩ := own_some OK9.out (by omega)
              obtain ⟨bv1, bu1, k1, k2, k3, k4, k5⟩ := bump OK9.out hlt
              have OX := Lib.hid k5
              have LX := Lib.hid (LK.out.keep (w' := wr.setCell ⟨g9, k, none⟩ (.int .u8 (bu1.toNat : Int))) (by simp) fun b hb _ => Below.heap_setCell wr ⟨g9, k, none⟩ _ b fun e => by
                rcases hb with h | h
                · have e2 : b = g9 := e
                  have := H6.out
                  omega
                · exact N7.out g9 rfl (by rw [← show b = g9 from e]; exact h))
              have BX := Lib.hid (show Below N w (wr.setCell ⟨g9, k, none⟩ (.int .u8 (bu1.toNat : Int))) from BK.out.setCell (p := ⟨g9, k, none⟩) (Nat.le_trans H6.out hg9) _)
              have HLK := Lib.hid (show k + 1 ≤ n0 ∧ n0 ≤ 200 from ⟨hlt, NB.out.1⟩)
              have WK := Lib.hid (wrap_succ k (by have := NB.out; omega))
              clear k5 hlt hk9 hg9
              go_wp2_with (fail)
              go_roundw
              case rel => exact ⟨k + 1, _, HLK.out.1, by first | rw [WK.out] | go_num, OX.out, LX.out, BX.out⟩
              case measure =>
                have h9 : n0 - (k + 1) < n0 - k := by have := HLK.out.1; omega
                first
                  | exact meas_of WK.out h9
                  | (have h1 := HLK.out; simp [intOf]; omega)
            · have u3 : ¬ (k : Int) < (n0 : Int) := by omega
              clear hlt hk9 OK9
              go_wp2_with (first
                | (go_at_call 20; ((with_reducible refine (C5.out wr g s cc x6 Z6 D6 F6 S6 R6 BK.out LK.out).mono ?_); rintro e w8 ⟨A8, c8, rfl, o8, l8, n8, b8⟩; have O8 := Lib.hid o8; have L8 := Lib.hid l8; have B8 := Lib.hid b8; clear o8 l8 n8 b8))
                | (go_at_call 12; ((with_reducible refine (CS.out w8 A8 c8 B8.out (Rd.own O8.out)).mono ?_); rintro e w9 ⟨rfl, b9⟩; have L9 := Lib.hid (L8.out.grow b9); have B9 := Lib.hid (B8.out.trans (b9.mono (SZ.out _ B8.out))); clear b9)))
              go_roundw
              case rel => exact ⟨i + 1, x6, Z6, D6, F6, S6, R6, HLT.out.1, by first | rw [WI.out] | go_num, L9.out, A6.out, B9.out⟩
              case measure =>
                have h9 : 20 - (i + 1) < 20 - i := by have := HLT.out.2; omega
                first
                  | exact meas_of WI.out h9
                  | (have h1 := HLT.out; simp [intOf]; omega)
        · have u2 : ¬ (i : Int) < (p : Int) := by omega
          have fd0 := cn_fd0
          clear q hi
          go_wp2_with (first
            | (go_at_call 21; ((with_reducible refine (C8.out wr g s cc i x Z D F S R BI.out LI.out HA.out).mono ?_); rintro e w6 ⟨c2, R2, y, rfl, i6, t6, b6⟩; have I6 := Lib.hid i6; have T6 := Lib.hid t6; have B6 := Lib.hid b6; clear i6 t6 b6))
            | (go_at_call 20; ((with_reducible refine (C9.out w6 s c2 y R2 B6.out I6.out).mono ?_); rintro e w7 ⟨A7, c7, rfl, r7, i7, b7⟩; have RD7 := Lib.hid r7; have I7 := Lib.hid i7; have B7 := Lib.hid b7; clear r7 i7 b7))
            | (go_at_call 12; ((with_reducible refine (CS.out w7 A7 c7 B7.out RD7.out).mono ?_); rintro e w8 ⟨rfl, b8⟩; have I8 := Lib.hid (K.keep I7.out b8.size fun b _ hl => b8.block b hl); have B8 := Lib.hid (B7.out.trans (b8.mono (SZ.out _ B7.out))); clear b8))
            | (go_at_call 19; ((with_reducible refine (C10.out w8 s c2 y R2 B8.out I8.out T6.out).mono ?_); rintro e w9 ⟨rfl, b9⟩; have B9 := Lib.hid b9; clear b9)))
          go_ret
          rw [HN.out]
          exact ⟨rfl, B9.out⟩
end Go.Proofs.YtnoflgkjdibblaaDoor.S21

/-
  The walk of one statement of layer 21, as its frame calls it.
-/
namespace Go.Proofs.YtnoflgkjdibblaaDoor.S21
set_option linter.unusedSimpArgs false
set_option linter.unusedVariables false
set_option maxRecDepth 4096
open Go.ChangeShapes Go.WideShapes Go.ChangeAt Go.RowKit Go.Joins S19 S20
theorem reserveHeads_frame (W : World) (hk : C0.ok W) (A : Option Addr) (n c : Nat) (h : List UInt8) (hr : Rd W A n c h) (a : Int) (wa : (Lit.int .u8 a).wf = true) :
    Calls Tryd.prog 5 #[.slice A n c, .int .u8 a] W fun e w' => e = .returned (.bool true) ∧ Below W.heap.size W w' := by
  obtain ⟨m, rfl, hm⟩ := nat_of_b21 wa
  exact reserveHeads_walk M0 C0 K0 W hk A n c h hr m hm
end Go.Proofs.YtnoflgkjdibblaaDoor.S21

/-
  The walk of one statement of layer 21, as its frame calls it.
-/
namespace Go.Proofs.YtnoflgkjdibblaaDoor.S21
set_option linter.unusedSimpArgs false
set_option linter.unusedVariables false
set_option maxRecDepth 4096
open Go.ChangeShapes Go.WideShapes Go.ChangeAt Go.RowKit Go.Joins S19 S20
theorem reserveRows_frame (W : World) (hk : C0.ok W) (v : Value) (x : Cn) (o : v = .agg x.cells ∧ x.Fit) (v' : Value) (x' : Cn) (o' : v' = .agg x'.cells ∧ x'.Fit) (v2 : Value) (y : (Option Addr × Nat × Nat × List UInt8) × (Option Addr × Nat × Nat × List UInt8)) (o2 : v2 = .agg #[.slice y.1.1 y.1.2.1 y.1.2.2.1, .slice y.2.1 y.2.2.1 y.2.2.2.1] ∧ Rd W y.1.1 y.1.2.1 y.1.2.2.1 y.1.2.2.2 ∧ Rd W y.2.1 y.2.2.1 y.2.2.2.1 y.2.2.2.2) :
    Calls Tryd.prog 6 #[v, v', v2] W fun e w' => e = .returned (.bool true) ∧ Below W.heap.size W w' := by
  obtain ⟨rfl, fx⟩ := o
  obtain ⟨rfl, fy⟩ := o'
  obtain ⟨rfl, h1, h2⟩ := o2
  exact reserveRows_walk M0 C0 K0 (fun w hw => awake21_any M0 C0 K0 w hw) W hk x x' fx fy _ _ _ _ _ _ _ _ h1 h2
end Go.Proofs.YtnoflgkjdibblaaDoor.S21
