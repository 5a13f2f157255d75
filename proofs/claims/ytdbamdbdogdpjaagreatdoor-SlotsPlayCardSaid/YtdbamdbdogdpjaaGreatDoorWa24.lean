/-
  Texts put together: SlL5. No statement is proved here.
-/
import Derived.Test.YtdbamdbdogdpjaaGreatDoorWa23
import Derived.Deep.CutRange
import Derived.Deep.LoopGhost
import Derived.Deep.CutBlock

/-
  The walk of layer 20's first statement (SlotsPlay), over the contracts. No statement is proved here. (Written by gensll5.py.)
-/
namespace Go.Proofs.YtdbamdbdogdpjaaGreatDoor.S20
set_option linter.unusedSimpArgs false
set_option linter.unusedVariables false
set_option maxRecDepth 4096
open Go.RowKit S19

theorem play_nums (first n : Nat) (hf : first < 256) (hn : n < 256) : ∃ k at_ sec k2 ak r : Nat, 1 ≤ k ∧ k ≤ 8 ∧ at_ < 20 ∧ sec = at_ + 2 * k + 1 ∧ (n : Int).tmod 8 = (r : Int) ∧ (n : Int) % 8 = (r : Int) ∧ (first : Int).tmod 20 = (at_ : Int) ∧ (first : Int) % 20 = (at_ : Int) ∧ (1 : Int) + (r : Int) = (k : Int) ∧ (2 : Int) * (k : Int) = (k2 : Int) ∧ (at_ : Int) + (k2 : Int) = (ak : Int) ∧ (ak : Int) + 1 = (sec : Int) ∧ r ≤ 1000000 ∧ k2 ≤ 1000000 ∧ ak ≤ 1000000 ∧ sec ≤ 256 ∧ first ≤ 1000000 ∧ n ≤ 1000000 :=
  ⟨1 + n % 8, first % 20, first % 20 + 2 * (1 + n % 8) + 1, 2 * (1 + n % 8), first % 20 + 2 * (1 + n % 8), n % 8, by omega, by omega, by omega, rfl, by rw [Int.tmod_eq_emod_of_nonneg (by omega)]; rfl, rfl, by rw [Int.tmod_eq_emod_of_nonneg (by omega)]; rfl, rfl, by omega, by omega, by omega, by omega, by omega, by omega, by omega, by omega, by omega, by omega⟩
theorem or2_of {F F' S : Nat → Prop} {n : Nat} (h : ∀ b, F' b → F b ∨ n ≤ b) : ∀ b, Or2 F' S b → Or2 F S b ∨ n ≤ b := fun b hb => hb.elim (fun e => (h b e).imp .inl id) (fun e => .inl (.inr e))
theorem cnt_lim {c i : Nat} (h : c ≤ 10 * i) (h2 : i < 60) : c < 1099511627000 := Nat.lt_of_le_of_lt h (Nat.lt_trans (show 10 * i < 1000 by omega) (by decide))
theorem kk_lim {c i : Nat} (h : c ≤ i) (h2 : i < 60) : c < 1000000 := by omega
theorem sl_lim {a : Nat} (h : a ≤ 256) : a ≤ 1099511627776 := Nat.le_trans h (by decide)
theorem le_mil {a b : Nat} (h : a ≤ b) (hb : b ≤ 256) : a ≤ 1000000 := by omega
/-- What holds between two steps. -/
def PlI (M : DC) (C : SlC M) (N : Nat) (g h at_ k : Nat) (i : Nat) (sv ov : Value) (N0 w : World) : Prop :=
  ∃ (s q : Nat) (L : Value) (kk : Nat) (D : Dk) (Z : Sl) (F S G R T : Nat → Prop), sv = .pointer (some ⟨s, 0, none⟩) ∧ ov = .pointer (some ⟨q, 0, none⟩) ∧ Bo M C N w g s h q L kk D Z D Z F S G R T ∧ D.cnt ≤ 10 * i ∧ kk ≤ i ∧ Z.first = at_ ∧ Z.n = k ∧ D.sure.length = at_ + 2 * k + 1 ∧ Below N N0 w
set_option maxHeartbeats 16000000 in
theorem slotsPlay_walk (M : DC) (C : SlC M) (w : World) (hk : C.ok w) (first n : Nat) (hf : first < 256) (hn : n < 256) (A : Option Addr) (nA cA : Nat) (acts : List AcW) (hA : RW w A nA cA acts) : Calls Tryz.prog 3 #[.int .u8 (first : Int), .int .u8 (n : Int), .slice A nA cA] w fun e w' => e = .returned (.bool true) ∧ Below w.heap.size w w' := by
  obtain ⟨N, hN⟩ : ∃ N, w.heap.size = N := ⟨_, rfl⟩
  have hN0 := Lib.hid hN
  have HA := Lib.hid hA
  have OKN := Lib.hid (show ∀ X, Below N w X → C.ok X from fun X hX => C.bel hk (by rw [hN]; exact hX))
  have BN := Lib.hid (show ∀ X Y, Below N w X → Below X.heap.size X Y → Below N w Y from fun X Y h h' => h.trans (h'.mono (by have := h.size; omega)))
  obtain ⟨k, at_, sec, k2, ak, r, hk1, hk8, hat, hsec, hx⟩ := play_nums first n hf hn
  have HXX := Lib.hid hx
  have l4 : sec ≤ 256 := by clear hx; omega
  clear hx hf hn
  have hlen : (Dk.new sec).sure.length = sec := by simp [Dk.new]
  have hmay : may (Dk.new sec).sure.length (at_ : Int) (k : Int) = true := decide_eq_true (by rw [hlen]; omega)
  have hZ : (Sl.new at_ k).Ok (Dk.new sec) := new_ok hmay
  have CA := Lib.hid (show Calls Tryz.prog 4 #[] w fun e w' => e = .returned (.bool true) ∧ Below N w w' from (awake20_any M C w hk).mono fun e w' h => by rw [← hN]; exact h)
  have C1 := Lib.hid (show ∀ X, Below N w X → Calls Tryz.prog 5 #[.int .i64 (sec : Int)] X fun e w' => ∃ g F, e = .returned (.tuple #[.pointer (some ⟨g, 0, none⟩), .int .i64 0]) ∧ M.Is N w' g (Dk.new sec) F ∧ Below N w w' from fun X hX => (M.new N X sec (C.okM (OKN.out X hX)) (by rw [← hN]; exact hX.size) (by omega) l4).mono fun e w' ⟨g, F, h1, h2, h3, h4⟩ => ⟨g, F, h1, h2, BN.out _ _ hX h4⟩)
  have C2 := Lib.hid (show ∀ X g F, Below N w X → M.Is N X g (Dk.new sec) F → Calls Tryz.prog 6 #[.int .i64 (sec : Int)] X fun e w' => ∃ h G, e = .returned (.pointer (some ⟨h, 0, none⟩)) ∧ (M.Is N w' g (Dk.new sec) F ∧ Rk N w' h (.slice none 0 0) (Dk.new sec) G ∧ ∀ b, F b → ¬ G b) ∧ Below N w w' from fun X g F hX hI => (rnewD_any N X sec (by rw [← hN]; exact hX.size) (by omega) l4).mono fun e w' ⟨h, G, h1, h2, h3, h4⟩ => ⟨h, G, h1, ⟨M.keep hI h4.size (fun b _ hl => h4.block b hl), h2, fun b q1 q2 => by have := (M.lt hI b q1).2; have := h3 b q2; omega⟩, BN.out _ _ hX h4⟩)
  have C3 := Lib.hid (show ∀ X g F h G, Below N w X → M.Is N X g (Dk.new sec) F → Rk N X h (.slice none 0 0) (Dk.new sec) G → (∀ b, F b → ¬ G b) → Calls Tryz.prog 7 #[.pointer (some ⟨g, 0, none⟩), .int .i64 (at_ : Int), .int .i64 (k : Int)] X fun e w' => ∃ s F' S', e = .returned (.tuple #[.pointer (some ⟨s, 0, none⟩), .int .i64 0]) ∧ (Lz M C N w' g s (Dk.new sec) (Sl.new at_ k) F' S' ∧ Rk N w' h (.slice none 0 0) (Dk.new sec) G ∧ ∀ b, Or2 F' S' b → ¬ G b) ∧ Below N w w' from fun X g F h G hX hI hR hd => (C.new N X g (Dk.new sec) F at_ k (OKN.out X hX) hI hmay).mono fun e w' ⟨s, S, F', h1, h2, h3, h4, h5, h6, h7⟩ => ⟨s, F', S, h1, ⟨⟨h3, h2, h6, hZ⟩, hR.keep h7.size (fun b hb hl => h7.same b hl fun hF => by
    rcases hb with e | e
    · have := (M.lt hI b hF).1; omega
    · exact hd b hF e), fun b hb hG => by
    have hl := (hR.lt b hG).2
    rcases hb with e | e
    · rcases h5 b e with q | q
      · exact hd b q hG
      · omega
    · have := h4 b e; omega⟩, hX.trans h7.bel⟩)
  have C4 := Lib.hid (show ∀ X g s F S h G, Below N w X → Lz M C N X g s (Dk.new sec) (Sl.new at_ k) F S → Rk N X h (.slice none 0 0) (Dk.new sec) G → (∀ b, Or2 F S b → ¬ G b) → Calls Tryz.prog 8 #[.pointer (some ⟨h, 0, none⟩), .int .i64 (at_ : Int), .int .i64 (k : Int)] X fun e w' => ∃ q, e = .returned (.pointer (some ⟨q, 0, none⟩)) ∧ (∃ G R T, Bo M C N w' g s h q (.slice none 0 0) 0 (Dk.new sec) (Sl.new at_ k) (Dk.new sec) (Sl.new at_ k) F S G R T) ∧ Below N w w' from fun X g s F S h G hX hI hR hd => (rnew20_any N X (by rw [← hN]; exact hX.size) h at_ k).mono fun e w' ⟨q, h1, h2, h3, h4⟩ => ⟨q, h1, ⟨G, fun b => b = q, fun _ => False, hI.grow h4, ⟨hR.grow h4, h2, Ld.nil N w', hZ, fun b hG e => by have := (hR.lt b hG).2; omega, fun b _ e => e, fun b _ e => e⟩, fun b hb hO => by
    rcases hO with e | e | e
    · exact hd b hb e
    · have := (hI.lt b hb).2; omega
    · exact e⟩, BN.out _ _ hX h4⟩)
  have HK := Lib.hid (show 1 ≤ k ∧ k ≤ 8 ∧ at_ < 20 ∧ sec = at_ + 2 * k + 1 from ⟨hk1, hk8, hat, hsec⟩)
  have HSC := Lib.hid hlen
  clear hk hA hmay hZ hlen l4 hsec
  clear hk1 hk8 hat
  go_enter Tryz.func3, Tryz.ntmps3
  go_upto_region 3 with (go_at_call 4; ((with_reducible refine CA.out.mono ?_); rintro e w1 ⟨rfl, b1⟩; have B1 := Lib.hid b1; clear b1))
  have x1 := HXX.out.1
  have x5 := HXX.out.2.2.2.2.1
  have y0 : wrap64 (n : Int) = (n : Int) := (wrap_nat n HXX.out.2.2.2.2.2.2.2.2.2.2.2.2.2).1
  have y3 : wrap64 (k : Int) = (k : Int) := (wrap_nat k (le_mil HK.out.2.1 (by decide))).1
  go_upto_region 4 with (fail)
  clear x1 x5 y0 y3
  have x3 := HXX.out.2.2.1
  have y1 : wrap64 (first : Int) = (first : Int) := (wrap_nat first HXX.out.2.2.2.2.2.2.2.2.2.2.2.2.1).1
  go_upto_region 5 with (fail)
  clear x3 y1
  have x6 := HXX.out.2.2.2.2.2.1
  have x7 := HXX.out.2.2.2.2.2.2.1
  have x8 := HXX.out.2.2.2.2.2.2.2.1
  have y3 : wrap64 (k : Int) = (k : Int) := (wrap_nat k (le_mil HK.out.2.1 (by decide))).1
  have y4 : wrap64 (at_ : Int) = (at_ : Int) := (wrap_nat at_ (le_mil (Nat.le_of_lt HK.out.2.2.1) (by decide))).1
  have y5 : wrap64 (k2 : Int) = (k2 : Int) := (wrap_nat k2 HXX.out.2.2.2.2.2.2.2.2.2.1).1
  have y6 : wrap64 (ak : Int) = (ak : Int) := (wrap_nat ak HXX.out.2.2.2.2.2.2.2.2.2.2.1).1
  have y7 : wrap64 (sec : Int) = (sec : Int) := (wrap_nat sec (le_mil HXX.out.2.2.2.2.2.2.2.2.2.2.2.1 (Nat.le_refl _))).1
  go_upto_region 9 with (first
    | (go_at_call 5; ((with_reducible refine (C1.out w1 B1.out).mono ?_); rintro e w2 ⟨g, F2, rfl, i2, b2⟩; have I2 := Lib.hid i2; have B2 := Lib.hid b2; clear i2 b2))
    | (go_at_call 6; ((with_reducible refine (C2.out w2 g F2 B2.out I2.out).mono ?_); rintro e w3 ⟨h, G3, rfl, i3, b3⟩; have I3 := Lib.hid i3; have B3 := Lib.hid b3; clear i3 b3)))
  clear x6 x7 x8 y3 y4 y5 y6 y7
  go_upto_region 11 with (first
    | (go_at_call 7; ((with_reducible refine (C3.out w3 g F2 h G3 B3.out I3.out.1 I3.out.2.1 I3.out.2.2).mono ?_); rintro e w4 ⟨s, F4, S4, rfl, i4, b4⟩; have I4 := Lib.hid i4; have B4 := Lib.hid b4; clear i4 b4))
    | (go_at_call 8; ((with_reducible refine (C4.out w4 g s F4 S4 h G3 B4.out I4.out.1 I4.out.2.1 I4.out.2.2).mono ?_); rintro e w5 ⟨q, rfl, i5, b5⟩; have I5 := Lib.hid i5; have B5 := Lib.hid b5; clear i5 b5)))
  have P0 := Lib.hid (show PlI M C N g h at_ k 0 (.pointer (some ⟨s, 0, none⟩)) (.pointer (some ⟨q, 0, none⟩)) w w5 from by
    obtain ⟨G, R, T, hB⟩ := I5.out
    exact ⟨s, q, _, 0, _, _, F4, S4, G, R, T, rfl, rfl, hB, Nat.zero_le _, Nat.le_refl _, rfl, rfl, by rw [HSC.out]; exact HK.out.2.2.2, B5.out⟩)
  clear I2 I3 I4 I5 C1 C2 C3 C4 CA
  go_wp2_with (fail)
  go_loopg [12, 14, 15, 16, 17, 18, 19, 20, 21, 22, 23, 24] 61 (fun f sv ov iv s16 s17 s18 s19 s20 s21 s22 s23 s24 wr => ∃ i : Nat, i + f = 61 ∧ i ≤ nA ∧ iv = .int .i64 (i : Int) ∧ PlI M C N g h at_ k i sv ov w wr)
  case atStart => exact ⟨0, rfl, Nat.zero_le _, rfl, P0.out⟩
  case round =>
    obtain ⟨i, hif, hin, rfl, s, q, L, kk, D, Z, F, S, G, R, T, rfl, rfl, hBo, hcn, hkk, hzf, hzn, hsl, hB⟩ := hrel
    have HBO := Lib.hid hBo
    have BR := Lib.hid hB
    have HNU := Lib.hid (show D.cnt ≤ 10 * i ∧ kk ≤ i ∧ Z.first = at_ ∧ Z.n = k ∧ D.sure.length = at_ + 2 * k + 1 from ⟨hcn, hkk, hzf, hzn, hsl⟩)
    have HIF := Lib.hid (show i + gk = 61 ∧ i ≤ nA from ⟨hif, hin⟩)
    clear hBo hB hcn hkk hzf hzn hsl hif hin P0 B1 B2 B3 B4 B5
    by_cases h1 : i < nA ∧ i < 60
    · obtain ⟨h1, h2⟩ := h1
      have t1 : (i : Int) < (nA : Int) := by omega
      have t2 : (i : Int) < 60 := by omega
      have HI9 := Lib.hid (show i < nA ∧ i < 60 from ⟨h1, h2⟩)
      obtain ⟨ba, oa, rfl, hba, hat⟩ := HA.out.at_ (by omega)
      obtain ⟨ac, hac⟩ : ∃ ac, ac = acts.getD i default := ⟨_, rfl⟩
      obtain ⟨hok, hcl⟩ := hat i h1
      rw [← hac] at hok hcl
      have HBA := Lib.hid (show ba < w.heap.size from hba)
      have KC := Lib.hid (show ∀ q, q < 6 → wr.cell? ⟨ba, oa + i * 6 + q, none⟩ = ac.cells[q]? from fun q hq => ((show Below w.heap.size w wr by rw [hN0.out]; exact BR.out).cell (p := ⟨ba, oa + i * 6 + q, none⟩) hba).trans (hcl q hq))
      have HOK := Lib.hid hok
      clear hac hba hat hok hcl h1 h2
      obtain ⟨kd, ii, Ab, bn, bc, b, Ac, cn, cc, ch, Af, fn, fc, fs, st⟩ := ac
      have c0 : wr.cell? ⟨ba, oa + i * 6, none⟩ = some (.int .i64 kd) := KC.out 0 (by omega)
      have c1 : wr.cell? ⟨ba, oa + i * 6 + 1, none⟩ = some (.int .i64 ii) := KC.out 1 (by omega)
      have c2 : wr.cell? ⟨ba, oa + i * 6 + 2, none⟩ = some (.slice Ab bn bc) := KC.out 2 (by omega)
      have c3 : wr.cell? ⟨ba, oa + i * 6 + 3, none⟩ = some (.slice Ac cn cc) := KC.out 3 (by omega)
      have c4 : wr.cell? ⟨ba, oa + i * 6 + 4, none⟩ = some (.slice Af fn fc) := KC.out 4 (by omega)
      have c5 : wr.cell? ⟨ba, oa + i * 6 + 5, none⟩ = some (.int .i64 st) := KC.out 5 (by omega)
      go_upto_region 15 with (fail)
      obtain ⟨pa, hpa⟩ : ∃ pa, pa = wr.heap.size := ⟨_, rfl⟩
      obtain ⟨wa, hwa⟩ : ∃ wa, wr.alloc (.cells #[.int .i64 kd, .int .i64 ii, .slice Ab bn bc, .slice Ac cn cc, .slice Af fn fc, .int .i64 st] 40) = wa := ⟨_, rfl⟩
      have GA := Lib.hid (show Below wr.heap.size wr wa by rw [← hwa]; exact (Below.refl _ _).alloc (Nat.le_refl _) _)
      have TA := Lib.hid (show Bk wa pa 40 #[.int .i64 kd, .int .i64 ii, .slice Ab bn bc, .slice Ac cn cc, .slice Af fn fc, .int .i64 st] by rw [← hwa]; exact Bk.newAt _ _ _ _ hpa.symm)
      have BA := Lib.hid (BN.out _ _ BR.out GA.out)
      have BOA := Lib.hid (HBO.out.grow GA.out)
      have PA := Lib.hid (show N ≤ pa ∧ ¬ Or2 F S pa ∧ ¬ Or3 G R T pa from ⟨by rw [hpa, ← hN0.out]; exact (show Below w.heap.size w wr by rw [hN0.out]; exact BR.out).size, fun e => by have := (HBO.out.lz.lt _ e).2; omega, fun e => by have := (HBO.out.qs.lt _ e).2; omega⟩)
      first
        | rw [hwa, ← hpa]
        | rw [← hpa]
      clear hwa hpa c0 c1 c2 c3 c4 c5 KC HBA HBO
      have c0 : wa.cell? ⟨pa, 0, none⟩ = some (.int .i64 kd) := TA.out.cell 0
      have c1 : wa.cell? ⟨pa, 1, none⟩ = some (.int .i64 ii) := TA.out.cell 1
      have c2 : wa.cell? ⟨pa, 2, none⟩ = some (.slice Ab bn bc) := TA.out.cell 2
      have c3 : wa.cell? ⟨pa, 3, none⟩ = some (.slice Ac cn cc) := TA.out.cell 3
      have c4 : wa.cell? ⟨pa, 4, none⟩ = some (.slice Af fn fc) := TA.out.cell 4
      have c5 : wa.cell? ⟨pa, 5, none⟩ = some (.int .i64 st) := TA.out.cell 5
      have BG := Lib.hid (show ∀ X, Calls Tryz.prog 9 #[.agg #[.int .i64 kd, .int .i64 ii, .slice Ab bn bc, .slice Ac cn cc, .slice Af fn fc, .int .i64 st]] X fun e w' => e = .returned (.bool (bigB bn cn fn)) ∧ Below X.heap.size X w' from fun X => big_any kd ii Ab bn bc Ac cn cc Af fn fc st X)
      obtain ⟨bg, hbg⟩ : ∃ bg, bg = bigB bn cn fn := ⟨_, rfl⟩
      rw [← hbg] at BG
      have HBG := Lib.hid hbg
      clear hbg
      cases bg
      · go_upto_region 19 with (go_at_call 9; ((with_reducible refine (BG.out _).mono ?_); rintro e wb ⟨rfl, bb⟩; have GB := Lib.hid bb; clear bb))
        have FN3 := Lib.hid (show fn ≤ 1099511627776 from by
          have h := HBG.out
          simp only [bigB] at h
          have h3 : decide (300 < fn) = false := (Bool.or_eq_false_iff.1 (Bool.or_eq_false_iff.1 h.symm).2).2
          have := of_decide_eq_false h3
          omega)
        have RFS := Lib.hid (show ∀ X, Below N w X → RI X .i64 Af fn fc fs from fun X hX => HOK.out.fs.below (by rw [hN0.out]; exact hX))
        have RCH := Lib.hid (show ∀ X, Below N w X → Rd X Ac cn cc ch from fun X hX => HOK.out.ch.below (by rw [hN0.out]; exact hX))
        have RBB := Lib.hid (show ∀ X, Below N w X → Rd X Ab bn bc b from fun X hX => HOK.out.b.below (by rw [hN0.out]; exact hX))
        have FLN := Lib.hid (show ∀ a, 0 < fn → Af = some a → a.block < N from fun a h1 h2 => by
          obtain ⟨x, off, e, hb, _⟩ := HOK.out.fs.at_ h1
          rw [h2] at e
          injection e with e
          subst e
          rw [← hN0.out]; exact hb)
        have CLN := Lib.hid (show ∀ a, 0 < cn → Ac = some a → a.block < N from fun a h1 h2 => by
          obtain ⟨x, off, e, hb, _⟩ := HOK.out.ch.at_ h1
          rw [h2] at e
          injection e with e
          subst e
          rw [← hN0.out]; exact hb)
        have BLN := Lib.hid (show ∀ a, 0 < bn → Ab = some a → a.block < N from fun a h1 h2 => by
          obtain ⟨x, off, e, hb, _⟩ := HOK.out.b.at_ h1
          rw [h2] at e
          injection e with e
          subst e
          rw [← hN0.out]; exact hb)
        have TB := Lib.hid (TA.out.below GB.out TA.out.lt)
        have BOB := Lib.hid (BOA.out.grow GB.out)
        have BB := Lib.hid (BN.out _ _ BA.out GB.out)
        have d0 : wb.cell? ⟨pa, 0, none⟩ = some (.int .i64 kd) := TB.out.cell 0
        have d1 : wb.cell? ⟨pa, 1, none⟩ = some (.int .i64 ii) := TB.out.cell 1
        have d2 : wb.cell? ⟨pa, 2, none⟩ = some (.slice Ab bn bc) := TB.out.cell 2
        have d3 : wb.cell? ⟨pa, 3, none⟩ = some (.slice Ac cn cc) := TB.out.cell 3
        have d4 : wb.cell? ⟨pa, 4, none⟩ = some (.slice Af fn fc) := TB.out.cell 4
        have d5 : wb.cell? ⟨pa, 5, none⟩ = some (.int .i64 st) := TB.out.cell 5
        clear TA BOA BA GA GB c0 c1 c2 c3 c4 c5
        go_upto_block 2 with (fail)
        go_cut [12, 14, 17, 18, 19, 20, 21, 22] from 82 to 180 (fun sv ov s17 s18 s19 s20 s21 s22 wx => PlI M C N g h at_ k (i + 1) sv ov w wx)
        case first =>
          by_cases k0 : kd = 0
          · subst k0
            obtain ⟨DS, hDS⟩ : ∃ DS, DS = Z.saveD D b := ⟨_, rfl⟩
            obtain ⟨ZS, hZS⟩ : ∃ ZS, ZS = Z.save D b := ⟨_, rfl⟩
            obtain ⟨cd, hcd⟩ : ∃ cd, cd = Z.saveC D b := ⟨_, rfl⟩
            have hcl : D.cnt < 1099511627000 := cnt_lim HNU.out.1 HI9.out.2
            have hkl : kk < 1000000 := kk_lim HNU.out.2.1 HI9.out.2
            have HDS := Lib.hid (show DS.cnt ≤ 10 * (i + 1) ∧ DS.sure.length = D.sure.length ∧ ZS.first = Z.first ∧ ZS.n = Z.n from ⟨by
              rw [hDS]
              have h1 := saveD_cnt Z D b
              have h2 := HNU.out.1
              have h3 := HNU.out.2.2.2.1
              have h4 := HK.out.2.1
              omega, by rw [hDS]; exact saveD_len Z D b, by rw [hZS]; exact (save_n Z D b).2, by rw [hZS]; exact (save_n Z D b).1⟩)
            have V1 := Lib.hid (show ∀ X, Below wb.heap.size wb X → Calls Tryz.prog 10 #[.pointer (some ⟨s, 0, none⟩), .slice Ab bn bc] X fun e w' => e = .returned (.int .i64 (cd : Int)) ∧ ∃ F' S', Bo M C N w' g s h q L kk DS ZS D Z F' S' G R T ∧ Bk w' pa 40 #[.int .i64 0, .int .i64 ii, .slice Ab bn bc, .slice Ac cn cc, .slice Af fn fc, .int .i64 st] ∧ Below N w w' from fun X hX => ((BOB.out.grow hX).lz.save (OKN.out _ (BN.out _ _ BB.out hX)) (RBB.out _ (BN.out _ _ BB.out hX)) (fun a h1 h2 hO => by have := BLN.out a h1 h2; have := ((BOB.out.grow hX).lz.lt _ hO).1; omega) hcl).mono fun e w' ⟨h1, F', S', h2, h3, h4⟩ => by
              rw [← hDS, ← hZS] at h2
              exact ⟨by rw [h1, hcd], F', S', (BOB.out.grow hX).left h2 h3 h4, h4.bk (TB.out.below hX TB.out.lt) PA.out.2.1, (BN.out _ _ BB.out hX).trans h4.bel⟩)
            have V2 := Lib.hid (show ∀ X F' S', Below N w X → Bo M C N X g s h q L kk DS ZS D Z F' S' G R T → Bk X pa 40 #[.int .i64 0, .int .i64 ii, .slice Ab bn bc, .slice Ac cn cc, .slice Af fn fc, .int .i64 st] → Calls Tryz.prog 11 #[.pointer (some ⟨q, 0, none⟩), .slice Ab bn bc] X fun e w' => e = .returned (.int .i64 (cd : Int)) ∧ ∃ L' k' G' R' T', Bo M C N w' g s h q L' k' DS ZS DS ZS F' S' G' R' T' ∧ k' ≤ kk + 1 ∧ Bk w' pa 40 #[.int .i64 0, .int .i64 ii, .slice Ab bn bc, .slice Ac cn cc, .slice Af fn fc, .int .i64 st] ∧ Below N w w' from fun X F' S' hX hI hT => (rsave20_any N X h q L kk D Z G R T hI.qs Ab bn bc b (RBB.out _ hX) (fun a h1 h2 h3 => by have q1 := BLN.out a h1 h2; have q2 := (hI.qs.lt a.block (h3.imp id (fun h => h.imp (fun e => by rw [e]; exact hI.qs.rz.at_) id))).1; omega) hcl hkl).mono fun e w' ⟨h1, L', k', G', R', T', h2, h3, h4, h5⟩ => by
              rw [← hDS, ← hZS] at h3
              exact ⟨by rw [h1, hcd], L', k', G', R', T', hI.right h3 h4 (h5.mono fun b hb => out_q hI.qs.rz.at_ hb), h2, h5.bk hT (fun e => PA.out.2.2 (out_q hI.qs.rz.at_ e)), hX.trans h5.bel⟩)
            have BD := Lib.hid (Below.refl wb.heap.size wb).drew
            have KB := Lib.hid (show ∀ X, Bk X pa 40 #[.int .i64 0, .int .i64 ii, .slice Ab bn bc, .slice Ac cn cc, .slice Af fn fc, .int .i64 st] → X.cell? ⟨pa, 2, none⟩ = some (.slice Ab bn bc) from fun X hX => hX.cell 2)
            clear hcl hkl hDS hZS hcd
            go_upto_region 21 with (fail)
            clear d0 d1 d2 d3 d4 d5
            (go_region_held3 (fun X => X.cell? ⟨pa, 2, none⟩ = some (.slice Ab bn bc))
              (first
                | exact KB.out _ T7.out
                | exact KB.out _ T6.out
                | exact KB.out _ (TB.out.below BD.out TB.out.lt))
              (first
                | (go_at_call 10; ((with_reducible refine (V1.out _ BD.out).mono ?_); rintro e w6 ⟨rfl, F6, S6, i6, t6, b6⟩; have I6 := Lib.hid i6; have T6 := Lib.hid t6; have B6 := Lib.hid b6; clear i6 t6 b6))
                | (go_at_call 11; ((with_reducible refine (V2.out w6 F6 S6 B6.out I6.out T6.out).mono ?_); rintro e w7 ⟨rfl, L7, k7, G7, R7, T7', i7, n7, t7, b7⟩; have I7 := Lib.hid i7; have N7 := Lib.hid n7; have T7 := Lib.hid t7; have B7 := Lib.hid b7; clear i7 n7 t7 b7))
                | fail))
            go_wp2_with (fail)
            go_meet
            have hn := HNU.out
            have hd := HDS.out
            exact ⟨s, q, L7, k7, DS, ZS, F6, S6, G7, R7, T7', rfl, rfl, I7.out, hd.1, Nat.le_trans N7.out (by omega), hd.2.2.1.trans hn.2.2.1, hd.2.2.2.trans hn.2.2.2.1, hd.2.1.trans hn.2.2.2.2, B7.out⟩
          by_cases k1 : kd = 1
          · subst k1
            obtain ⟨ZL, hZL⟩ : ∃ ZL, ZL = Z.load D := ⟨_, rfl⟩
            obtain ⟨lb, hlb⟩ : ∃ lb, lb = Z.loadB D := ⟨_, rfl⟩
            obtain ⟨bl, hbl⟩ : ∃ bl, bl = lb.length := ⟨_, rfl⟩
            obtain ⟨ln, hln⟩ : ∃ ln, ln = Z.loadN D := ⟨_, rfl⟩
            obtain ⟨lc, hlc⟩ : ∃ lc, lc = Z.loadC D := ⟨_, rfl⟩
            have HZL := Lib.hid (show ZL.first = Z.first ∧ ZL.n = Z.n from ⟨by rw [hZL]; exact (load_n Z D).2, by rw [hZL]; exact (load_n Z D).1⟩)
            have W1 := Lib.hid (show Calls Tryz.prog 12 #[.pointer (some ⟨s, 0, none⟩)] wb fun e w' => ∃ A c F' S', e = .returned (.tuple #[.slice A bl c, .int .u64 (ln : Int), .int .i64 (lc : Int)]) ∧ (Rd w' A bl c lb ∧ (∀ a, 0 < bl → A = some a → a.block ≠ q) ∧ Bo M C N w' g s h q L kk D ZL D Z F' S' G R T) ∧ Below N w w' from (C.load N wb s g D Z F S (OKN.out _ BB.out) BOB.out.lz.is BOB.out.lz.sl BOB.out.lz.dj BOB.out.lz.zo).mono fun e w' ⟨A, c, F', S', h1, h2, h0, h3, h4, h5, h6, h7⟩ => by
              rw [← hlb, ← hbl] at h1 h2 h0
              rw [← hln, ← hlc] at h1
              refine ⟨A, c, F', S', h1, ⟨h2, fun a e1 e2 e => ?_, ?_⟩, BB.out.trans h7.bel⟩
              · have q1 := (h0 a e1 e2).1
                have q2 := BOB.out.qs.rz.lt2
                omega
              · rw [← hZL] at h4
                exact BOB.out.left ⟨h3, h4, h6, by rw [hZL]; exact load_ok BOB.out.lz.zo⟩ h5 h7)
            have W2 := Lib.hid (show ∀ X A c F' S', Below N w X → Rd X A bl c lb → (∀ a, 0 < bl → A = some a → a.block ≠ q) → Bo M C N X g s h q L kk D ZL D Z F' S' G R T → Calls Tryz.prog 13 #[.pointer (some ⟨q, 0, none⟩)] X fun e w' => ∃ A2 c2 R', e = .returned (.tuple #[.slice A2 bl c2, .int .u64 (ln : Int), .int .i64 (lc : Int)]) ∧ (Rd w' A2 bl c2 lb ∧ Rd w' A bl c lb ∧ Bo M C N w' g s h q L kk D ZL D ZL F' S' G R' T) ∧ Below N w w' from fun X A c F' S' hX hr hne hI => (rload20_any N X h q L kk D Z G R T hI.qs).mono fun e w' ⟨A2, c2, R', h1, h2, h0, h3, h4, h5⟩ => by
              rw [← hlb, ← hbl] at h1 h2
              rw [← hln, ← hlc] at h1
              rw [← hZL] at h3
              refine ⟨A2, c2, R', h1, ⟨h2, h5.rd hr hne, hI.right h3 (fun b hb => ?_) (h5.mono fun b hb => .inr (.inl (hb ▸ hI.qs.rz.at_)))⟩, hX.trans h5.bel⟩
              rcases hb with e | e | e
              · exact .inl (.inl e)
              · exact (h4 b e).imp (fun e => .inr (.inl e)) id
              · exact .inl (.inr (.inr e)))
            clear hZL hlb hbl hln hlc d0 d1 d2 d3 d4 d5
            go_wp2_with (first
              | (go_at_call 12; ((with_reducible refine W1.out.mono ?_); rintro e w6 ⟨A6, c6, F6, S6, rfl, i6, b6⟩; have I6 := Lib.hid i6; have B6 := Lib.hid b6; clear i6 b6))
              | (go_at_call 13; ((with_reducible refine (W2.out w6 A6 c6 F6 S6 B6.out I6.out.1 I6.out.2.1 I6.out.2.2).mono ?_); rintro e w7 ⟨A7, c7, R7, rfl, i7, b7⟩; have I7 := Lib.hid i7; have B7 := Lib.hid b7; clear i7 b7))
              | (go_at_call 14; ((with_reducible refine (rsame_true A6 A7 bl c6 bl c7 lb lb w7 I7.out.2.1 I7.out.1 rfl).mono ?_); rintro e w8 ⟨rfl, b8⟩; have I8 := Lib.hid (I7.out.2.2.grow b8); have B8 := Lib.hid (BN.out _ _ B7.out b8); clear b8)))
            go_meet
            have hn := HNU.out
            exact ⟨s, q, L, kk, D, ZL, F6, S6, G, R7, T, rfl, rfl, I8.out, Nat.le_trans hn.1 (by omega), Nat.le_trans hn.2.1 (by omega), HZL.out.1.trans hn.2.2.1, HZL.out.2.trans hn.2.2.2.1, hn.2.2.2.2, B8.out⟩
          by_cases k2 : kd = 2
          · subst k2
            obtain ⟨DU, hDU⟩ : ∃ DU, DU = D.up ch fs st := ⟨_, rfl⟩
            have hul : DU.sure.length = D.sure.length := by rw [hDU]; exact Dk.tear_len _ _ _ _
            have huc : DU.cnt = 0 := by rw [hDU]; rfl
            have hmy : may DU.sure.length (at_ : Int) (k : Int) = true := decide_eq_true (by rw [hul, HNU.out.2.2.2.2]; have := HK.out; omega)
            have hno : (Sl.new at_ k).Ok DU := new_ok hmy
            have U1 := Lib.hid (show Calls Tryz.prog 15 #[.pointer (some ⟨g, 0, none⟩), .slice Ac cn cc, .agg #[.slice Af fn fc, .int .i64 st]] wb fun e w' => e = .returned (.tuple #[]) ∧ ∃ F', Bo M C N w' g s h q L kk DU Z D Z F' S G R T ∧ Bk w' pa 40 #[.int .i64 2, .int .i64 ii, .slice Ab bn bc, .slice Ac cn cc, .slice Af fn fc, .int .i64 st] ∧ Below N w w' from (M.up N wb g D F Ac cn cc ch Af fn fc fs st (C.okM (OKN.out _ BB.out)) BOB.out.lz.is (RCH.out _ BB.out) (fun a h1 h2 h3 => by have := CLN.out a h1 h2; have := (M.lt BOB.out.lz.is _ h3).1; omega) (RFS.out _ BB.out) (fun a h1 h2 h3 => by have := FLN.out a h1 h2; have := (M.lt BOB.out.lz.is _ h3).1; omega) FN3.out).mono fun e w' ⟨h1, F', h2, h3, h4⟩ => by
              have h3' : ∀ b, F' b → F b ∨ wb.heap.size ≤ b := fun b hb => by
                rcases h3 b hb with e | e | ⟨e1, x, e2, e3, e4⟩
                · exact .inl e
                · exact .inr e
                · have := FLN.out x e2 e3; omega
              rw [← hDU] at h2
              exact ⟨h1, F', BOB.out.left (BOB.out.lz.disk h2 h3' h4 hul) (or2_of h3') (h4.mono fun b hb => .inl hb), h4.bk TB.out (fun e => PA.out.2.1 (.inl e)), BB.out.trans h4.bel⟩)
            have U2 := Lib.hid (show ∀ X F', Below N w X → Bo M C N X g s h q L kk DU Z D Z F' S G R T → Calls Tryz.prog 16 #[.pointer (some ⟨h, 0, none⟩), .slice Ac cn cc, .agg #[.slice Af fn fc, .int .i64 st]] X fun e w' => e = .returned (.tuple #[]) ∧ ∃ G', Bo M C N w' g s h q L kk DU Z DU Z F' S G' R T ∧ Below N w w' from fun X F' hX hI => (rupD_any N X h D G hI.qs.rk Ac cn cc ch (RCH.out _ hX) CLN.out Af fn fc fs st (RFS.out _ hX) FLN.out).mono fun e w' ⟨h1, G', h2, h3, h4⟩ => by
              rw [← hDU] at h2
              exact ⟨h1, G', hI.right (hI.qs.disk h2 h3 h4 hul) (fun b hb => hb.elim (fun e => (h3 b e).imp .inl id) (fun e => .inl (.inr e))) (h4.mono fun b hb => .inl hb), hX.trans h4.bel⟩)
            have U3 := Lib.hid (show ∀ X F' G', Below N w X → Bo M C N X g s h q L kk DU Z DU Z F' S G' R T → Calls Tryz.prog 7 #[.pointer (some ⟨g, 0, none⟩), .int .i64 (at_ : Int), .int .i64 (k : Int)] X fun e w' => ∃ s' F'' S'', e = .returned (.tuple #[.pointer (some ⟨s', 0, none⟩), .int .i64 0]) ∧ Bo M C N w' g s' h q L kk DU (Sl.new at_ k) DU Z F'' S'' G' R T ∧ Below N w w' from fun X F' G' hX hI => (C.new N X g DU F' at_ k (OKN.out _ hX) hI.lz.is hmy).mono fun e w' ⟨s', S'', F'', h1, h2, h3, h4, h5, h6, h7⟩ => ⟨s', F'', S'', h1, hI.left ⟨h3, h2, h6, hno⟩ (fun b hb => hb.elim (fun e => (h5 b e).imp .inl id) (fun e => .inr (h4 b e))) (h7.mono fun b hb => .inl hb), hX.trans h7.bel⟩)
            have U4 := Lib.hid (show ∀ X s' F'' S'' G', Below N w X → Bo M C N X g s' h q L kk DU (Sl.new at_ k) DU Z F'' S'' G' R T → Calls Tryz.prog 8 #[.pointer (some ⟨h, 0, none⟩), .int .i64 (at_ : Int), .int .i64 (k : Int)] X fun e w' => ∃ q' R', e = .returned (.pointer (some ⟨q', 0, none⟩)) ∧ Bo M C N w' g s' h q' L kk DU (Sl.new at_ k) DU (Sl.new at_ k) F'' S'' G' R' T ∧ Below N w w' from fun X s' F'' S'' G' hX hI => (rnew20_any N X (rk_loN hI.qs.rk) h at_ k).mono fun e w' ⟨q', h1, h2, h3, h4⟩ => ⟨q', fun b => b = q', h1, hI.right ⟨hI.qs.rk.grow h4, h2, (hI.qs.grow h4).ld, hno, fun b hG e => by have := (hI.qs.rk.lt b hG).2; omega, hI.qs.gt, fun b e hT => by have := (hI.qs.ld.lt b hT).2; omega⟩ (fun b hb => by
                rcases hb with e | e | e
                · exact .inl (.inl e)
                · exact .inr (by omega)
                · exact .inl (.inr (.inr e))) (Mv.of (rk_loN hI.qs.rk) h4), BN.out _ _ hX h4⟩)
            have HUC := Lib.hid (show DU.cnt = 0 ∧ DU.sure.length = D.sure.length from ⟨huc, hul⟩)
            clear hul huc hmy hno hDU
            go_upto_region 30 with (go_at_call 15; ((with_reducible refine U1.out.mono ?_); rintro e w6 ⟨rfl, F6, i6, t6, b6⟩; have I6 := Lib.hid i6; have T6 := Lib.hid t6; have B6 := Lib.hid b6; clear i6 t6 b6))
            have e3 : w6.cell? ⟨pa, 3, none⟩ = some (.slice Ac cn cc) := T6.out.cell 3
            have e4 : w6.cell? ⟨pa, 4, none⟩ = some (.slice Af fn fc) := T6.out.cell 4
            have e5 : w6.cell? ⟨pa, 5, none⟩ = some (.int .i64 st) := T6.out.cell 5
            go_wp2_with (first
              | (go_at_call 16; ((with_reducible refine (U2.out w6 F6 B6.out I6.out).mono ?_); rintro e w7 ⟨rfl, G7, i7, b7⟩; have I7 := Lib.hid i7; have B7 := Lib.hid b7; clear i7 b7))
              | (go_at_call 7; ((with_reducible refine (U3.out w7 F6 G7 B7.out I7.out).mono ?_); rintro e w8 ⟨s8, F8, S8, rfl, i8, b8⟩; have I8 := Lib.hid i8; have B8 := Lib.hid b8; clear i8 b8))
              | (go_at_call 8; ((with_reducible refine (U4.out w8 s8 F8 S8 G7 B8.out I8.out).mono ?_); rintro e w9 ⟨q9, R9, rfl, i9, b9⟩; have I9 := Lib.hid i9; have B9 := Lib.hid b9; clear i9 b9)))
            go_meet
            have hn := HNU.out
            exact ⟨s8, q9, L, kk, DU, Sl.new at_ k, F8, S8, G7, R9, T, rfl, rfl, I9.out, by rw [HUC.out.1]; exact Nat.zero_le _, Nat.le_trans hn.2.1 (by omega), rfl, rfl, by rw [HUC.out.2]; exact hn.2.2.2.2, B9.out⟩
          by_cases k3 : kd = 3
          · subst k3
            have SP := Lib.hid (show Calls Tryz.prog 17 #[.pointer (some ⟨g, 0, none⟩), .agg #[.slice Af fn fc, .int .i64 st]] wb fun e w' => e = .returned (.tuple #[]) ∧ ∃ F', Bo M C N w' g s h q L kk (D.plan fs st) Z D Z F' S G R T ∧ Bk w' pa 40 #[.int .i64 3, .int .i64 ii, .slice Ab bn bc, .slice Ac cn cc, .slice Af fn fc, .int .i64 st] ∧ Below N wb w' from (M.plan N wb g D F Af fn fc fs st (C.okM (OKN.out _ BB.out)) BOB.out.lz.is (RFS.out _ BB.out) FN3.out).mono fun e w' ⟨h1, F', h2, h3, h4⟩ => by
              have h3' : ∀ b, F' b → F b ∨ wb.heap.size ≤ b := fun b hb => by
                rcases h3 b hb with e | e | ⟨e1, x, e2, e3, e4⟩
                · exact .inl e
                · exact .inr e
                · have := FLN.out x e2 e3; omega
              exact ⟨h1, F', BOB.out.left (BOB.out.lz.disk h2 h3' h4 rfl) (or2_of h3') (h4.mono fun b hb => .inl hb), h4.bk TB.out (fun e => PA.out.2.1 (.inl e)), h4.bel⟩)
            go_upto_region 35 with (go_at_call 17; ((with_reducible refine SP.out.mono ?_); rintro e w6 ⟨rfl, F6, i6, t6, b6⟩; have I6 := Lib.hid i6; have T6 := Lib.hid t6; have B6 := Lib.hid (BB.out.trans b6); clear i6 t6 b6))
            obtain ⟨V, hV⟩ := I6.out.qs.rk.cells
            have r4 : w6.cell? ⟨h, 4, none⟩ = some (.slice V.AF V.nF V.cF) := hV.cell 4
            have r5 : w6.cell? ⟨h, 5, none⟩ = some (.int .i64 D.stop) := hV.cell 5
            have f4 := hV.frozen 4
            have f5 := hV.frozen 5
            have e4 : w6.cell? ⟨pa, 4, none⟩ = some (.slice Af fn fc) := T6.out.cell 4
            have e5 : w6.cell? ⟨pa, 5, none⟩ = some (.int .i64 st) := T6.out.cell 5
            clear hV
            go_wp2_with (fail)
            go_meet
            obtain ⟨y1, y2⟩ := I6.out.qs.rk.plan (A := Af) (n := fn) (c := fc) (fs := fs) (st := st) (fun X hX => RFS.out X (B6.out.trans hX)) FLN.out
            have hn := HNU.out
            exact ⟨s, q, L, kk, D.plan fs st, Z, F6, S, G, R, T, rfl, rfl, I6.out.right (I6.out.qs.disk y1 (fun b hb => .inl hb) y2 rfl) (fun b hb => .inl hb) (y2.mono fun b hb => .inl hb), Nat.le_trans hn.1 (by omega), Nat.le_trans hn.2.1 (by omega), hn.2.2.1, hn.2.2.2.1, hn.2.2.2.2, B6.out.trans y2.bel⟩
          by_cases k4 : kd = 4
          · subst k4
            obtain ⟨x, hx⟩ : ∃ x, x = fitL b := ⟨_, rfl⟩
            have lx : x.length = 64 := by rw [hx]; exact fitL_len b
            obtain ⟨DW, hDW⟩ : ∃ DW, DW = D.write ii x := ⟨_, rfl⟩
            obtain ⟨cd, hcd⟩ : ∃ cd, cd = D.writeC ii x := ⟨_, rfl⟩
            have hcl : D.cnt < 1099511627776 := Nat.lt_trans (cnt_lim HNU.out.1 HI9.out.2) (by decide)
            have hwl : DW.sure.length = D.sure.length := by rw [hDW, write_sure]
            have HDW := Lib.hid (show DW.cnt ≤ 10 * (i + 1) ∧ DW.sure.length = D.sure.length from ⟨by
              rw [hDW]
              have h1 := Dk.write_cnt D ii x
              have h2 := HNU.out.1
              omega, hwl⟩)
            have X1 := Lib.hid (show ∀ X, Below N w X → Bk X pa 40 #[.int .i64 4, .int .i64 ii, .slice Ab bn bc, .slice Ac cn cc, .slice Af fn fc, .int .i64 st] → Calls Tryz.prog 19 #[.slice Ab bn bc] X fun e w' => ∃ A c, e = .returned (.slice A 64 c) ∧ (Rd w' A 64 c x ∧ (∀ a, A = some a → X.heap.size ≤ a.block) ∧ Bk w' pa 40 #[.int .i64 4, .int .i64 ii, .slice Ab bn bc, .slice Ac cn cc, .slice Af fn fc, .int .i64 st] ∧ Below X.heap.size X w') ∧ Below N w w' from fun X hX hT => (fit_any Ab bn bc b X (RBB.out _ hX)).mono fun e w' ⟨A, n, c, h1, h2, h3⟩ => by
              rw [← hx] at h2
              obtain rfl : n = 64 := (own_len h2).symm.trans lx
              exact ⟨A, c, h1, ⟨Rd.own h2, fun a ha => (h2.lt a.block (by rw [ha]; rfl)).1, hT.below h3 hT.lt, h3⟩, BN.out _ _ hX h3⟩)
            have X2 := Lib.hid (show ∀ X A c, Below N w X → Below wb.heap.size wb X → Rd X A 64 c x → (∀ a, A = some a → wb.drew.heap.size ≤ a.block) → Bk X pa 40 #[.int .i64 4, .int .i64 ii, .slice Ab bn bc, .slice Ac cn cc, .slice Af fn fc, .int .i64 st] → Calls Tryz.prog 18 #[.pointer (some ⟨g, 0, none⟩), .int .i64 ii, .slice A 64 c] X fun e w' => e = .returned (.int .i64 (cd : Int)) ∧ ∃ F', (Bo M C N w' g s h q L kk DW Z D Z F' S G R T ∧ Bk w' pa 40 #[.int .i64 4, .int .i64 ii, .slice Ab bn bc, .slice Ac cn cc, .slice Af fn fc, .int .i64 st]) ∧ Below N w w' from fun X A c hX hb hr hA hT => (M.write N X g D F ii A 64 c x (C.okM (OKN.out _ hX)) (BOB.out.grow hb).lz.is hr (fun a _ ha hF => by have q1 : wb.heap.size ≤ a.block := hA a ha; have := (M.lt BOB.out.lz.is _ hF).2; omega) hcl).mono fun e w' ⟨h1, F', h2, h3, h4⟩ => by
              rw [← hDW] at h2
              exact ⟨by rw [h1, hcd], F', ⟨(BOB.out.grow hb).left ((BOB.out.grow hb).lz.disk h2 h3 h4 hwl) (or2_of h3) (h4.mono fun b hb => .inl hb), h4.bk hT (fun e => PA.out.2.1 (.inl e))⟩, hX.trans h4.bel⟩)
            have X4 := Lib.hid (show ∀ X Y F' A c, Below N w X → Below Y.heap.size Y X → Bo M C N Y g s h q L kk DW Z D Z F' S G R T → Rd X A 64 c x → (∀ a, A = some a → Y.heap.size ≤ a.block) → Calls Tryz.prog 20 #[.pointer (some ⟨h, 0, none⟩), .int .i64 ii, .slice A 64 c] X fun e w' => e = .returned (.int .i64 (cd : Int)) ∧ ∃ G', (Bo M C N w' g s h q L kk DW Z DW Z F' S G' R T ∧ Mv N G X w') ∧ Below N w w' from fun X Y F' A c hX hb hI hr hA => (rwriteD_any N X h D G (hI.grow hb).qs.rk ii A 64 c x hr hcl (fun a _ ha hG => by have := hA a ha; have := (hI.qs.rk.lt _ hG).2; omega)).mono fun e w' ⟨h1, G', h2, h3, h4⟩ => by
              rw [← hDW] at h2
              exact ⟨by rw [h1, hcd], G', ⟨(hI.grow hb).right ((hI.grow hb).qs.disk h2 h3 h4 hwl) (fun b hb => hb.elim (fun e => (h3 b e).imp .inl id) (fun e => .inl (.inr e))) (h4.mono fun b hb => .inl hb), h4⟩, hX.trans h4.bel⟩)
            have BD := Lib.hid (Below.refl wb.heap.size wb).drew
            have BBD := Lib.hid (show Below N w wb.drew from BB.out.drew)
            have KB := Lib.hid (show ∀ X, Bk X pa 40 #[.int .i64 4, .int .i64 ii, .slice Ab bn bc, .slice Ac cn cc, .slice Af fn fc, .int .i64 st] → X.cell? ⟨pa, 1, none⟩ = some (.int .i64 ii) ∧ X.cell? ⟨pa, 2, none⟩ = some (.slice Ab bn bc) from fun X hX => ⟨hX.cell 1, hX.cell 2⟩)
            have TD := Lib.hid (TB.out.below BD.out TB.out.lt)
            clear hcl hwl hDW hcd hx lx
            go_upto_region 37 with (fail)
            clear d0 d1 d2 d3 d4 d5
            (go_region_held3 (fun X => X.cell? ⟨pa, 1, none⟩ = some (.int .i64 ii) ∧ X.cell? ⟨pa, 2, none⟩ = some (.slice Ab bn bc))
              (first
                | exact KB.out _ T9.out
                | exact KB.out _ I8.out.2.2.1
                | exact KB.out _ T7.out
                | exact KB.out _ I6.out.2.2.1
                | exact KB.out _ TD.out)
              (first
                | (go_at_call 19; ((with_reducible refine (X1.out wb.drew BBD.out TD.out).mono ?_); rintro e w6 ⟨A6, c6, rfl, i6, b6⟩; have I6 := Lib.hid i6; have B6 := Lib.hid b6; clear i6 b6))
                | (go_at_call 18; ((with_reducible refine (X2.out w6 A6 c6 B6.out (BD.out.trans (I6.out.2.2.2.mono BD.out.size)) I6.out.1 I6.out.2.1 I6.out.2.2.1).mono ?_); rintro e w7 ⟨rfl, F7, i7, b7⟩; have I7 := Lib.hid i7.1; have T7 := Lib.hid i7.2; have B7 := Lib.hid b7; clear i7 b7))
                | (go_at_call 19; ((with_reducible refine (X1.out w7 B7.out T7.out).mono ?_); rintro e w8 ⟨A8, c8, rfl, i8, b8⟩; have I8 := Lib.hid i8; have B8 := Lib.hid b8; clear i8 b8))
                | (go_at_call 20; ((with_reducible refine (X4.out w8 w7 F7 A8 c8 B8.out I8.out.2.2.2 I7.out I8.out.1 I8.out.2.1).mono ?_); rintro e w9 ⟨rfl, G9, i9, b9⟩; have I9 := Lib.hid i9.1; have B9 := Lib.hid b9; have T9 := Lib.hid (show Bk w9 pa 40 #[.int .i64 4, .int .i64 ii, .slice Ab bn bc, .slice Ac cn cc, .slice Af fn fc, .int .i64 st] from i9.2.bk I8.out.2.2.1 (fun e => PA.out.2.2 (.inl e))); clear i9 b9))
                | fail))
            go_wp2_with (fail)
            go_meet
            have hn := HNU.out
            exact ⟨s, q, L, kk, DW, Z, F7, S, G9, R, T, rfl, rfl, I9.out, HDW.out.1, Nat.le_trans hn.2.1 (by omega), hn.2.2.1, hn.2.2.2.1, HDW.out.2.trans hn.2.2.2.2, B9.out⟩
          by_cases k5 : kd = 5
          · subst k5
            have ST := Lib.hid (show Calls Tryz.prog 21 #[.pointer (some ⟨g, 0, none⟩)] wb fun e w' => e = .returned (.tuple #[]) ∧ ∃ F', Bo M C N w' g s h q L kk D.halt Z D Z F' S G R T ∧ Below N wb w' from (M.stop N wb g D F (C.okM (OKN.out _ BB.out)) BOB.out.lz.is).mono fun e w' ⟨h1, F', h2, h3, h4⟩ => ⟨h1, F', BOB.out.left (BOB.out.lz.disk h2 h3 h4 rfl) (or2_of h3) (h4.mono fun b hb => .inl hb), h4.bel⟩)
            go_upto_region 41 with (go_at_call 21; ((with_reducible refine ST.out.mono ?_); rintro e w6 ⟨rfl, F6, i6, b6⟩; have I6 := Lib.hid i6; have B6 := Lib.hid (BB.out.trans b6); clear i6 b6))
            obtain ⟨V, hV⟩ := I6.out.qs.rk.cells
            have r7 : w6.cell? ⟨h, 7, none⟩ = some (.bool D.off) := hV.cell 7
            have f7 := hV.frozen 7
            clear hV
            go_wp2_with (fail)
            go_meet
            obtain ⟨y1, y2⟩ := I6.out.qs.rk.off
            have hn := HNU.out
            exact ⟨s, q, L, kk, D.halt, Z, F6, S, G, R, T, rfl, rfl, I6.out.right (I6.out.qs.disk y1 (fun b hb => .inl hb) y2 rfl) (fun b hb => .inl hb) (y2.mono fun b hb => .inl hb), Nat.le_trans hn.1 (by omega), Nat.le_trans hn.2.1 (by omega), hn.2.2.1, hn.2.2.2.1, hn.2.2.2.2, B6.out.trans y2.bel⟩
          have u0 : (kd == 0) = false := by simpa using k0
          have u1 : (kd == 1) = false := by simpa using k1
          have u2 : (kd == 2) = false := by simpa using k2
          have u3 : (kd == 3) = false := by simpa using k3
          have u4 : (kd == 4) = false := by simpa using k4
          have u5 : (kd == 5) = false := by simpa using k5
          go_wp2_with (fail)
          go_meet
          have hn := HNU.out
          exact ⟨s, q, L, kk, D, Z, F, S, G, R, T, rfl, rfl, BOB.out, by omega, by omega, hn.2.2.1, hn.2.2.2.1, hn.2.2.2.2, BB.out⟩
        case rest =>
          obtain ⟨s1, q1, L1, kk1, D1, Z1, F1, S1, G1, R1, T1, rfl, rfl, hB1, hc1, hk1, hz1, hz2, hl1, hb1⟩ := hcut
          have BO1 := Lib.hid hB1
          have BB1 := Lib.hid hb1
          have HN1 := Lib.hid (show D1.cnt ≤ 10 * (i + 1) ∧ kk1 ≤ i + 1 ∧ Z1.first = at_ ∧ Z1.n = k ∧ D1.sure.length = at_ + 2 * k + 1 from ⟨hc1, hk1, hz1, hz2, hl1⟩)
          clear hB1 hb1 hc1 hk1 hz1 hz2 hl1 d0 d1 d2 d3 d4 d5 TB BOB BB PA
          obtain ⟨zl, hzl⟩ : ∃ zl, zl = Z1.b.length := ⟨_, rfl⟩
          have NW := Lib.hid (show Calls Tryz.prog 22 #[.pointer (some ⟨s1, 0, none⟩)] wc fun e w' => ∃ A c, e = .returned (.tuple #[.slice A zl c, .int .u64 (Z1.num : Int)]) ∧ (Rd w' A zl c Z1.b ∧ Bo M C N w' g s1 h q1 L1 kk1 D1 Z1 D1 Z1 F1 S1 G1 R1 T1) ∧ Below N w w' from (C.now N wc s1 g Z1 S1 (OKN.out _ BB1.out) BO1.out.lz.sl).mono fun e w' ⟨A, c, h1, h2, h0, h3, h4⟩ => by
            rw [← hzl] at h1 h2
            refine ⟨A, c, h1, ⟨h2, BO1.out.left ⟨M.keep BO1.out.lz.is h4.size fun b hb hl => h4.same b hl fun hS => ?_, h3, BO1.out.lz.dj, BO1.out.lz.zo⟩ (fun b hb => .inl hb) (h4.mono fun b hb => .inr hb)⟩, BB1.out.trans h4.bel⟩
            rcases hb with e | e
            · have := (C.lt BO1.out.lz.sl b hS).1; omega
            · exact BO1.out.lz.dj b e hS)
          have HZ2 := Lib.hid hzl
          clear hzl
          go_upto_region 45 with (go_at_call 22; ((with_reducible refine NW.out.mono ?_); rintro e w7 ⟨A7, c7, rfl, i7, b7⟩; have R7 := Lib.hid i7.1; have I7 := Lib.hid i7.2; have B7 := Lib.hid b7; clear i7 b7))
          obtain ⟨A5, c5, hb5, hr5, _⟩ := I7.out.qs.rz.ex
          obtain ⟨V, hbh, hrs⟩ := I7.out.qs.rk.ex
          obtain ⟨AS, cS, eS⟩ := own_form hrs.oS
          obtain ⟨sl, hsl⟩ : ∃ sl, sl = D1.sure.length := ⟨_, rfl⟩
          have HSL := Lib.hid (show sl ≤ 256 by rw [hsl]; exact I7.out.qs.rk.ok.most)
          rw [← HZ2.out] at hr5
          have KC := Lib.hid (show ∀ X : World, X.heap[q1]? = w7.heap[q1]? → X.heap[h]? = w7.heap[h]? → X.cell? ⟨q1, 5, none⟩ = some (.slice A5 zl c5) ∧ X.cell? ⟨q1, 4, none⟩ = some (.int .u64 (Z1.num : Int)) ∧ X.cell? ⟨h, 1, none⟩ = some (.slice AS sl cS) from fun X h1 h2 => by
            have t1 : Bk X q1 _ _ := h1.trans hb5
            have t2 : Bk X h _ _ := h2.trans hbh
            refine ⟨by rw [HZ2.out]; exact t1.cell 5, t1.cell 4, ?_⟩
            have := t2.cell 1
            rw [eS, ← hsl] at this
            exact this)
          have R5 := Lib.hid (show ∀ X, Below w7.heap.size w7 X → Rd X A5 zl c5 Z1.b from fun X hX => hr5.below hX)
          have SU := Lib.hid (show ∀ X, Below w7.heap.size w7 X → Calls Tryz.prog 24 #[.pointer (some ⟨g, 0, none⟩)] X fun e w' => ∃ A c F', e = .returned (.slice A sl c) ∧ (S19.Rw w' A sl D1.sure ∧ S19.Rw w' AS sl D1.sure ∧ Bo M C N w' g s1 h q1 L1 kk1 D1 Z1 D1 Z1 F' S1 G1 R1 T1 ∧ w'.heap[q1]? = w7.heap[q1]? ∧ w'.heap[h]? = w7.heap[h]?) ∧ Below N w w' from fun X hX => (M.sure N X g D1 F1 (C.okM (OKN.out _ (BN.out _ _ B7.out hX))) (I7.out.grow hX).lz.is).mono fun e w' ⟨A, c, F', h1, h2, h3, h4, h5⟩ => by
            have hs : ∀ b, (b < N ∨ G1 b) → b < w7.heap.size → w'.heap[b]? = w7.heap[b]? := fun b hb hl => (h5.same b (Nat.lt_of_lt_of_le hl hX.size) fun hF => by
              rcases hb with e | e
              · have := (M.lt I7.out.lz.is b hF).1; omega
              · exact I7.out.ap b (.inl hF) (.inl e)).trans (hX.block b hl)
            rw [← hsl] at h1 h2
            refine ⟨A, c, F', h1, ⟨h2.rw, ?_, (I7.out.grow hX).left ((I7.out.grow hX).lz.disk h3 h4 h5 rfl) (or2_of h4) (h5.mono fun b hb => .inl hb), ?_, hs h (.inr I7.out.qs.rk.lo.2) (I7.out.qs.rk.lt h I7.out.qs.rk.lo.2).2⟩, (BN.out _ _ B7.out hX).trans h5.bel⟩
            · rw [hsl]
              exact (hrs.keep (Nat.le_trans hX.size h5.size) hs).rw eS
            · exact (h5.same q1 (Nat.lt_of_lt_of_le I7.out.qs.rz.lt2 hX.size) fun hF => I7.out.ap q1 (.inl hF) (.inr (.inl I7.out.qs.rz.at_))).trans (hX.block q1 I7.out.qs.rz.lt2))
          have BD := Lib.hid (Below.refl w7.heap.size w7).drew
          have HHL := Lib.hid (show q1 < w7.heap.size ∧ h < w7.heap.size from ⟨I7.out.qs.rz.lt2, (I7.out.qs.rk.lt h I7.out.qs.rk.lo.2).2⟩)
          clear hb5 hr5 hbh hrs eS hsl
          (go_region_held3 (fun X => X.cell? ⟨q1, 5, none⟩ = some (.slice A5 zl c5) ∧ X.cell? ⟨q1, 4, none⟩ = some (.int .u64 (Z1.num : Int)) ∧ X.cell? ⟨h, 1, none⟩ = some (.slice AS sl cS))
            (first
              | exact KC.out _ ((b10.out.block q1 H10.out.1).trans I9.out.2.2.2.1) ((b10.out.block h H10.out.2).trans I9.out.2.2.2.2)
              | exact KC.out _ I9.out.2.2.2.1 I9.out.2.2.2.2
              | exact KC.out _ (B8.out.block q1 HHL.out.1) (B8.out.block h HHL.out.2)
              | exact KC.out _ (BD.out.block q1 HHL.out.1) (BD.out.block h HHL.out.2))
            (first
              | (go_at_call 14; ((with_reducible refine (rsame_true A7 A5 zl c7 zl c5 Z1.b Z1.b w7.drew (R7.out.below BD.out) (R5.out _ BD.out) rfl).mono ?_); rintro e w8 ⟨rfl, b8⟩; have B8 := Lib.hid (BD.out.trans (b8.mono BD.out.size)); clear b8))
              | (go_at_call 24; ((with_reducible refine (SU.out w8 B8.out).mono ?_); rintro e w9 ⟨A9, c9, F9, rfl, i9, b9⟩; have I9 := Lib.hid i9; have B9 := Lib.hid b9; have H10 := Lib.hid (show q1 < w9.heap.size ∧ h < w9.heap.size from ⟨i9.2.2.1.qs.rz.lt2, (i9.2.2.1.qs.rk.lt h i9.2.2.1.qs.rk.lo.2).2⟩); clear i9 b9))
              | (go_at_call 23; ((with_reducible refine (rall_any A9 AS sl c9 cS D1.sure w9 I9.out.1 I9.out.2.1 (sl_lim HSL.out)).mono ?_); rintro e w10 ⟨rfl, bz⟩; have b10 := Lib.hid bz; have I10 := Lib.hid (I9.out.2.2.1.grow bz); have B10 := Lib.hid (BN.out _ _ B9.out bz); clear bz))
              | fail))
          go_wp2_with (fail)
          go_roundg (gk - 1)
          case rel => exact ⟨i + 1, by have := HIF.out; have := HI9.out; omega, HI9.out.1, by first | rw [wrap_succ i (kk_lim (Nat.le_refl _) HI9.out.2)] | go_num, s1, q1, L1, kk1, D1, Z1, F9, S1, G1, R1, T1, rfl, rfl, I10.out, HN1.out.1, HN1.out.2.1, HN1.out.2.2.1, HN1.out.2.2.2.1, HN1.out.2.2.2.2, B10.out⟩
          case measure => have := HIF.out; have := HI9.out; omega
      · go_wp2_with (go_at_call 9; ((with_reducible refine (BG.out _).mono ?_); rintro e wb ⟨rfl, bb⟩; have GB := Lib.hid (BN.out _ _ BA.out bb); clear bb))
        go_ret
        exact ⟨rfl, by first | exact GB.out | (rw [hN0.out]; exact GB.out)⟩
    · by_cases h3 : i < nA
      · have t1 : (i : Int) < (nA : Int) := by omega
        have t2 : ¬ (i : Int) < 60 := by omega
        clear h1 h3
        go_wp2_with (fail)
        go_ret
        exact ⟨rfl, by first | exact BR.out | (rw [hN0.out]; exact BR.out)⟩
      · have t1 : ¬ (i : Int) < (nA : Int) := by omega
        clear h1 h3
        go_wp2_with (fail)
        go_ret
        exact ⟨rfl, by first | exact BR.out | (rw [hN0.out]; exact BR.out)⟩
end Go.Proofs.YtdbamdbdogdpjaaGreatDoor.S20
