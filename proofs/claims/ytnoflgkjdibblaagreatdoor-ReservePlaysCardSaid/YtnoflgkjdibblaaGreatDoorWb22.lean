/-
  Texts put together: RvV. No statement is proved here.
-/
import Derived.Test.YtnoflgkjdibblaaGreatDoorWb21

/-
  The walk of layer 21's second statement (ReservePlays): no statement is proved here.
-/
namespace Go.Proofs.YtnoflgkjdibblaaGreatDoor.S21
set_option linter.unusedSimpArgs false
set_option linter.unusedVariables false
set_option maxRecDepth 4096
open Go.RowKit S19 S20

theorem lt_of_get {X Y : World} {b : Nat} (e : X.heap[b]? = Y.heap[b]?) (h : b < Y.heap.size) : b < X.heap.size := by
  rcases Nat.lt_or_ge b X.heap.size with q | q
  · exact q
  · rw [Array.getElem?_eq_none q, Array.getElem?_eq_getElem h] at e
    cases e
set_option maxHeartbeats 32000000 in
theorem reservePlays_walk (M : DC) (C : SlC M) (K : RvT M C) (w : World) (hk : K.ok w) (tot bat : Nat) (ht : tot < 18446744073709551616) (hb : bat < 18446744073709551616) (A : Option Addr) (n c : Nat) (hd : List UInt8) (hr : Rd w A n c hd) (B : Option Addr) (nB cB : Nat) (acts : List AcX) (hA : RX w B nB cB acts) :
    Calls Tryz.prog 3 #[.agg #[.int .u64 (tot : Int), .int .u64 (bat : Int), .slice A n c], .slice B nB cB] w fun e w' => e = .returned (.bool true) ∧ Below w.heap.size w w' := by
  obtain ⟨N0, hN0⟩ : ∃ N, N = w.heap.size := ⟨_, rfl⟩
  obtain ⟨w0, hw0⟩ : ∃ w0, w0 = w.alloc (.cells #[.int .u64 (tot : Int), .int .u64 (bat : Int), .slice A n c] 25) := ⟨_, rfl⟩
  obtain ⟨N, hN⟩ : ∃ N, N = w0.heap.size := ⟨_, rfl⟩
  have hsz : w0.heap.size = w.heap.size + 1 := by rw [hw0]; simp
  have HN0 := Lib.hid hN0
  have HW := Lib.hid hw0
  have HN := Lib.hid hN
  have B00 := Lib.hid (show Below N0 w w0 by rw [hw0, hN0]; exact (Below.refl _ _).alloc (Nat.le_refl _) _)
  have S0 := Lib.hid (show Bk w0 N0 25 #[.int .u64 (tot : Int), .int .u64 (bat : Int), .slice A n c] by rw [hw0]; exact Bk.newAt _ _ _ _ hN0.symm)
  have LN := Lib.hid (show N0 < N by omega)
  have OKN := Lib.hid (show ∀ X, Below N w0 X → K.ok X from fun X hX => K.bel hk (by rw [← hN0]; exact B00.out.trans (hX.mono (Nat.le_of_lt LN.out))))
  have SZ := Lib.hid (show ∀ X, Below N w0 X → N ≤ X.heap.size from fun X hX => by rw [hN]; exact hX.size)
  have GR := Lib.hid (show ∀ X Y, Below N w0 X → Below X.heap.size X Y → Below N w0 Y from fun X Y p q => p.trans (q.mono (SZ.out X p)))
  have KS := Lib.hid (show ∀ X, Below N w0 X → X.cell? ⟨N0, 0, none⟩ = some (.int .u64 (tot : Int)) ∧ X.cell? ⟨N0, 1, none⟩ = some (.int .u64 (bat : Int)) ∧ X.cell? ⟨N0, 2, none⟩ = some (.slice A n c) from fun X hX => by have q := S0.out.below hX LN.out; exact ⟨q.cell 0, q.cell 1, q.cell 2⟩)
  have RH := Lib.hid (show ∀ X, Below N w0 X → Rd X A n c hd from fun X hX => hr.below (by rw [← hN0]; exact B00.out.trans (hX.mono (Nat.le_of_lt LN.out))))
  have HAN := Lib.hid (show ∀ a, 0 < n → A = some a → a.block < N from fun a h1 h2 => by
    obtain ⟨x, off, e, hb, _⟩ := hr.at_ h1
    rw [h2] at e
    injection e with e
    subst e
    show x < N
    omega)
  have CA := Lib.hid (show Calls Tryz.prog 5 #[] w0 fun e w' => e = .returned (.bool true) ∧ Below w0.heap.size w0 w' from awake21_any M C K.toRvC w0 (OKN.out w0 (Below.refl _ _)))
  by_cases hl : 300 < n
  · have t0 : (300 : Int) < (n : Int) := by omega
    clear hk ht hb hr hA hN0 hw0 hN hsz hl
    go_enter Tryz.func3, Tryz.ntmps3
    go_upto_region 1 with (fail)
    rw [← HN0.out, ← HW.out]
    go_upto_region 3 with (go_at_call 5; ((with_reducible refine CA.out.mono ?_); rintro e w1 ⟨rfl, b1⟩; have B1 := Lib.hid (show Below N w0 w1 by rw [HN.out]; exact b1); clear b1))
    obtain ⟨c0, c1, c2⟩ := KS.out w1 B1.out
    go_wp2
    go_ret
    exact ⟨rfl, by have h9 := B00.out.trans (B1.out.mono (Nat.le_of_lt LN.out)); first | exact h9 | (rw [← HN0.out]; exact h9)⟩
  have t0 : ¬ (300 : Int) < (n : Int) := by omega
  have hn : n ≤ 100000 := by omega
  have C1 := Lib.hid (show ∀ X, Below N w0 X → Calls Tryz.prog 6 #[.int .i64 16] X fun e w' => ∃ g F, e = .returned (.tuple #[.pointer (some ⟨g, 0, none⟩), .int .i64 0]) ∧ M.Is N w' g aD0 F ∧ Below N X w' from fun X hX => made_disk M C K.toRvC X (OKN.out X hX) (SZ.out X hX))
  have C2 := Lib.hid (show ∀ X g F, Below N w0 X → M.Is N X g aD0 F → Calls Tryz.prog 7 #[.int .i64 16] X fun e w' => ∃ h G, e = .returned (.pointer (some ⟨h, 0, none⟩)) ∧ (M.Is N w' g aD0 F ∧ Rk N w' h (.slice none 0 0) aD0 G ∧ ∀ b, F b → ¬ G b) ∧ Below X.heap.size X w' from fun X g F hX hI => start2 hI (SZ.out X hX))
  have C3 := Lib.hid (show ∀ X g h F G, Below N w0 X → (M.Is N X g aD0 F ∧ Rk N X h (.slice none 0 0) aD0 G ∧ ∀ b, F b → ¬ G b) → Calls Tryz.prog 8 #[.pointer (some ⟨g, 0, none⟩), .int .i64 0, .int .i64 8] X fun e w' => ∃ s F' S', e = .returned (.tuple #[.pointer (some ⟨s, 0, none⟩), .int .i64 0]) ∧ (Lz M C N w' g s aD0 aZ0 F' S' ∧ Rk N w' h (.slice none 0 0) aD0 G ∧ ∀ b, Or2 F' S' b → ¬ G b) ∧ Below N X w' from fun X g h F G hX hI => start3 K.toRvC (OKN.out X hX) hI.1 hI.2.1 hI.2.2)
  have C4 := Lib.hid (show ∀ X g s h F S G, Below N w0 X → (Lz M C N X g s aD0 aZ0 F S ∧ Rk N X h (.slice none 0 0) aD0 G ∧ ∀ b, Or2 F S b → ¬ G b) → Calls Tryz.prog 9 #[.pointer (some ⟨h, 0, none⟩), .int .i64 0, .int .i64 8] X fun e w' => ∃ q, e = .returned (.pointer (some ⟨q, 0, none⟩)) ∧ (∃ G R T, Bo M C N w' g s h q (.slice none 0 0) 0 aD0 aZ0 aD0 aZ0 F S G R T) ∧ Below X.heap.size X w' from fun X g s h F S G hX hI => start4 (SZ.out X hX) hI.1 hI.2.1 hI.2.2)
  obtain ⟨nc, hnc⟩ : ∃ v, v = Cn.newC tot bat hd aZ0 aD0 := ⟨_, rfl⟩
  obtain ⟨ZN, hZN⟩ : ∃ v, v = Cn.newZ tot bat hd aZ0 aD0 := ⟨_, rfl⟩
  obtain ⟨DN, hDN⟩ : ∃ v, v = Cn.newD tot bat hd aZ0 aD0 := ⟨_, rfl⟩
  have C5 := Lib.hid (show ∀ X g s h q, Below N w0 X → (∃ F S G R T, Bo M C N X g s h q (.slice none 0 0) 0 aD0 aZ0 aD0 aZ0 F S G R T) → Calls Tryz.prog 10 #[.pointer (some ⟨s, 0, none⟩), .slice A n c, .int .u64 (tot : Int), .int .u64 (bat : Int)] X fun e w' => ∃ p, e = .returned (.tuple #[.pointer p, .int .i64 (nc : Int)]) ∧ Below N X w' ∧
      ∀ Y, Below w'.heap.size w' Y → Calls Tryz.prog 11 #[.pointer (some ⟨q, 0, none⟩), .slice A n c, .int .u64 (tot : Int), .int .u64 (bat : Int)] Y fun e w'' => ∃ kc k', e = .returned (.tuple #[.pointer (some ⟨kc, 0, none⟩), .int .i64 (nc : Int)]) ∧ k' ≤ 0 + 1 ∧ PlC M C K.toRvC N w'' g s h q kc (.pointer p) DN ZN k' ∧ Below N Y w'' from fun X g s h q hX ⟨F, S, G, R, T, hI⟩ => by
    rw [hnc, hZN, hDN]
    exact start5 K.toRvC hI (fun Y hY => OKN.out Y (hX.trans hY)) (fun Y hY => RH.out Y (hX.trans hY)) HAN.out ht hb (by decide) (by decide) hn)
  have NCO := Lib.hid (show DN.cnt ≤ 10 * (0 + 1) ∧ DN.sure.length = 16 ∧ ZN.n = 8 from by
    have h := new_costs tot bat hd aZ0 aD0
    rw [← hZN, ← hDN] at h
    exact ⟨Nat.le_trans h.1 (by decide), h.2.1.trans (by decide), h.2.2.1.trans rfl⟩)
  have HTB := Lib.hid (show tot < 18446744073709551616 ∧ bat < 18446744073709551616 ∧ n ≤ 100000 from ⟨ht, hb, hn⟩)
  have HAC := Lib.hid hA
  clear hk ht hb hr hA hN0 hw0 hN hsz hl hn hnc hZN hDN
  go_enter Tryz.func3, Tryz.ntmps3
  go_upto_region 1 with (fail)
  rw [← HN0.out, ← HW.out]
  go_upto_region 3 with (go_at_call 5; ((with_reducible refine CA.out.mono ?_); rintro e w1 ⟨rfl, b1⟩; have B1 := Lib.hid (show Below N w0 w1 by rw [HN.out]; exact b1); clear b1))
  obtain ⟨c0, c1, c2⟩ := KS.out w1 B1.out
  go_upto_region 13 with (first
    | (go_at_call 6; ((with_reducible refine (C1.out w1 B1.out).mono ?_); rintro e w2 ⟨g, F2, rfl, i2, b2⟩; have I2 := Lib.hid i2; have B2 := Lib.hid (B1.out.trans b2); clear i2 b2 c0 c1 c2))
    | (go_at_call 7; ((with_reducible refine (C2.out w2 g F2 B2.out I2.out).mono ?_); rintro e w3 ⟨h, G3, rfl, i3, b3⟩; have I3 := Lib.hid i3; have B3 := Lib.hid (GR.out _ _ B2.out b3); clear i3 b3))
    | (go_at_call 8; ((with_reducible refine (C3.out w3 g h F2 G3 B3.out I3.out).mono ?_); rintro e w4 ⟨s, F4, S4, rfl, i4, b4⟩; have I4 := Lib.hid i4; have B4 := Lib.hid (B3.out.trans b4); clear i4 b4))
    | (go_at_call 9; ((with_reducible refine (C4.out w4 g s h F4 S4 G3 B4.out I4.out).mono ?_); rintro e w5 ⟨q, rfl, i5, b5⟩; have I5 := Lib.hid (show ∃ F S G R T, Bo M C N w5 g s h q (.slice none 0 0) 0 aD0 aZ0 aD0 aZ0 F S G R T from ⟨F4, S4, i5⟩); have B5 := Lib.hid (GR.out _ _ B4.out b5); clear i5 b5)))
  clear I2 I3 I4 C1 C2 C3 C4 CA
  obtain ⟨c0, c1, c2⟩ := KS.out w5 B5.out
  go_upto_region 15 with (first
    | (go_at_call 10; ((with_reducible refine (C5.out w5 g s h q B5.out I5.out).mono ?_); rintro e w6 ⟨p, rfl, b6, n6⟩; have N6 := Lib.hid n6; have B6 := Lib.hid (B5.out.trans b6); clear n6 b6 c0 c1 c2; obtain ⟨c0, c1, c2⟩ := KS.out w6 B6.out))
    | (go_at_call 11; ((with_reducible refine (N6.out w6 (Below.refl _ _)).mono ?_); rintro e w7 ⟨kc, k7, rfl, n7, p7, b7⟩; have N7 := Lib.hid n7; have P7 := Lib.hid p7; have B7 := Lib.hid (B6.out.trans b7); clear n7 p7 b7 c0 c1 c2)))
  obtain ⟨hcb, hck⟩ := P7.out.isb
  go_upto_region 17 with (fail)
  clear hcb hck
  have P0 := Lib.hid (show PlJ M C K.toRvC N g h 0 (.pointer (some ⟨s, 0, none⟩)) (.pointer (some ⟨q, 0, none⟩)) (.pointer p) (.pointer (some ⟨kc, 0, none⟩)) w0 w7 from ⟨s, q, kc, k7, DN, ZN, rfl, rfl, rfl, P7.out, NCO.out.1, N7.out, NCO.out.2.2, NCO.out.2.1, B7.out⟩)
  clear P7 N7 N6 B6 B5 B4 B3 B2 I5 C5 NCO
  go_wp2_with (fail)
  go_loopg [8, 10, 11, 12, 13, 14, 15, 16, 17, 18, 19, 20] 61 (fun f sv ov cv ev kv fv iv s16 s17 s18 s19 s20 wr => ∃ i : Nat, i + f = 61 ∧ i ≤ nB ∧ iv = .int .i64 (i : Int) ∧ PlJ M C K.toRvC N g h i sv ov cv kv w0 wr)
  case atStart => exact ⟨0, rfl, Nat.zero_le _, rfl, P0.out⟩
  case round =>
    obtain ⟨i, hif, hin, rfl, s1, q1, kc1, k1, D, Z, rfl, rfl, rfl, hPl, hcn, hkk, hzn, hsl, hB⟩ := hrel
    have HPL := Lib.hid hPl
    have BR := Lib.hid hB
    have HNU := Lib.hid (show D.cnt ≤ 10 * (i + 1) ∧ k1 ≤ i + 1 ∧ Z.n = 8 ∧ D.sure.length = 16 from ⟨hcn, hkk, hzn, hsl⟩)
    have HIF := Lib.hid (show i + gk = 61 ∧ i ≤ nB from ⟨hif, hin⟩)
    have FIN := Lib.hid (show ∀ X, Below N w0 X → Below N0 w X from fun X hX => B00.out.trans (hX.mono (Nat.le_of_lt LN.out)))
    clear hPl hB hcn hkk hzn hsl hif hin P0 B1
    by_cases h1 : i < nB ∧ i < 60
    · obtain ⟨h1, h2⟩ := h1
      have t1 : (i : Int) < (nB : Int) := by omega
      have t2 : (i : Int) < 60 := by omega
      have HI9 := Lib.hid (show i < nB ∧ i < 60 from ⟨h1, h2⟩)
      obtain ⟨ba, oa, rfl, hba, hat⟩ := HAC.out.at_ (by omega)
      obtain ⟨ac, hac⟩ : ∃ ac, ac = acts.getD i default := ⟨_, rfl⟩
      obtain ⟨hok, hcl⟩ := hat i h1
      rw [← hac] at hok hcl
      have BRW := Lib.hid (show Below w.heap.size w wr by rw [← HN0.out]; exact FIN.out _ BR.out)
      have KA := Lib.hid (show ∀ q, q < 4 → wr.cell? ⟨ba, oa + i * 4 + q, none⟩ = ac.cells[q]? from fun q hq => (BRW.out.cell (p := ⟨ba, oa + i * 4 + q, none⟩) hba).trans (hcl q hq))
      have HOK := Lib.hid hok
      clear hac hba hat hok hcl h1 h2
      obtain ⟨kd, Ac, cn, cc, ch, Af, fn, fc, fs, st⟩ := ac
      have c0 : wr.cell? ⟨ba, oa + i * 4, none⟩ = some (.int .i64 kd) := KA.out 0 (by omega)
      have c1 : wr.cell? ⟨ba, oa + i * 4 + 1, none⟩ = some (.slice Ac cn cc) := KA.out 1 (by omega)
      have c2 : wr.cell? ⟨ba, oa + i * 4 + 2, none⟩ = some (.slice Af fn fc) := KA.out 2 (by omega)
      have c3 : wr.cell? ⟨ba, oa + i * 4 + 3, none⟩ = some (.int .i64 st) := KA.out 3 (by omega)
      obtain ⟨pa, hpa⟩ : ∃ pa, pa = wr.heap.size := ⟨_, rfl⟩
      go_upto_region 21 with (fail)
      rw [← hpa]
      have GA := Lib.hid (show Below wr.heap.size wr (wr.alloc (.cells #[.int .i64 kd, .slice Ac cn cc, .slice Af fn fc, .int .i64 st] 53)) from (Below.refl _ _).alloc (Nat.le_refl _) _)
      have TA := Lib.hid (show Bk (wr.alloc (.cells #[.int .i64 kd, .slice Ac cn cc, .slice Af fn fc, .int .i64 st] 53)) pa 53 #[.int .i64 kd, .slice Ac cn cc, .slice Af fn fc, .int .i64 st] from Bk.newAt _ _ _ _ hpa.symm)
      have PA := Lib.hid (show N ≤ pa by rw [hpa]; exact SZ.out _ BR.out)
      have PA2 := Lib.hid (show wr.heap.size ≤ pa from Nat.le_of_eq hpa.symm)
      clear hpa c0 c1 c2 c3 KA
      generalize wr.alloc (.cells #[.int .i64 kd, .slice Ac cn cc, .slice Af fn fc, .int .i64 st] 53) = wa at *
      have BA := Lib.hid (GR.out _ _ BR.out GA.out)
      have HPA := Lib.hid (HPL.out.grow GA.out)
      have BG := Lib.hid (show ∀ X, Calls Tryz.prog 12 #[.agg #[.int .i64 kd, .slice Ac cn cc, .slice Af fn fc, .int .i64 st]] X fun e w' => e = .returned (.bool (bigX cn fn)) ∧ Below X.heap.size X w' from fun X => big21_any kd Ac cn cc Af fn fc st X)
      obtain ⟨bg, hbg⟩ : ∃ bg, bg = bigX cn fn := ⟨_, rfl⟩
      rw [← hbg] at BG
      have HBG := Lib.hid hbg
      clear hbg
      have c0 : wa.cell? ⟨pa, 0, none⟩ = some (.int .i64 kd) := TA.out.cell 0
      have c1 : wa.cell? ⟨pa, 1, none⟩ = some (.slice Ac cn cc) := TA.out.cell 1
      have c2 : wa.cell? ⟨pa, 2, none⟩ = some (.slice Af fn fc) := TA.out.cell 2
      have c3 : wa.cell? ⟨pa, 3, none⟩ = some (.int .i64 st) := TA.out.cell 3
      cases bg
      · go_upto_region 25 with (go_at_call 12; ((with_reducible refine (BG.out _).mono ?_); rintro e wb ⟨rfl, bb⟩; have GB := Lib.hid bb; clear bb))
        have BB := Lib.hid (GR.out _ _ BA.out GB.out)
        have TB := Lib.hid (TA.out.below GB.out TA.out.lt)
        have HPB := Lib.hid (HPA.out.grow GB.out)
        have GAB := Lib.hid (show Below wr.heap.size wr wb from GA.out.trans (GB.out.mono GA.out.size))
        clear c0 c1 c2 c3 TA BA HPA GA GB BR
        have d0 : wb.cell? ⟨pa, 0, none⟩ = some (.int .i64 kd) := TB.out.cell 0
        have d1 : wb.cell? ⟨pa, 1, none⟩ = some (.slice Ac cn cc) := TB.out.cell 1
        have d2 : wb.cell? ⟨pa, 2, none⟩ = some (.slice Af fn fc) := TB.out.cell 2
        have d3 : wb.cell? ⟨pa, 3, none⟩ = some (.int .i64 st) := TB.out.cell 3
        go_upto_block 2 with (fail)
        go_cut [8, 10, 11, 12, 13, 14, 17, 18, 19, 20] from 95 to 208 (fun sv ov cv' ev' kv fv' s17 s18 s19 s20 wx => ∃ ec : Nat, ev' = .int .i64 (ec : Int) ∧ fv' = .int .i64 (ec : Int) ∧ PlJ M C K.toRvC N g h (i + 1) sv ov cv' kv w0 wx)
        case first =>
         as_aux_lemma =>
          have FN3 := Lib.hid (show fn ≤ 1099511627776 from by
            have h := HBG.out
            simp only [bigX] at h
            have h3 : decide (300 < fn) = false := (Bool.or_eq_false_iff.1 h.symm).2
            have := of_decide_eq_false h3
            omega)
          have FIW := Lib.hid (show ∀ X, Below N w0 X → Below w.heap.size w X from fun X hX => by rw [← HN0.out]; exact FIN.out X hX)
          have RFS := Lib.hid (show ∀ X, Below N w0 X → RI X .i64 Af fn fc fs from fun X hX => HOK.out.fs.below (FIW.out X hX))
          have RCH := Lib.hid (show ∀ X, Below N w0 X → Rd X Ac cn cc ch from fun X hX => HOK.out.ch.below (FIW.out X hX))
          have FLN := Lib.hid (show ∀ a, 0 < fn → Af = some a → a.block < N from fun a h1 h2 => by
            obtain ⟨x, off, e, hb, _⟩ := HOK.out.fs.at_ h1
            rw [h2] at e
            injection e with e
            subst e
            exact Nat.lt_trans hb (by rw [← HN0.out]; exact LN.out))
          have CLN := Lib.hid (show ∀ a, 0 < cn → Ac = some a → a.block < N from fun a h1 h2 => by
            obtain ⟨x, off, e, hb, _⟩ := HOK.out.ch.at_ h1
            rw [h2] at e
            injection e with e
            subst e
            exact Nat.lt_trans hb (by rw [← HN0.out]; exact LN.out))
          have NU1 := Lib.hid (show D.cnt < 1099511600000 ∧ k1 < 1000000 ∧ D.cnt ≤ 10 * (i + 1 + 1) ∧ k1 + 1 ≤ i + 1 + 1 from ⟨by have := HNU.out.1; have := HI9.out.2; omega, by have := HNU.out.2.1; have := HI9.out.2; omega, by have := HNU.out.1; omega, by have := HNU.out.2.1; omega⟩)
          by_cases k0 : kd = 0
          · subst k0
            rcases HPB.out with ⟨cc1, L1, x, hd1, F, S, U, G, R, T, V, rfl, hxo, hpo⟩ | ⟨L1, F, S, G, R, T, rfl, hpz⟩
            · have T1 := Lib.hid (both_take K.toRvC hpo (OKN.out _ BB.out) hxo (by have := HNU.out.1; have := HI9.out.2; omega) (by have := HNU.out.2.1; have := HI9.out.2; omega))
              have TC := Lib.hid (take_costs x hd1 Z D)
              obtain ⟨tn, htn⟩ : ∃ v, v = x.takeN hd1 Z D := ⟨_, rfl⟩
              obtain ⟨tc, htc⟩ : ∃ v, v = x.takeC hd1 Z D := ⟨_, rfl⟩
              rw [← htn, ← htc] at T1
              clear htn htc hpo hxo d0 d1 d2 d3
              go_wp2_with (first
                | (go_at_call 13; ((with_reducible refine T1.out.mono ?_); rintro e w6 ⟨rfl, b6, n6⟩; have N6 := Lib.hid n6; have B6 := Lib.hid (BB.out.trans b6); clear b6 n6))
                | (go_at_call 14; ((with_reducible refine (N6.out w6 (Below.refl _ _)).mono ?_); rintro e w7 ⟨rfl, ⟨k7, n7, p7⟩, b7⟩; have N7 := Lib.hid n7; have P7 := Lib.hid p7; have B7 := Lib.hid (B6.out.trans b7); clear n7 p7 b7)))
              go_meet
              have h1 := HNU.out
              have h2 := TC.out
              exact ⟨0, rfl, rfl, s1, q1, kc1, k7, _, _, rfl, rfl, rfl, P7.out, by omega, by have := N7.out; omega, by omega, by omega, B7.out⟩
            · have h1 := HNU.out
              go_wp2_with (fail)
              go_meet
              exact ⟨0, rfl, rfl, s1, q1, kc1, k1, D, Z, rfl, rfl, rfl, .inr ⟨L1, F, S, G, R, T, rfl, hpz⟩, by omega, by omega, by omega, by omega, BB.out⟩
          by_cases k1' : kd = 1
          · subst k1'
            rcases HPB.out with ⟨cc1, L1, x, hd1, F, S, U, G, R, T, V, rfl, hxo, hpo⟩ | ⟨L1, F, S, G, R, T, rfl, hpz⟩
            · have T1 := Lib.hid (both_ret K hpo (OKN.out _ BB.out) hxo (by have := HNU.out.1; have := HI9.out.2; omega) (by have := HNU.out.2.1; have := HI9.out.2; omega))
              have TC := Lib.hid (ret_costs x hd1 Z D)
              obtain ⟨tc, htc⟩ : ∃ v, v = x.retC hd1 Z D := ⟨_, rfl⟩
              rw [← htc] at T1
              clear htc hpo hxo d0 d1 d2 d3
              go_wp2_with (first
                | (go_at_call 15; ((with_reducible refine T1.out.mono ?_); rintro e w6 ⟨rfl, b6, n6⟩; have N6 := Lib.hid n6; have B6 := Lib.hid (BB.out.trans b6); clear b6 n6))
                | (go_at_call 16; ((with_reducible refine (N6.out w6 (Below.refl _ _)).mono ?_); rintro e w7 ⟨rfl, ⟨k7, n7, p7⟩, b7⟩; have N7 := Lib.hid n7; have P7 := Lib.hid p7; have B7 := Lib.hid (B6.out.trans b7); clear n7 p7 b7)))
              go_meet
              have h1 := HNU.out
              have h2 := TC.out
              exact ⟨0, rfl, rfl, s1, q1, kc1, k7, _, _, rfl, rfl, rfl, P7.out, by omega, by have := N7.out; omega, by omega, by omega, B7.out⟩
            · have h1 := HNU.out
              go_wp2_with (fail)
              go_meet
              exact ⟨0, rfl, rfl, s1, q1, kc1, k1, D, Z, rfl, rfl, rfl, .inr ⟨L1, F, S, G, R, T, rfl, hpz⟩, by omega, by omega, by omega, by omega, BB.out⟩
          by_cases kr : kd = 2 ∨ kd = 3 ∨ kd = 4 ∨ kd = 5 ∨ kd = 6
          rotate_left
          · have k2' : ¬ kd = 2 := fun e => kr (.inl e)
            have k3' : ¬ kd = 3 := fun e => kr (.inr (.inl e))
            have k4' : ¬ kd = 4 := fun e => kr (.inr (.inr (.inl e)))
            have k5' : ¬ kd = 5 := fun e => kr (.inr (.inr (.inr (.inl e))))
            have k6' : ¬ kd = 6 := fun e => kr (.inr (.inr (.inr (.inr e))))
            have HH := Lib.hid (show D.cnt ≤ 10 * (i + 1 + 1) ∧ k1 ≤ i + 1 + 1 from ⟨by have := HNU.out.1; omega, by have := HNU.out.2.1; omega⟩)
            clear kr
            go_wp2_with (fail)
            go_meet
            exact ⟨0, rfl, rfl, s1, q1, kc1, k1, D, Z, rfl, rfl, rfl, HPB.out, HH.out.1, HH.out.2, HNU.out.2.2.1, HNU.out.2.2.2, BB.out⟩
          have kcs : ∀ v : Int, kd = v → Bk wb pa 53 #[.int .i64 v, .slice Ac cn cc, .slice Af fn fc, .int .i64 st] := fun v e => by rw [← e]; exact TB.out
          by_cases k2' : kd = 2
          · have JB := Lib.hid (HPL.out.jb GAB.out PA2.out (kcs 2 k2'))
            subst k2'
            obtain ⟨DU, hDU⟩ : ∃ DU, DU = D.up ch fs st := ⟨_, rfl⟩
            have HDU := Lib.hid (show DU.cnt = 0 ∧ DU.sure.length = 16 from ⟨by rw [hDU]; rfl, by rw [hDU]; exact (Dk.tear_len _ _ _ _).trans HNU.out.2.2.2⟩)
            have U1 := Lib.hid (show Calls Tryz.prog 19 #[.pointer (some ⟨g, 0, none⟩), .slice Ac cn cc, .agg #[.slice Af fn fc, .int .i64 st]] wb fun e w' => e = .returned (.tuple #[]) ∧ Jb M C N g h pa 53 #[.int .i64 2, .slice Ac cn cc, .slice Af fn fc, .int .i64 st] s1 q1 k1 DU D Z Z w' ∧ Below N wb w' from by rw [hDU]; exact JB.out.up1 (K.okC (OKN.out _ BB.out)) (RCH.out _ BB.out) CLN.out (RFS.out _ BB.out) FLN.out FN3.out)
            have U2 := Lib.hid (show ∀ X, Below N w0 X → Jb M C N g h pa 53 #[.int .i64 2, .slice Ac cn cc, .slice Af fn fc, .int .i64 st] s1 q1 k1 DU D Z Z X → Calls Tryz.prog 20 #[.pointer (some ⟨h, 0, none⟩), .slice Ac cn cc, .agg #[.slice Af fn fc, .int .i64 st]] X fun e w' => e = .returned (.tuple #[]) ∧ Jb M C N g h pa 53 #[.int .i64 2, .slice Ac cn cc, .slice Af fn fc, .int .i64 st] s1 q1 k1 DU DU Z Z w' ∧ Below N X w' from fun X hX hJ => by
              have q := hJ.up2 (RCH.out _ hX) CLN.out (RFS.out _ hX) FLN.out (st := st)
              rw [← hDU] at q
              exact q)
            clear hDU kcs kr k0 k1'
            go_upto_region 46 with (go_at_call 19; ((with_reducible refine U1.out.mono ?_); rintro e w6 ⟨rfl, j6, b6⟩; have J6 := Lib.hid j6; have B6 := Lib.hid (BB.out.trans b6); clear j6 b6))
            clear d0 d1 d2 d3
            have d1 : w6.cell? ⟨pa, 1, none⟩ = some (.slice Ac cn cc) := J6.out.pk.cell 1
            have d2 : w6.cell? ⟨pa, 2, none⟩ = some (.slice Af fn fc) := J6.out.pk.cell 2
            have d3 : w6.cell? ⟨pa, 3, none⟩ = some (.int .i64 st) := J6.out.pk.cell 3
            go_upto_region 47 with (go_at_call 20; ((with_reducible refine (U2.out w6 B6.out J6.out).mono ?_); rintro e w7 ⟨rfl, j7, b7⟩; have J7 := Lib.hid j7; have B7 := Lib.hid (B6.out.trans b7); clear j7 b7))
            clear d1 d2 d3
            go_upto_region 51 with (first
              | (go_at_call 8; ((with_reducible refine (J7.out.slots1 (K.okC (OKN.out _ B7.out)) HDU.out.2).mono ?_); rintro e w8 ⟨s8, rfl, j8, b8⟩; have J8 := Lib.hid j8; have B8 := Lib.hid (B7.out.trans b8); clear j8 b8))
              | (go_at_call 9; ((with_reducible refine (J8.out.slots2 HDU.out.2).mono ?_); rintro e w9 ⟨q9, rfl, j9, b9⟩; have J9 := Lib.hid j9; have B9 := Lib.hid (B8.out.trans b9); clear j9 b9)))
            have e0 : w9.cell? ⟨pa, 0, none⟩ = some (.int .i64 2) := J9.out.pk.cell 0
            have NW := Lib.hid (J9.out.opn K.toRvC (OKN.out _ B9.out))
            obtain ⟨nn, hnn⟩ : ∃ v, v = Cn.openC (Sl.new 0 8) DU := ⟨_, rfl⟩
            rw [← hnn] at NW
            clear hnn
            go_wp2_with (first
              | (go_at_call 21; ((with_reducible refine NW.out.mono ?_); rintro e w10 ⟨p, rfl, b10, n10⟩; have N10 := Lib.hid n10; have B10 := Lib.hid (B9.out.trans b10); clear n10 b10))
              | (go_at_call 22; ((with_reducible refine (N10.out w10 (Below.refl _ _)).mono ?_); rintro e w11 ⟨kc, k9, rfl, n11, p11, b11⟩; have N11 := Lib.hid n11; have P11 := Lib.hid p11; have B11 := Lib.hid (B10.out.trans b11); clear n11 p11 b11)))
            go_meet
            exact ⟨nn, rfl, rfl, s8, q9, kc, k9, DU, _, rfl, rfl, rfl, P11.out, by rw [HDU.out.1]; exact Nat.zero_le _, Nat.le_trans N11.out NU1.out.2.2.2, (load_n _ _).1.trans rfl, HDU.out.2, B11.out⟩
          by_cases k3' : kd = 3
          · have SP := Lib.hid (HPL.out.plan1 GAB.out PA2.out (kcs 3 k3') (K.okC (OKN.out _ BB.out)) (fun Y hY => RFS.out Y (BB.out.trans hY)) FLN.out FN3.out (st := st))
            subst k3'
            clear kcs kr k0 k1' k2'
            go_upto_region 37 with (go_at_call 17; ((with_reducible refine SP.out.mono ?_); rintro e w6 ⟨rfl, t6, ⟨L6, V6, hV⟩, p6, b6, b7⟩; have T6 := Lib.hid t6; have P6 := Lib.hid p6; have B7 := Lib.hid (BB.out.trans b7); clear t6 p6 b6 b7))
            clear d0 d1 d2 d3
            have d2 : w6.cell? ⟨pa, 2, none⟩ = some (.slice Af fn fc) := T6.out.cell 2
            have d3 : w6.cell? ⟨pa, 3, none⟩ = some (.int .i64 st) := T6.out.cell 3
            have r4 : w6.cell? ⟨h, 4, none⟩ = some (.slice V6.AF V6.nF V6.cF) := hV.cell 4
            have r5 : w6.cell? ⟨h, 5, none⟩ = some (.int .i64 D.stop) := hV.cell 5
            have f4 := hV.frozen 4
            have f5 := hV.frozen 5
            clear hV
            go_wp2_with (fail)
            go_meet
            exact ⟨0, rfl, rfl, s1, q1, kc1, k1, D.plan fs st, Z, rfl, rfl, rfl, P6.out, NU1.out.2.2.1, Nat.le_of_lt NU1.out.2.2.2, HNU.out.2.2.1, HNU.out.2.2.2, B7.out⟩
          by_cases k4' : kd = 4
          · have SP := Lib.hid (HPB.out.stop1 (K.okC (OKN.out _ BB.out)))
            subst k4'
            clear kcs kr k0 k1' k2' k3'
            go_upto_region 40 with (go_at_call 18; ((with_reducible refine SP.out.mono ?_); rintro e w6 ⟨rfl, ⟨L6, V6, hV⟩, p6, b6, b7⟩; have P6 := Lib.hid p6; have B7 := Lib.hid (BB.out.trans b7); clear p6 b6 b7))
            clear d0 d1 d2 d3
            have r7 : w6.cell? ⟨h, 7, none⟩ = some (.bool D.off) := hV.cell 7
            have f7 := hV.frozen 7
            clear hV
            go_wp2_with (fail)
            go_meet
            exact ⟨0, rfl, rfl, s1, q1, kc1, k1, D.halt, Z, rfl, rfl, rfl, P6.out, NU1.out.2.2.1, Nat.le_of_lt NU1.out.2.2.2, HNU.out.2.2.1, HNU.out.2.2.2, B7.out⟩
          by_cases k5' : kd = 5
          · have JB := Lib.hid (HPL.out.jb GAB.out PA2.out (kcs 5 k5'))
            subst k5'
            clear kcs kr k0 k1' k2' k3' k4'
            go_upto_region 47 with (fail)
            clear d0 d1 d2 d3
            go_upto_region 51 with (first
              | (go_at_call 8; ((with_reducible refine (JB.out.slots1 (K.okC (OKN.out _ BB.out)) HNU.out.2.2.2).mono ?_); rintro e w8 ⟨s8, rfl, j8, b8⟩; have J8 := Lib.hid j8; have B8 := Lib.hid (BB.out.trans b8); clear j8 b8))
              | (go_at_call 9; ((with_reducible refine (J8.out.slots2 HNU.out.2.2.2).mono ?_); rintro e w9 ⟨q9, rfl, j9, b9⟩; have J9 := Lib.hid j9; have B9 := Lib.hid (B8.out.trans b9); clear j9 b9)))
            have e0 : w9.cell? ⟨pa, 0, none⟩ = some (.int .i64 5) := J9.out.pk.cell 0
            have NW := Lib.hid (J9.out.opn K.toRvC (OKN.out _ B9.out))
            obtain ⟨nn, hnn⟩ : ∃ v, v = Cn.openC (Sl.new 0 8) D := ⟨_, rfl⟩
            rw [← hnn] at NW
            clear hnn
            go_wp2_with (first
              | (go_at_call 21; ((with_reducible refine NW.out.mono ?_); rintro e w10 ⟨p, rfl, b10, n10⟩; have N10 := Lib.hid n10; have B10 := Lib.hid (B9.out.trans b10); clear n10 b10))
              | (go_at_call 22; ((with_reducible refine (N10.out w10 (Below.refl _ _)).mono ?_); rintro e w11 ⟨kc, k9, rfl, n11, p11, b11⟩; have N11 := Lib.hid n11; have P11 := Lib.hid p11; have B11 := Lib.hid (B10.out.trans b11); clear n11 p11 b11)))
            go_meet
            exact ⟨nn, rfl, rfl, s8, q9, kc, k9, D, _, rfl, rfl, rfl, P11.out, NU1.out.2.2.1, Nat.le_trans N11.out NU1.out.2.2.2, (load_n _ _).1.trans rfl, HNU.out.2.2.2, B11.out⟩
          have k6' : kd = 6 := by omega
          · have JB := Lib.hid (HPL.out.jb GAB.out PA2.out (kcs 6 k6'))
            subst k6'
            clear kcs kr k0 k1' k2' k3' k4' k5'
            go_upto_region 47 with (fail)
            clear d0 d1 d2 d3
            go_upto_region 51 with (first
              | (go_at_call 8; ((with_reducible refine (JB.out.slots1 (K.okC (OKN.out _ BB.out)) HNU.out.2.2.2).mono ?_); rintro e w8 ⟨s8, rfl, j8, b8⟩; have J8 := Lib.hid j8; have B8 := Lib.hid (BB.out.trans b8); clear j8 b8))
              | (go_at_call 9; ((with_reducible refine (J8.out.slots2 HNU.out.2.2.2).mono ?_); rintro e w9 ⟨q9, rfl, j9, b9⟩; have J9 := Lib.hid j9; have B9 := Lib.hid (B8.out.trans b9); clear j9 b9)))
            have e0 : w9.cell? ⟨pa, 0, none⟩ = some (.int .i64 6) := J9.out.pk.cell 0
            obtain ⟨c0, c1, c2⟩ := KS.out w9 B9.out
            have NC := Lib.hid (new_costs tot bat hd (Sl.new 0 8) D)
            have NW := Lib.hid (J9.out.new K.toRvC (fun Y hY => OKN.out Y (B9.out.trans hY)) (fun Y hY => RH.out Y (B9.out.trans hY)) HAN.out HTB.out.1 HTB.out.2.1 NU1.out.1 NU1.out.2.1 HTB.out.2.2)
            obtain ⟨nn, hnn⟩ : ∃ v, v = Cn.newC tot bat hd (Sl.new 0 8) D := ⟨_, rfl⟩
            rw [← hnn] at NW
            clear hnn
            go_upto_region 53 with (go_at_call 10; ((with_reducible refine NW.out.mono ?_); rintro e w10 ⟨p, rfl, b10, n10⟩; have N10 := Lib.hid n10; have B10 := Lib.hid (B9.out.trans b10); clear n10 b10))
            clear c0 c1 c2
            obtain ⟨c0, c1, c2⟩ := KS.out w10 B10.out
            go_wp2_with (go_at_call 11; ((with_reducible refine (N10.out w10 (Below.refl _ _)).mono ?_); rintro e w11 ⟨kc, k9, rfl, n11, p11, b11⟩; have N11 := Lib.hid n11; have P11 := Lib.hid p11; have B11 := Lib.hid (B10.out.trans b11); clear n11 p11 b11))
            go_meet
            have h1 := NC.out
            have h2 := HNU.out
            exact ⟨nn, rfl, rfl, s8, q9, kc, k9, _, _, rfl, rfl, rfl, P11.out, by have h3 : (Sl.new 0 8).n = 8 := rfl; have := h1.1; omega, Nat.le_trans N11.out NU1.out.2.2.2, h1.2.2.1.trans rfl, h1.2.1.trans h2.2.2.2, B11.out⟩
        case rest =>
          obtain ⟨ec, rfl, rfl, s2, q2, kc2, k2, D2, Z2, rfl, rfl, rfl, hPl2, hcn2, hkk2, hzn2, hsl2, hB2⟩ := hcut
          obtain ⟨AS, sl, cS, r1, hsl', hlh, hlk, hsu⟩ := hPl2.sure
          obtain ⟨p, rfl, hpp⟩ := hPl2.pt
          obtain ⟨hcb, _⟩ := hPl2.isb
          have HN2 := Lib.hid (show D2.cnt ≤ 10 * (i + 1 + 1) ∧ k2 ≤ i + 1 + 1 ∧ Z2.n = 8 ∧ D2.sure.length = 16 from ⟨hcn2, hkk2, hzn2, hsl2⟩)
          have BC := Lib.hid hB2
          have HSL := Lib.hid hsl'
          have HLH := Lib.hid (show h < wc.heap.size ∧ kc2 < wc.heap.size from ⟨hlh, hlk⟩)
          have SU := Lib.hid (show ∀ X, Below wc.heap.size wc X → Calls Tryz.prog 24 #[.pointer (some ⟨g, 0, none⟩)] X fun e w' => ∃ A c, e = .returned (.slice A sl c) ∧ (S19.Rw w' A sl D2.sure ∧ S19.Rw w' AS sl D2.sure ∧ PlC M C K.toRvC N w' g s2 h q2 kc2 (.pointer p) D2 Z2 k2 ∧ w'.heap[h]? = wc.heap[h]? ∧ w'.heap[kc2]? = wc.heap[kc2]?) ∧ Below N w0 w' from fun X hX => (hsu X hX (K.okC (OKN.out _ (GR.out _ _ BC.out hX)))).mono fun e w' ⟨A, c, h1, h2, h3⟩ => ⟨A, c, h1, h2, (GR.out _ _ BC.out hX).trans h3⟩)
          have KC := Lib.hid (show ∀ X : World, X.heap[h]? = wc.heap[h]? → X.heap[kc2]? = wc.heap[kc2]? → X.cell? ⟨kc2, 0, none⟩ = some (.bool (!p.isNone)) ∧ X.cell? ⟨h, 1, none⟩ = some (.slice AS sl cS) from fun X h1 h2 => ⟨(World.cell?_of_block (a := ⟨kc2, 0, none⟩) h2).trans hcb, (World.cell?_of_block (a := ⟨h, 1, none⟩) h1).trans r1⟩)
          have BD := Lib.hid (Below.refl wc.heap.size wc).drew
          have hec : ((ec : Int) != (ec : Int)) = false := by simp
          clear hPl2 hcn2 hkk2 hzn2 hsl2 hB2 hsl' hlh hlk hsu r1 hcb d0 d1 d2 d3 TB HPB BB PA HPL GAB PA2 HOK HNU
          have HS2 := Lib.hid (show sl ≤ 1099511627776 from Nat.le_trans HSL.out (by decide))
          rcases hpp with rfl | ⟨cc2, rfl⟩
          · simp only [Option.isNone_none, Bool.not_true] at KC
            go_upto_region 56 with (fail)
            (first | (go_region_held3 (fun X => X.cell? ⟨kc2, 0, none⟩ = some (.bool false) ∧ X.cell? ⟨h, 1, none⟩ = some (.slice AS sl cS))
              (first
                | exact KC.out _ ((b10.out.block h H9.out.1).trans I9.out.2.2.2.1) ((b10.out.block kc2 H9.out.2).trans I9.out.2.2.2.2)
                | exact KC.out _ I9.out.2.2.2.1 I9.out.2.2.2.2
                | exact KC.out _ (BD.out.block h HLH.out.1) (BD.out.block kc2 HLH.out.2))
              (first
                | (go_at_call 24; ((with_reducible refine (SU.out wc.drew BD.out).mono ?_); rintro e w9 ⟨A9, c9, rfl, i9, b9⟩; have I9 := Lib.hid i9; have B9 := Lib.hid b9; have H9 := Lib.hid (show h < w9.heap.size ∧ kc2 < w9.heap.size from ⟨lt_of_get I9.out.2.2.2.1 HLH.out.1, lt_of_get I9.out.2.2.2.2 HLH.out.2⟩); clear i9 b9))
                | (go_at_call 23; ((with_reducible refine (rall_any A9 AS sl c9 cS D2.sure w9 I9.out.1 I9.out.2.1 HS2.out).mono ?_); rintro e w10 ⟨rfl, bz⟩; have b10 := Lib.hid bz; have P10 := Lib.hid (I9.out.2.2.1.grow bz); have B10 := Lib.hid (GR.out _ _ B9.out bz); clear bz))
                | fail)) | fail)
            go_upto_region 58 with (fail)
            refine wp_region_steady (fun X => Below w10.heap.size w10 X) (by kernel_rfl) (by kernel_rfl) (Below.refl _ _).drew ?_
            (refine seq_pure (v := ?_) (by rfl) ?_ ?_; rotate_left; (· (intro w' hS; go_simp; try with_reducible rfl)); simp only [Act.put, List.setIfInBounds_toArray, List.set_cons_zero, List.set_cons_succ])
            (refine seq_pure (v := ?_) (by rfl) ?_ ?_; rotate_left; (· (intro w' hS; go_simp; try with_reducible rfl)); simp only [Act.put, List.setIfInBounds_toArray, List.set_cons_zero, List.set_cons_succ])
            (refine seq_pure (v := ?_) (by rfl) ?_ ?_; rotate_left; (· (intro w' hS; go_simp; try with_reducible rfl)); simp only [Act.put, List.setIfInBounds_toArray, List.set_cons_zero, List.set_cons_succ])
            refine seq_skip (by rfl) ?_
            simp only [Act.put, List.setIfInBounds_toArray, List.set_cons_zero, List.set_cons_succ]
            refine seq_skip (by rfl) ?_
            simp only [Act.put, List.setIfInBounds_toArray, List.set_cons_zero, List.set_cons_succ]
            refine seq_skip (by rfl) ?_
            simp only [Act.put, List.setIfInBounds_toArray, List.set_cons_zero, List.set_cons_succ]
            refine seq_skip (by rfl) ?_
            simp only [Act.put, List.setIfInBounds_toArray, List.set_cons_zero, List.set_cons_succ]
            refine seq_skip (by rfl) ?_
            simp only [Act.put, List.setIfInBounds_toArray, List.set_cons_zero, List.set_cons_succ]
            refine seq_skip (by rfl) ?_
            simp only [Act.put, List.setIfInBounds_toArray, List.set_cons_zero, List.set_cons_succ]
            refine seq_skip (by rfl) ?_
            simp only [Act.put, List.setIfInBounds_toArray, List.set_cons_zero, List.set_cons_succ]
            refine seq_skip (by rfl) ?_
            simp only [Act.put, List.setIfInBounds_toArray, List.set_cons_zero, List.set_cons_succ]
            refine seq_skip (by rfl) ?_
            simp only [Act.put, List.setIfInBounds_toArray, List.set_cons_zero, List.set_cons_succ]
            refine seq_skip (by rfl) ?_
            simp only [Act.put, List.setIfInBounds_toArray, List.set_cons_zero, List.set_cons_succ]
            refine seq_skip (by rfl) ?_
            simp only [Act.put, List.setIfInBounds_toArray, List.set_cons_zero, List.set_cons_succ]
            refine seq_skip (by rfl) ?_
            simp only [Act.put, List.setIfInBounds_toArray, List.set_cons_zero, List.set_cons_succ]
            refine seq_skip (by rfl) ?_
            simp only [Act.put, List.setIfInBounds_toArray, List.set_cons_zero, List.set_cons_succ]
            refine seq_skip (by rfl) ?_
            simp only [Act.put, List.setIfInBounds_toArray, List.set_cons_zero, List.set_cons_succ]
            refine seq_skip (by rfl) ?_
            simp only [Act.put, List.setIfInBounds_toArray, List.set_cons_zero, List.set_cons_succ]
            refine seq_skip (by rfl) ?_
            simp only [Act.put, List.setIfInBounds_toArray, List.set_cons_zero, List.set_cons_succ]
            refine seq_skip (by rfl) ?_
            simp only [Act.put, List.setIfInBounds_toArray, List.set_cons_zero, List.set_cons_succ]
            (refine seq_pure (v := ?_) (by rfl) ?_ ?_; rotate_left; (· (intro w' hS; go_simp; try with_reducible rfl)); simp only [Act.put, List.setIfInBounds_toArray, List.set_cons_zero, List.set_cons_succ])
            refine seq_nil ?_
            intro w11 hS11
            have BX := Lib.hid hS11
            clear hS11
            go_wp2_with (fail)
            go_roundg (gk - 1)
            case rel => exact ⟨i + 1, by have := HIF.out; have := HI9.out; omega, HI9.out.1, by go_num, s2, q2, kc2, k2, D2, Z2, rfl, rfl, rfl, P10.out.grow BX.out, HN2.out.1, HN2.out.2.1, HN2.out.2.2.1, HN2.out.2.2.2, GR.out _ _ B10.out BX.out⟩
            case measure => have := HIF.out; have := HI9.out; omega
          · simp only [Option.isNone_some, Bool.not_false] at KC
            go_upto_region 56 with (fail)
            (first | (go_region_held3 (fun X => X.cell? ⟨kc2, 0, none⟩ = some (.bool true) ∧ X.cell? ⟨h, 1, none⟩ = some (.slice AS sl cS))
              (first
                | exact KC.out _ ((b10.out.block h H9.out.1).trans I9.out.2.2.2.1) ((b10.out.block kc2 H9.out.2).trans I9.out.2.2.2.2)
                | exact KC.out _ I9.out.2.2.2.1 I9.out.2.2.2.2
                | exact KC.out _ (BD.out.block h HLH.out.1) (BD.out.block kc2 HLH.out.2))
              (first
                | (go_at_call 24; ((with_reducible refine (SU.out wc.drew BD.out).mono ?_); rintro e w9 ⟨A9, c9, rfl, i9, b9⟩; have I9 := Lib.hid i9; have B9 := Lib.hid b9; have H9 := Lib.hid (show h < w9.heap.size ∧ kc2 < w9.heap.size from ⟨lt_of_get I9.out.2.2.2.1 HLH.out.1, lt_of_get I9.out.2.2.2.2 HLH.out.2⟩); clear i9 b9))
                | (go_at_call 23; ((with_reducible refine (rall_any A9 AS sl c9 cS D2.sure w9 I9.out.1 I9.out.2.1 HS2.out).mono ?_); rintro e w10 ⟨rfl, bz⟩; have b10 := Lib.hid bz; have P10 := Lib.hid (I9.out.2.2.1.grow bz); have B10 := Lib.hid (GR.out _ _ B9.out bz); clear bz))
                | fail)) | fail)
            obtain ⟨L3, x3, hd3, F3, S3, U3, G3, R3, T3, V3, hpo⟩ := P10.out.both
            obtain ⟨Ak, ck, hbk, hrk, _⟩ := hpo.qc.rc.ex
            have ST := Lib.hid (show ∀ X, Below w10.heap.size w10 X → Calls Tryz.prog 25 #[.pointer (some ⟨cc2, 0, none⟩)] X fun e w' => e = .returned (.agg x3.cells) ∧ Below X.heap.size X w' from fun X hX => ((hpo.lv.grow hX).state (OKN.out _ (GR.out _ _ B10.out hX))).mono fun e w' ⟨h1, _, h3⟩ => ⟨h1, h3⟩)
            obtain ⟨hl, hhl⟩ : ∃ l, l = hd3.length := ⟨_, rfl⟩
            have HE := Lib.hid (show ∀ X, Below w10.heap.size w10 X → Calls Tryz.prog 27 #[.pointer (some ⟨cc2, 0, none⟩)] X fun e w' => ∃ A c, e = .returned (.slice A hl c) ∧ Rd w' A hl c hd3 ∧ Below X.heap.size X w' from fun X hX => ((hpo.lv.grow hX).head (OKN.out _ (GR.out _ _ B10.out hX))).mono fun e w' ⟨A, c, h1, h2, _, h3⟩ => by rw [← hhl] at h1 h2; exact ⟨A, c, h1, Rd.own h2, h3⟩)
            have NQ := fun W => run_neq_Cn x3 W
            rw [← hhl] at hbk hrk
            obtain ⟨xa, xb, xc, xd, xe⟩ := x3
            unfold Cn.cells at ST NQ
            simp only at ST NQ hbk
            have KX := Lib.hid (show ∀ X, Below w10.heap.size w10 X → X.cell? ⟨kc2, 1, none⟩ = some (.int .u64 (xa : Int)) ∧ X.cell? ⟨kc2, 2, none⟩ = some (.int .u64 (xb : Int)) ∧ X.cell? ⟨kc2, 3, none⟩ = some (.int .u64 (xc : Int)) ∧ X.cell? ⟨kc2, 4, none⟩ = some (.int .u64 (xd : Int)) ∧ X.cell? ⟨kc2, 5, none⟩ = some (.bool xe) ∧ X.cell? ⟨kc2, 6, none⟩ = some (.slice Ak hl ck) from fun X hX => by
              have q := hbk.below hX hbk.lt
              exact ⟨q.cell 1, q.cell 2, q.cell 3, q.cell 4, q.cell 5, q.cell 6⟩)
            have RK := Lib.hid (show ∀ X, Below w10.heap.size w10 X → Rd X Ak hl ck hd3 from fun X hX => hrk.below hX)
            have BE := Lib.hid (Below.refl w10.heap.size w10).drew
            clear hpo hbk hrk hhl
            go_upto_region 58 with (fail)
            (first | (go_region_held3 (fun X => X.cell? ⟨kc2, 1, none⟩ = some (.int .u64 (xa : Int)) ∧ X.cell? ⟨kc2, 2, none⟩ = some (.int .u64 (xb : Int)) ∧ X.cell? ⟨kc2, 3, none⟩ = some (.int .u64 (xc : Int)) ∧ X.cell? ⟨kc2, 4, none⟩ = some (.int .u64 (xd : Int)) ∧ X.cell? ⟨kc2, 5, none⟩ = some (.bool xe) ∧ X.cell? ⟨kc2, 6, none⟩ = some (.slice Ak hl ck))
              (first
                | exact KX.out _ B13.out
                | exact KX.out _ B12.out
                | exact KX.out _ B11.out
                | exact KX.out _ BE.out)
              (first
                | (go_at_call 25; ((with_reducible refine (ST.out w10.drew BE.out).mono ?_); rintro e w11 ⟨rfl, b11⟩; have B11 := Lib.hid (BE.out.trans (b11.mono BE.out.size)); clear b11))
                | (go_at_call 27; ((with_reducible refine (HE.out w11 B11.out).mono ?_); rintro e w12 ⟨A12, c12, rfl, r12, b12⟩; have R12 := Lib.hid r12; have B12 := Lib.hid (B11.out.trans (b12.mono B11.out.size)); clear r12 b12))
                | (go_at_call 26; ((with_reducible refine (rsame_true A12 Ak hl c12 hl ck hd3 hd3 w12 R12.out (RK.out _ B12.out) rfl).mono ?_); rintro e w13 ⟨rfl, b13⟩; have B13 := Lib.hid (B12.out.trans (b13.mono B12.out.size)); clear b13))
                | fail)) | fail)
            go_wp2_with (fail)
            go_roundg (gk - 1)
            case rel => exact ⟨i + 1, by have := HIF.out; have := HI9.out; omega, HI9.out.1, by go_num, s2, q2, kc2, k2, D2, Z2, rfl, rfl, rfl, P10.out.grow B13.out, HN2.out.1, HN2.out.2.1, HN2.out.2.2.1, HN2.out.2.2.2, GR.out _ _ B10.out B13.out⟩
            case measure => have := HIF.out; have := HI9.out; omega
      · go_wp2_with (go_at_call 12; ((with_reducible refine (BG.out _).mono ?_); rintro e wb ⟨rfl, bb⟩; have GB := Lib.hid (GR.out _ _ BA.out bb); clear bb))
        go_ret
        exact ⟨rfl, by first | exact FIN.out _ GB.out | (rw [← HN0.out]; exact FIN.out _ GB.out)⟩
    · by_cases h3 : i < nB
      · have t1 : (i : Int) < (nB : Int) := by omega
        have t2 : ¬ (i : Int) < 60 := by omega
        clear h1 h3
        go_wp2_with (fail)
        go_ret
        exact ⟨rfl, by first | exact FIN.out _ BR.out | (rw [← HN0.out]; exact FIN.out _ BR.out)⟩
      · have t1 : ¬ (i : Int) < (nB : Int) := by omega
        clear h1 h3
        go_wp2_with (fail)
        go_ret
        exact ⟨rfl, by first | exact FIN.out _ BR.out | (rw [← HN0.out]; exact FIN.out _ BR.out)⟩
end Go.Proofs.YtnoflgkjdibblaaGreatDoor.S21
