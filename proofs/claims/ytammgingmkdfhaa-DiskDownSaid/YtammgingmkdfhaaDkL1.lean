/-
  The walk of layer 19's fourth statement, over the contracts. No statement is proved here.
-/
import Derived.Test.YtammgingmkdfhaaDk4
namespace Go.Proofs.Ytammgingmkdfhaa.S19
set_option linter.unusedSimpArgs false
set_option linter.unusedVariables false
set_option maxRecDepth 4096
open Go.RowKit

/-- A disk that is up, and stops at a number. -/
structure Dn (k a j : Nat) (D : Dk) : Prop where
  ok : D.Ok
  len : D.sure.length = k
  off : D.off = false
  stop : D.stop = (a : Int)
  fails : D.fails = []
  cnt : D.cnt = j
  pend : D.pend.length = j
theorem Dn.start {k a : Nat} (h1 : 1 ≤ k) (h2 : k ≤ 256) : Dn k a 0 ((Dk.new k).plan [] (a : Int)) :=
  ⟨Dk.plan_ok (Dk.new_ok h1 h2) _ _, by simp [Dk.plan, Dk.new], rfl, rfl, rfl, rfl, rfl⟩
theorem Dn.write {k a j : Nat} {D : Dk} (h : Dn k a j D) (hj : j + 1 < a) (h1 : 1 ≤ k) (b : List UInt8) (hb : b.length = 64) : D.writeC 0 b = 0 ∧ Dn k a (j + 1) (D.write 0 b) := by
  have h9 : D.has 0 := by unfold Dk.has; rw [h.len]; omega
  have hs : D.stepC = 0 := by
    unfold Dk.stepC
    rw [h.off, h.stop, h.cnt, h.fails]
    simp
    omega
  refine ⟨?_, ?_⟩
  · unfold Dk.writeC
    rw [h.off, if_neg (by simp), if_pos ⟨h9, hb⟩, hs]
  · have hw : D.write 0 b = { D.step with pend := D.pend ++ [(0, b)] } := by
      unfold Dk.write
      rw [h.off, if_neg (by simp), if_pos ⟨h9, hb⟩, if_pos hs]
      rfl
    have ho := Dk.write_ok h.ok 0 b
    rw [hw] at ho ⊢
    have hst : D.step = { D with cnt := D.cnt + 1 } := by
      unfold Dk.step
      rw [if_neg (by rw [h.stop, h.cnt]; omega)]
    refine ⟨ho, ?_, ?_, ?_, ?_, ?_, ?_⟩
    · rw [hst]; exact h.len
    · rw [hst]; exact h.off
    · rw [hst]; exact h.stop
    · rw [hst]; exact h.fails
    · rw [hst]; simp [h.cnt]
    · simp [h.pend]
theorem Dn.flush {k a j : Nat} {D : Dk} (h : Dn k a j D) (hj : j + 1 = a) : D.stepC = 6 ∧ D.flush.off = true ∧ D.flush.cnt = a ∧ D.flush.pend.length = j ∧ D.flush.sure.length = k := by
  have hs : D.stepC = 6 := by
    unfold Dk.stepC
    rw [h.off, h.stop, h.cnt, if_neg (by simp), if_pos (by omega)]
  have hst : D.flush = { D with cnt := D.cnt + 1, off := true } := by
    unfold Dk.flush
    rw [h.off, if_neg (by simp), if_neg (by rw [hs]; omega)]
    unfold Dk.step
    rw [if_pos (by rw [h.stop, h.cnt]; omega)]
  rw [hst]
  exact ⟨hs, rfl, by simp [h.cnt]; omega, h.pend, h.len⟩
set_option maxHeartbeats 4000000 in
theorem diskDown_walk (M : DC) (w : World) (hk : M.ok w) (n st : Nat) (hn : n < 256) (hst : st < 256) (i : Int) : Calls Try.prog 6 #[.int .u8 (n : Int), .int .i64 i, .int .u8 (st : Int)] w fun e w' => e = .returned (.bool true) ∧ Below w.heap.size w w' := by
  have HK := Lib.hid hk
  obtain ⟨N, hN⟩ : ∃ N, w.heap.size = N := ⟨_, rfl⟩
  obtain ⟨r, hr⟩ : ∃ r, r = n % 20 := ⟨_, rfl⟩
  obtain ⟨s, hs⟩ : ∃ s, s = st % 5 := ⟨_, rfl⟩
  have rB : r < 20 := by rw [hr]; exact Nat.mod_lt _ (by omega)
  have sB : s < 5 := by rw [hs]; exact Nat.mod_lt _ (by omega)
  have f1' : (n : Int) % 20 = (r : Int) := by rw [hr]; simp
  have f3' : (st : Int) % 5 = (s : Int) := by rw [hs]; simp
  have f1 : (n : Int).tmod 20 = (r : Int) := by rw [Int.tmod_eq_emod_of_nonneg (Int.natCast_nonneg n), f1']
  have f3 : (st : Int).tmod 5 = (s : Int) := by rw [Int.tmod_eq_emod_of_nonneg (Int.natCast_nonneg st), f3']
  clear hr hs
  have HF := Lib.hid (show ((n : Int).tmod 20 = (r : Int) ∧ (n : Int) % 20 = (r : Int)) ∧ ((st : Int).tmod 5 = (s : Int) ∧ (st : Int) % 5 = (s : Int)) from ⟨⟨f1, f1'⟩, f3, f3'⟩)
  clear f1 f1' f3 f3'
  obtain ⟨k, hkk⟩ : ∃ k, k = 1 + r := ⟨_, rfl⟩
  obtain ⟨a, haa⟩ : ∃ a, a = 1 + s := ⟨_, rfl⟩
  have kB : 1 ≤ k ∧ k ≤ 20 := by omega
  have aB : 1 ≤ a ∧ a ≤ 5 := by omega
  have f2' : (1 : Int) + (r : Int) = (k : Int) := by omega
  have f4' : (1 : Int) + (s : Int) = (a : Int) := by omega
  have f2 : IntKind.i64.wrap (1 + (r : Int)) = (k : Int) := by rw [f2']; exact IntWalk.i64_in _ (by omega)
  have f4 : IntKind.i64.wrap (1 + (s : Int)) = (a : Int) := by rw [f4']; exact IntWalk.i64_in _ (by omega)
  have f5 : wrap64 (1 + (r : Int)) = (k : Int) := by rw [f2']; unfold wrap64; omega
  have f6 : wrap64 (1 + (s : Int)) = (a : Int) := by rw [f4']; unfold wrap64; omega
  have OKN := Lib.hid (show ∀ X, Below N w X → M.ok X from fun X hX => M.bel hk (by rw [hN]; exact hX))
  have C1 := Lib.hid (show ∀ X, Below N w X → Calls Try.prog 9 #[.int .i64 (k : Int)] X fun e w' => ∃ g F, e = .returned (.tuple #[.pointer (some ⟨g, 0, none⟩), .int .i64 0]) ∧ M.Is N w' g (Dk.new k) F ∧ (∀ b, F b → X.heap.size ≤ b) ∧ Below X.heap.size X w' from fun X hX => M.new N X k (OKN.out X hX) (by rw [← hN]; exact hX.size) kB.1 (Nat.le_trans kB.2 (by decide)))
  have C2 := Lib.hid (show ∀ X g F, Below N w X → M.Is N X g (Dk.new k) F → Calls Try.prog 21 #[.pointer (some ⟨g, 0, none⟩), .agg #[.slice none 0 0, .int .i64 (a : Int)]] X fun e w' => e = .returned (.tuple #[]) ∧ ∃ F', M.Is N w' g ((Dk.new k).plan [] (a : Int)) F' ∧ Mv N F X w' from fun X g F hX hI => (M.plan N X g (Dk.new k) F none 0 0 [] (a : Int) (OKN.out X hX) hI (RI.nil_ _ _) (by decide)).mono (by
    rintro e w' ⟨h1, F', h2, h3, h4⟩
    exact ⟨h1, F', h2, h4⟩))
  have HA := Lib.hid (show 1 ≤ k ∧ k ≤ 20 ∧ 1 ≤ a ∧ a ≤ 5 from ⟨kB.1, kB.2, aB.1, aB.2⟩)
  obtain ⟨⟨f1, f1'⟩, f3, f3'⟩ := HF.out
  have hN0 := Lib.hid hN
  clear hk hkk haa kB aB rB sB f2' f4' HF
  go_enter Try.func6, Try.ntmps6
  go_upto_region 1 with (fail)
  go_upto_region 9 with (first
    | (go_at_call 8; ((with_reducible refine (awake_any M w HK.out).mono ?_); rintro e w1 ⟨rfl, b1⟩; have B1 := Lib.hid (b1.mono (Nat.le_of_eq hN0.out.symm)); clear b1))
    | (go_at_call 9; ((with_reducible refine (C1.out _ B1.out).mono ?_); rintro e w2 ⟨g, F2, rfl, i2, s2, b2⟩; have I2 := Lib.hid i2; have B2 := Lib.hid (B1.out.trans (b2.mono (by have := B1.out.size; have := hN0.out; omega))); clear i2 s2 b2))
    | (go_at_call 21; ((with_reducible refine (C2.out _ g F2 B2.out I2.out).mono ?_); rintro e w3 ⟨rfl, F3, i3, m3⟩; have I3 := Lib.hid i3; have B3 := Lib.hid (B2.out.trans m3.bel); clear i3 m3)))
  have HA1 := HA.out
  clear f1 f1' f2 f3 f3' f4 f5 f6 C1 C2 I2 B2
  go_wp2_with (fail)
  have hsz := B3.out.size
  go_loopw [11] (fun jv wr => ∃ (j : Nat) (D : Dk) (F : Nat → Prop), j + 1 ≤ a ∧ jv = .int .i64 ((j + 1 : Nat) : Int) ∧ M.Is N wr g D F ∧ Dn k a j D ∧ Below N w wr)
    (fun jv _ => a - (intOf jv).toNat)
  case atStart => exact ⟨0, _, F3, by omega, rfl, I3.out, Dn.start HA.out.1 (Nat.le_trans HA.out.2.1 (by decide)), B3.out⟩
  case round =>
    obtain ⟨j, D, F, hj, rfl, hI, hD, hb⟩ := hrel
    have BR := Lib.hid hb
    have IR := Lib.hid hI
    have DR := Lib.hid hD
    obtain ⟨j1, hj1⟩ : ∃ j1, j1 = j + 1 := ⟨_, rfl⟩
    rw [← hj1] at hj ⊢
    have HJ := Lib.hid hj1
    have j6 : j1 ≤ 5 := by omega
    clear hI hD hb I3 B3 hsz hj1 HA1
    by_cases hlt : j1 < a
    · have t1 : (j1 : Int) < (a : Int) := by omega
      obtain ⟨cu, hcu⟩ : ∃ cu, cu = UInt8.ofNat j1 := ⟨_, rfl⟩
      have t2 : (j1 : Int) % 256 = (cu.toNat : Int) := by rw [hcu]; simp
      have t3 : IntKind.u8.wrap (j1 : Int) = (cu.toNat : Int) := by rw [IntKind.wrap_u8]; exact t2
      clear hcu
      obtain ⟨x, hx⟩ : ∃ x, x = rowL cu 64 := ⟨_, rfl⟩
      have LX := Lib.hid (show x.length = 64 by rw [hx]; exact rowL_len _ _)
      have C3 := Lib.hid (show ∀ X, Calls Try.prog 16 #[.int .u8 (cu.toNat : Int), .bool false] X (New X.heap.size X x) from fun X => by rw [hx]; exact row_any cu false X)
      have hw := DR.out.write (by have := HJ.out; omega) HA.out.1 x LX.out
      have C4 := Lib.hid (show ∀ X A c, Below N w X → M.Is N X g D F → Rd X A 64 c x → (∀ a, 0 < 64 → A = some a → ¬ F a.block) → Calls Try.prog 15 #[.pointer (some ⟨g, 0, none⟩), .int .i64 0, .slice A 64 c] X (Post M.Is N F g X (D.write 0 x) (.int .i64 0)) from fun X A c hX hI hR hZ => by
        have h := M.write N X g D F 0 A 64 c x (OKN.out X hX) hI hR hZ (by rw [DR.out.cnt]; have := HJ.out; omega)
        rw [hw.1] at h
        exact h)
      have HW := Lib.hid hw.2
      clear hx hw
      have BG := Lib.hid (show ∀ X, Below wr.heap.size wr X → Below N w X from fun X hX => BR.out.trans (hX.mono (by have := BR.out.size; have := hN0.out; omega)))
      go_wp2_with (first
        | (go_at_call 16; ((with_reducible refine (C3.out _).mono ?_); rintro e w4 ⟨A4, n4, c4, rfl, q4, b4⟩; obtain rfl : n4 = 64 := (own_len q4).symm.trans LX.out; have R4 := Lib.hid (Rd.own q4); have Z4 := Lib.hid (own_off M IR.out q4); have I4 := Lib.hid (M.grow IR.out b4); have B4 := Lib.hid (BG.out _ b4); clear q4 b4))
        | (go_at_call 15; ((with_reducible refine (C4.out _ A4 c4 B4.out I4.out R4.out Z4.out).mono ?_); rintro e w5 ⟨rfl, F5, i5, s5, m5⟩; have I5 := Lib.hid i5; have B5 := Lib.hid (B4.out.trans m5.bel); clear i5 s5 m5)))
      go_roundw
      case rel => exact ⟨j1, _, F5, by omega, by go_num, I5.out, by have := HW.out; rw [← HJ.out] at this; exact this, B5.out⟩
      case measure => simp [intOf]; omega
    · obtain rfl : j1 = a := by omega
      have t1 : ¬ (j1 : Int) < (j1 : Int) := by omega
      obtain ⟨h1, h2, h3, h4, h5⟩ := DR.out.flush HJ.out.symm
      obtain ⟨D2, hD2⟩ : ∃ D2, D2 = D.flush := ⟨_, rfl⟩
      rw [← hD2] at h2 h3 h4 h5
      have C5 := Lib.hid (show ∀ X, Below N w X → M.Is N X g D F → Calls Try.prog 17 #[.pointer (some ⟨g, 0, none⟩)] X (Post M.Is N F g X D2 (.int .i64 6)) from fun X hX hI => by
        have h := M.flush N X g D F (OKN.out X hX) hI (by rw [DR.out.cnt]; have := HJ.out; omega)
        rw [h1, ← hD2] at h
        exact h)
      have C6 := Lib.hid (show ∀ X F, Below N w X → M.Is N X g D2 F → Calls Try.prog 22 #[.pointer (some ⟨g, 0, none⟩), .int .i64 i] X fun e w' => ∃ A c F', e = .returned (.tuple #[.slice A 0 c, .int .i64 6]) ∧ M.Is N w' g D2 F' ∧ Mv N F X w' from fun X F hX hI => by
        have h := M.read N X g D2 F i (OKN.out X hX) hI
        have e1 : D2.readC i = 6 := by simp [Dk.readC, h2]
        have e2 : D2.readB i = [] := by simp [Dk.readB, e1]
        rw [e1, e2] at h
        exact h.mono fun e w' ⟨A, c, F', q1, _, _, q4, _, q6⟩ => ⟨A, c, F', q1, q4, q6⟩)
      obtain ⟨x1, hx1⟩ : ∃ x1, x1 = rowL 1 64 := ⟨_, rfl⟩
      have L1 := Lib.hid (show x1.length = 64 by rw [hx1]; exact rowL_len _ _)
      have C7 := Lib.hid (show ∀ X, Calls Try.prog 16 #[.int .u8 1, .bool false] X (New X.heap.size X x1) from fun X => by rw [hx1]; exact row_any 1 false X)
      have C8 := Lib.hid (show ∀ X F A c, Below N w X → M.Is N X g D2 F → Rd X A 64 c x1 → (∀ a, 0 < 64 → A = some a → ¬ F a.block) → Calls Try.prog 15 #[.pointer (some ⟨g, 0, none⟩), .int .i64 0, .slice A 64 c] X (Post M.Is N F g X D2 (.int .i64 6)) from fun X F A c hX hI hR hZ => by
        have h := M.write N X g D2 F 0 A 64 c x1 (OKN.out X hX) hI hR hZ (by rw [h3]; omega)
        rw [show D2.writeC 0 x1 = 6 by simp [Dk.writeC, h2], show D2.write 0 x1 = D2 by simp [Dk.write, h2]] at h
        exact h)
      have C9 := Lib.hid (show ∀ X F, Below N w X → M.Is N X g D2 F → Calls Try.prog 14 #[.pointer (some ⟨g, 0, none⟩)] X (Post M.Is N F g X D2 (.tuple #[.int .i64 (j1 : Int), .int .i64 (j : Int)])) from fun X F hX hI => by
        have h := M.count N X g D2 F (OKN.out X hX) hI
        rw [h3, h4] at h
        exact h)
      obtain ⟨D3, hD3⟩ : ∃ D3, D3 = D2.up [] [] 0 := ⟨_, rfl⟩
      have C10 := Lib.hid (show ∀ X F, Below N w X → M.Is N X g D2 F → Calls Try.prog 18 #[.pointer (some ⟨g, 0, none⟩), .slice none 0 0, .agg #[.slice none 0 0, .int .i64 0]] X fun e w' => e = .returned (.tuple #[]) ∧ ∃ F', M.Is N w' g D3 F' ∧ Mv N F X w' from fun X F hX hI => (M.up N X g D2 F none 0 0 [] none 0 0 [] 0 (OKN.out X hX) hI (Rd.nil_ _) (fun a h => absurd h (by decide)) (RI.nil_ _ _) (fun a h => absurd h (by decide)) (by decide)).mono (by
        rintro e w' ⟨q1, F', q2, q3, q4⟩
        exact ⟨q1, F', by rw [hD3]; exact q2, q4⟩))
      have C11 := Lib.hid (show ∀ X F, Below N w X → M.Is N X g D3 F → Calls Try.prog 14 #[.pointer (some ⟨g, 0, none⟩)] X (Post M.Is N F g X D3 (.tuple #[.int .i64 0, .int .i64 0])) from fun X F hX hI => by
        have h := M.count N X g D3 F (OKN.out X hX) hI
        rw [show D3.cnt = 0 by rw [hD3]; rfl, show D3.pend.length = 0 by rw [hD3]; rfl] at h
        exact h)
      have C12 := Lib.hid (show ∀ X F, Below N w X → M.Is N X g D3 F → Calls Try.prog 22 #[.pointer (some ⟨g, 0, none⟩), .int .i64 0] X fun e w' => ∃ A n c F', e = .returned (.tuple #[.slice A n c, .int .i64 0]) ∧ M.Is N w' g D3 F' ∧ Mv N F X w' from fun X F hX hI => by
        have h := M.read N X g D3 F 0 (OKN.out X hX) hI
        have e1 : D3.readC 0 = 0 := by
          have : D3.has 0 := by
            rw [hD3]
            show 0 ≤ (0 : Int) ∧ (0 : Int) < ((Dk.tear _ _ _ _).length : Int)
            rw [Dk.tear_len, h5]
            have := HA.out.1
            omega
          rw [Dk.readC, show D3.off = false by rw [hD3]; rfl, if_neg (by simp), if_pos this]
        rw [e1] at h
        exact h.mono fun e w' ⟨A, c, F', q1, _, _, q4, _, q6⟩ => ⟨A, _, c, F', q1, q4, q6⟩)
      have z1 : wrap64 ((j1 : Int) - 1) = (j : Int) := by have := HJ.out; unfold wrap64; omega
      have z2 : IntKind.i64.wrap ((j1 : Int) - 1) = (j : Int) := by have := HJ.out; rw [IntKind.wrap_i64]; omega
      clear h1 h2 h3 h4 h5 hD2 hx1 hD3
      go_wp2_with (first
        | (go_at_call 17; ((with_reducible refine (C5.out _ BR.out IR.out).mono ?_); rintro e w5 ⟨rfl, F5, i5, s5, m5⟩; have I5 := Lib.hid i5; have B5 := Lib.hid (BR.out.trans m5.bel); clear i5 s5 m5))
        | (go_at_call 22; ((with_reducible refine (C6.out _ F5 B5.out I5.out).mono ?_); rintro e w6 ⟨A6, c6, F6, rfl, i6, m6⟩; have I6 := Lib.hid i6; have B6 := Lib.hid (B5.out.trans m6.bel); clear i6 m6))
        | (go_at_call 16; ((with_reducible refine (C7.out _).mono ?_); rintro e w7 ⟨A7, n7, c7, rfl, q7, b7⟩; obtain rfl : n7 = 64 := (own_len q7).symm.trans L1.out; have R7 := Lib.hid (Rd.own q7); have Z7 := Lib.hid (own_off M I6.out q7); have I7 := Lib.hid (M.grow I6.out b7); have B7 := Lib.hid (B6.out.trans (b7.mono (by have := B6.out.size; have := hN0.out; omega))); clear q7 b7))
        | (go_at_call 15; ((with_reducible refine (C8.out _ F6 A7 c7 B7.out I7.out R7.out Z7.out).mono ?_); rintro e w8 ⟨rfl, F8, i8, s8, m8⟩; have I8 := Lib.hid i8; have B8 := Lib.hid (B7.out.trans m8.bel); clear i8 s8 m8))
        | (go_at_call 14; ((with_reducible refine (C9.out _ F8 B8.out I8.out).mono ?_); rintro e w9 ⟨rfl, F9, i9, s9, m9⟩; have I9 := Lib.hid i9; have B9 := Lib.hid (B8.out.trans m9.bel); clear i9 s9 m9))
        | (go_at_call 18; ((with_reducible refine (C10.out _ F9 B9.out I9.out).mono ?_); rintro e w10 ⟨rfl, F10, i10, m10⟩; have I10 := Lib.hid i10; have B10 := Lib.hid (B9.out.trans m10.bel); clear i10 m10))
        | (go_at_call 14; ((with_reducible refine (C11.out _ F10 B10.out I10.out).mono ?_); rintro e w11 ⟨rfl, F11, i11, s11, m11⟩; have I11 := Lib.hid i11; have B11 := Lib.hid (B10.out.trans m11.bel); clear i11 s11 m11))
        | (go_at_call 22; ((with_reducible refine (C12.out _ F11 B11.out I11.out).mono ?_); rintro e w12 ⟨A12, n12, c12, F12, rfl, i12, m12⟩; have B12 := Lib.hid (B11.out.trans m12.bel); clear i12 m12)))
      go_ret
      exact ⟨rfl, by rw [hN0.out]; exact B12.out⟩
end Go.Proofs.Ytammgingmkdfhaa.S19
