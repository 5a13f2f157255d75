/-
  What the document's own calls of layer 6 do. No statement is proved here.
-/
import Derived.Test.YtjgcaodicbikiaaDoorMac
import Derived.Test.YtjgcaodicbikiaaDoorROne
import Derived.Test.YtjgcaodicbikiaaDoorROneV
import Derived.Test.YtjgcaodicbikiaaDoorRPut
namespace Go.Proofs.YtjgcaodicbikiaaDoor.S6
set_option linter.unusedSimpArgs false
set_option linter.unusedVariables false
open Go.RowKit

theorem rsize_any (k : Int) (w : World) : Calls Tryd.prog 10 #[.int .i64 k] w fun e w' => e = .returned (.tuple #[.int .i64 (szK k : Nat), .int .i64 (blK k : Nat)]) ∧ w = w' := by
  by_cases h0 : k = 0
  · subst h0
    go_enter Tryd.func10, Tryd.ntmps10
    go_wp2
    go_ret2
    exact ⟨rfl, rfl⟩
  · by_cases h1 : k = 1
    · subst h1
      go_enter Tryd.func10, Tryd.ntmps10
      go_wp2
      go_ret2
      exact ⟨rfl, rfl⟩
    · have e1 : szK k = 0 := by simp [szK, h0, h1]
      have e2 : blK k = 0 := by simp [blK, h0, h1]
      rw [e1, e2]
      clear e1 e2
      go_enter Tryd.func10, Tryd.ntmps10
      go_wp2
      go_ret2
      exact ⟨rfl, rfl⟩
theorem rsum_any (k : Int) (A : Option Addr) (n c : Nat) (xs : List UInt8) (w : World) (hr : Rd w A n c xs) (hm : n ≤ 268435456) :
    Calls Tryd.prog 13 #[.int .i64 k, .slice A n c] w (New w.heap.size w (sumK k xs)) := by
  by_cases h0 : k = 0
  · subst h0
    have HC := Lib.hid (S2.rone_any A n c xs w hr (by omega))
    have HE := Lib.hid (show sumK 0 xs = S2.sum xs from rfl)
    rw [HE.out]
    clear hr
    go_enter Tryd.func13, Tryd.ntmps13
    go_wp2_with (go_at_call 21; ((with_reducible refine HC.out.mono ?_); rintro e w1 ⟨A1, n1, c1, rfl, o1, b1⟩; have O1 := Lib.hid o1; have B1 := Lib.hid b1; clear o1 b1))
    go_ret
    exact ⟨A1, n1, c1, rfl, O1.out, B1.out⟩
  · by_cases h1 : k = 1
    · subst h1
      have HC := Lib.hid (S5.rone_any A n c xs w hr hm)
      have HE := Lib.hid (show sumK 1 xs = S5.sum xs from rfl)
      rw [HE.out]
      clear hr
      go_enter Tryd.func13, Tryd.ntmps13
      go_wp2_with (go_at_call 22; ((with_reducible refine HC.out.mono ?_); rintro e w1 ⟨A1, n1, c1, rfl, o1, b1⟩; have O1 := Lib.hid o1; have B1 := Lib.hid b1; clear o1 b1))
      go_ret
      exact ⟨A1, n1, c1, rfl, O1.out, B1.out⟩
    · have e1 : sumK k xs = [] := by simp [sumK, h0, h1]
      rw [e1]
      clear hr e1
      go_enter Tryd.func13, Tryd.ntmps13
      go_wp2
      go_ret
      exact ⟨none, 0, 0, rfl, World.ownsRow_nil _ _ _ _, Below.refl _ _⟩
theorem xor54 (x : UInt8) : bits .xor .u8 (x.toNat : Int) 54 = ((x ^^^ 54 : UInt8).toNat : Int) := by
  have : ∀ n : Nat, n < 256 → bits .xor .u8 (n : Int) 54 = (((UInt8.ofNat n) ^^^ 54 : UInt8).toNat : Int) := by decide +kernel
  have h := this x.toNat x.toNat_lt
  simpa using h
theorem xor92 (x : UInt8) : bits .xor .u8 (x.toNat : Int) 92 = ((x ^^^ 92 : UInt8).toNat : Int) := by
  have : ∀ n : Nat, n < 256 → bits .xor .u8 (n : Int) 92 = (((UInt8.ofNat n) ^^^ 92 : UInt8).toNat : Int) := by decide +kernel
  have h := this x.toNat x.toNat_lt
  simpa using h
/-- Two rows of the call's own, apart. -/
structure Two (B : Nat) (w : World) (a b : Value) (na nb : Nat) (xs ys : List UInt8) : Prop where
  oa : w.ownsRow B 5 1 a na (bv xs)
  ob : w.ownsRow B 5 1 b nb (bv ys)
  ne : ∀ g, a.ownBlock = some g → b.ownBlock ≠ some g
theorem Two.swap {B : Nat} {w : World} {a b : Value} {na nb : Nat} {xs ys : List UInt8} (h : Two B w a b na nb xs ys) : Two B w b a nb na ys xs := ⟨h.ob, h.oa, fun g h1 h2 => h.ne g h2 h1⟩
theorem Two.below {B : Nat} {w w' : World} {a b : Value} {na nb : Nat} {xs ys : List UInt8} (h : Two B w a b na nb xs ys) (hb : Below w.heap.size w w') : Two B w' a b na nb xs ys := ⟨own_below h.oa hb, own_below h.ob hb, h.ne⟩
theorem Two.alloc {B : Nat} {w : World} {a b : Value} {na nb : Nat} {xs ys : List UInt8} (h : Two B w a b na nb xs ys) (o : Obj) : Two B (w.alloc o) a b na nb xs ys := h.below ((Below.refl _ _).alloc (Nat.le_refl _) _)
theorem Two.app {B : Nat} {w w1 : World} {a b v : Value} {na nb n : Nat} {xs ys zs : List UInt8} (h : Two B w a b na nb xs ys) (o : w1.ownsRow B 5 1 v n (bv zs)) (g1 : w.grownBy w1 a.ownBlock) (hv : v.ownBlock = a.ownBlock ∨ v.ownBlock = some w.heap.size) : Two B w1 v b n nb zs ys :=
  ⟨o, own_apart h.ob g1 (fun g hg e => h.ne g e hg), fun g hg hb => by
    rcases hv with hv | hv
    · exact h.ne g (hv ▸ hg) hb
    · have := (h.ob.lt g hb).2
      rw [hv] at hg
      injection hg with hg
      omega⟩
set_option maxHeartbeats 2000000 in
set_option maxRecDepth 20000 in
theorem rmac_any (k : Int) (A : Option Addr) (n c : Nat) (key : List UInt8) (At : Option Addr) (nt ct : Nat) (text : List UInt8) (w : World) (hr : Rd w A n c key) (ht : Rd w At nt ct text) (hm : n ≤ 100000000) (hmt : nt ≤ 100000000) :
    Calls Tryd.prog 15 #[.int .i64 k, .slice A n c, .slice At nt ct] w (New w.heap.size w (macK k key text)) := by
  by_cases hb : blK k = 0
  · have e : macK k key text = [] := by simp [macK, hb]
    rw [e]
    have HS := Lib.hid (show ∀ W, Calls Tryd.prog 10 #[.int .i64 k] W fun e w' => e = .returned (.tuple #[.int .i64 (szK k : Nat), .int .i64 0]) ∧ W = w' from fun W => by have := rsize_any k W; rw [hb] at this; exact this)
    clear hr ht e hb
    go_enter Tryd.func15, Tryd.ntmps15
    go_wp2_with (go_at_call 10; ((with_reducible refine (HS.out _).mono ?_); rintro e w1 ⟨rfl, rfl⟩))
    go_ret
    exact ⟨none, 0, 0, rfl, World.ownsRow_nil _ _ _ _, Below.refl _ _⟩
  · obtain ⟨BL, hBL⟩ : ∃ BL, BL = blK k := ⟨_, rfl⟩
    have hs := szK_pos k hb
    rw [← hBL] at hs hb
    obtain ⟨hs1, hs2, hs3, hs4⟩ := hs
    have hbi : ¬ (BL : Int) = 0 := by omega
    obtain ⟨ky, hky⟩ : ∃ ky, ky = keyK k key := ⟨_, rfl⟩
    have HM := Lib.hid (show macK k key text = sumK k (row 92 BL ky ++ sumK k (row 54 BL ky ++ text)) by rw [macK, ← hBL, if_neg hb, hky])
    have HS := Lib.hid (show ∀ W, Calls Tryd.prog 10 #[.int .i64 k] W fun e w' => e = .returned (.tuple #[.int .i64 (szK k : Nat), .int .i64 (BL : Nat)]) ∧ W = w' from fun W => by rw [hBL]; exact rsize_any k W)
    have HL := Lib.hid (show ∀ xs, (sumK k xs).length ≤ 64 from fun xs => by rw [sumK_length]; exact hs2)
    rw [HM.out]
    have HT := Lib.hid ht
    have HR := Lib.hid hr
    clear ht hs1 hs2 HM
    by_cases hlong : BL < n
    · have hli : (BL : Int) < (n : Int) := by omega
      have HQ := Lib.hid (show Calls Tryd.prog 13 #[.int .i64 k, .slice A n c] w (New w.heap.size w ky) by rw [hky, keyK, ← hBL, hr.len, if_pos hlong]; exact rsum_any k A n c key w hr (by omega))
      have HKL := Lib.hid (show ky.length ≤ 64 by rw [hky, keyK, ← hBL, hr.len, if_pos hlong]; exact HL.out key)
      clear hky hBL hr hlong
      go_enter Tryd.func15, Tryd.ntmps15
      go_wp2_with (first
        | (go_at_call 10; ((with_reducible refine (HS.out _).mono ?_); rintro e w1 ⟨rfl, rfl⟩))
        | (go_at_call 13; ((with_reducible refine HQ.out.mono ?_); intro e w2 h2; obtain ⟨A', c', rfl, r2, b2⟩ := new_len h2; have RK := Lib.hid r2; have BK := Lib.hid b2; clear h2 r2 b2)))
      obtain ⟨n', hn'⟩ : ∃ n', n' = ky.length := ⟨_, rfl⟩
      have RK := Lib.hid (show Rd w2 A' n' c' ky by rw [hn']; exact RK.out)
      have nl : n' ≤ 100000000 := by have := HKL.out; omega
      rw [← hn']
      clear hn' HKL HQ HR hli
      clear hbi
      go_loopw [9, 10, 11, 12] (fun a b i _ wr => ∃ j : Nat, j ≤ BL ∧ i = .int .i64 (j : Int) ∧ Two w2.heap.size wr a b j j (row 54 j ky) (row 92 j ky) ∧ Below w2.heap.size w2 wr) (fun _ _ i _ _ => BL - (intOf i).toNat)
      case atStart => exact ⟨0, by omega, rfl, ⟨World.ownsRow_nil _ _ _ _, World.ownsRow_nil _ _ _ _, fun g h => by cases h⟩, Below.refl _ _⟩
      case round =>
        obtain ⟨j, hj, rfl, two, hB⟩ := hrel
        have rk := RK.out.below hB
        by_cases hlt : j < BL
        · have i0 : (j : Int) < (BL : Int) := by omega
          obtain ⟨cv, hcv⟩ : ∃ cv, cv = ky[j]?.getD 0 := ⟨_, rfl⟩
          have x54 := xor54 cv
          have x92 := xor92 cv
          obtain ⟨u, hu⟩ : ∃ u : UInt8, u = cv ^^^ 54 := ⟨_, rfl⟩
          obtain ⟨v, hv⟩ : ∃ v : UInt8, v = cv ^^^ 92 := ⟨_, rfl⟩
          rw [← hu] at x54
          rw [← hv] at x92
          have R54 := Lib.hid (show row 54 (j + 1) ky = row 54 j ky ++ [u] by rw [row_succ, hu, hcv])
          have R92 := Lib.hid (show row 92 (j + 1) ky = row 92 j ky ++ [v] by rw [row_succ, hv, hcv])
          have TW := Lib.hid two
          have hB0 := Lib.hid hB
          have hl1 := Lib.hid (rd_lit wr #[.int .u8 (u.toNat : Int)] [u] rfl (by simp [maxLen]) _ rfl)
          clear hu hv two
          by_cases hjk : j < n'
          · have hji : (j : Int) < (n' : Int) := by omega
            obtain ⟨bk, off, rfl, hbk, hcell⟩ := rk.at_ (by omega)
            have hc := hcell j hjk
            rw [show ky.getD j 0 = cv by rw [hcv]; rfl] at hc
            clear hcell hcv rk
            go_wp2_with (first
              | (at_builtin; refine append_rdA rfl (.tmp 40) (.tmp 43) rfl w2.heap.size _ j _ rfl (TW.out.alloc _).oa _ 1 1 [u] rfl hl1.out (by omega) (by have := hB0.out.size; simp; omega) ?_; intro v1 w1 o1 g1 e1; have T1 := Lib.hid ((TW.out.alloc _).app o1 g1 e1); have B1 := Lib.hid ((hB0.out.alloc hB0.out.size _).grown g1 (by have := hB0.out.size; simp; omega) (fun g hg => (TW.out.oa.lt g hg).1)); have hl2 := Lib.hid (rd_lit w1 #[.int .u8 (v.toNat : Int)] [v] rfl (by simp [maxLen]) _ rfl); clear o1 g1 e1)
              | (at_builtin; refine append_rdA rfl (.tmp 45) (.tmp 48) rfl w2.heap.size _ j _ rfl (T1.out.alloc _).ob _ 1 1 [v] rfl hl2.out (by omega) (by have := B1.out.size; simp; omega) ?_; intro v2 w3 o2 g2 e2; have T2 := Lib.hid ((T1.out.alloc _).swap.app o2 g2 e2).swap; have B2 := Lib.hid ((B1.out.alloc B1.out.size _).grown g2 (by have := B1.out.size; simp; omega) (fun g hg => (T1.out.ob.lt g hg).1)); clear o2 g2 e2))
            go_roundw
            case rel => exact ⟨j + 1, by omega, by go_num, by rw [R54.out, R92.out]; exact T2.out, B2.out⟩
            case measure => simp [intOf]; omega
          · have hji : ¬ (j : Int) < (n' : Int) := by omega
            have h0 : cv = 0 := by rw [hcv, List.getElem?_eq_none (by have := rk.len; omega)]; rfl
            have R54 := Lib.hid (show row 54 (j + 1) ky = row 54 j ky ++ [54] by rw [row_succ, ← hcv, h0]; rfl)
            have R92 := Lib.hid (show row 92 (j + 1) ky = row 92 j ky ++ [92] by rw [row_succ, ← hcv, h0]; rfl)
            have hl1 := Lib.hid (rd_lit wr #[.int .u8 54] [54] rfl (by simp [maxLen]) _ rfl)
            clear x54 x92 hcv h0 rk
            go_wp2_with (first
              | (at_builtin; refine append_rdA rfl (.tmp 40) (.tmp 43) rfl w2.heap.size _ j _ rfl (TW.out.alloc _).oa _ 1 1 [54] rfl hl1.out (by omega) (by have := hB0.out.size; simp; omega) ?_; intro v1 w1 o1 g1 e1; have T1 := Lib.hid ((TW.out.alloc _).app o1 g1 e1); have B1 := Lib.hid ((hB0.out.alloc hB0.out.size _).grown g1 (by have := hB0.out.size; simp; omega) (fun g hg => (TW.out.oa.lt g hg).1)); have hl2 := Lib.hid (rd_lit w1 #[.int .u8 92] [92] rfl (by simp [maxLen]) _ rfl); clear o1 g1 e1)
              | (at_builtin; refine append_rdA rfl (.tmp 45) (.tmp 48) rfl w2.heap.size _ j _ rfl (T1.out.alloc _).ob _ 1 1 [92] rfl hl2.out (by omega) (by have := B1.out.size; simp; omega) ?_; intro v2 w3 o2 g2 e2; have T2 := Lib.hid ((T1.out.alloc _).swap.app o2 g2 e2).swap; have B2 := Lib.hid ((B1.out.alloc B1.out.size _).grown g2 (by have := B1.out.size; simp; omega) (fun g hg => (T1.out.ob.lt g hg).1)); clear o2 g2 e2))
            go_roundw
            case rel => exact ⟨j + 1, by omega, by go_num, by rw [R54.out, R92.out]; exact T2.out, B2.out⟩
            case measure => simp [intOf]; omega
        · obtain rfl : j = BL := by omega
          have i0 : ¬ (j : Int) < (j : Int) := by omega
          have TW := Lib.hid two
          have hB0 := Lib.hid hB
          clear two hB
          go_wp2_with (first
            | (at_builtin; refine append_rdA rfl (.tmp 53) (.tmp 54) rfl w2.heap.size _ j _ rfl TW.out.oa At nt ct text rfl (HT.out.below BK.out |>.below hB0.out) (by omega) hB0.out.size ?_; intro v1 w4 o1 g1 e1; have T1 := Lib.hid (TW.out.app o1 g1 e1); have B1 := Lib.hid (hB0.out.grown g1 hB0.out.size (fun g hg => (TW.out.oa.lt g hg).1)); clear o1 g1 e1; obtain ⟨A5, c5, rfl⟩ := own_form T1.out.oa)
            | (go_at_call 13; ((with_reducible refine (rsum_any k A5 _ c5 _ w4 (Rd.own T1.out.oa) (by omega)).mono ?_); intro e w5 h5; obtain ⟨A6, c6, rfl, r6, b6⟩ := new_len h5; have R6 := Lib.hid r6; have T6 := Lib.hid (T1.out.below b6); have B6 := Lib.hid (B1.out.trans (b6.mono B1.out.size)); have L6 := HL.out (row 54 j ky ++ text); clear h5 r6 b6))
            | (at_builtin; refine append_rdA rfl (.tmp 51) (.tmp 56) rfl w2.heap.size _ j _ rfl T6.out.ob A6 _ c6 _ rfl R6.out (by omega) B6.out.size ?_; intro v2 w7 o2 g2 e2; have O7 := Lib.hid o2; have B7 := Lib.hid (B6.out.grown g2 B6.out.size (fun g hg => (T6.out.ob.lt g hg).1)); clear o2 g2 e2; obtain ⟨A7, c7, rfl⟩ := own_form O7.out)
            | (go_at_call 13; ((with_reducible refine (rsum_any k A7 _ c7 _ w7 (Rd.own O7.out) (by omega)).mono ?_); rintro e w8 ⟨A8, n8, c8, rfl, o8, b8⟩; have O8 := Lib.hid o8; have B8 := Lib.hid b8; clear o8 b8)))
          go_ret
          exact New.from (BK.out.trans (B7.out.mono BK.out.size)) ⟨A8, n8, c8, rfl, O8.out, B8.out⟩
    · have hli : ¬ (BL : Int) < (n : Int) := by omega
      have hk2 : ky = key := by rw [hky, keyK, ← hBL, hr.len, if_neg hlong]
      have RK := Lib.hid (show Rd w A n c ky by rw [hk2]; exact hr)
      have BK := Lib.hid (Below.refl w.heap.size w)
      clear hky hBL hr hlong hk2 HR
      go_enter Tryd.func15, Tryd.ntmps15
      go_wp2_with (go_at_call 10; ((with_reducible refine (HS.out _).mono ?_); rintro e w1 ⟨rfl, rfl⟩))
      have q1 : ((BL : Int) == 0) = false := beq_eq_false_iff_ne.2 hbi
      have q2 : decide (BL < n) = false := by simp; omega
      try simp only [q1, q2]
      clear hli hbi q1 q2
      go_loopw [9, 10, 11, 12] (fun a b i _ wr => ∃ j : Nat, j ≤ BL ∧ i = .int .i64 (j : Int) ∧ Two w.heap.size wr a b j j (row 54 j ky) (row 92 j ky) ∧ Below w.heap.size w wr) (fun _ _ i _ _ => BL - (intOf i).toNat)
      case atStart => exact ⟨0, by omega, rfl, ⟨World.ownsRow_nil _ _ _ _, World.ownsRow_nil _ _ _ _, fun g h => by cases h⟩, Below.refl _ _⟩
      case round =>
        obtain ⟨j, hj, rfl, two, hB⟩ := hrel
        have rk := RK.out.below hB
        by_cases hlt : j < BL
        · have i0 : (j : Int) < (BL : Int) := by omega
          obtain ⟨cv, hcv⟩ : ∃ cv, cv = ky[j]?.getD 0 := ⟨_, rfl⟩
          have x54 := xor54 cv
          have x92 := xor92 cv
          obtain ⟨u, hu⟩ : ∃ u : UInt8, u = cv ^^^ 54 := ⟨_, rfl⟩
          obtain ⟨v, hv⟩ : ∃ v : UInt8, v = cv ^^^ 92 := ⟨_, rfl⟩
          rw [← hu] at x54
          rw [← hv] at x92
          have R54 := Lib.hid (show row 54 (j + 1) ky = row 54 j ky ++ [u] by rw [row_succ, hu, hcv])
          have R92 := Lib.hid (show row 92 (j + 1) ky = row 92 j ky ++ [v] by rw [row_succ, hv, hcv])
          have TW := Lib.hid two
          have hB0 := Lib.hid hB
          have hl1 := Lib.hid (rd_lit wr #[.int .u8 (u.toNat : Int)] [u] rfl (by simp [maxLen]) _ rfl)
          clear hu hv two
          by_cases hjk : j < n
          · have hji : (j : Int) < (n : Int) := by omega
            obtain ⟨bk, off, rfl, hbk, hcell⟩ := rk.at_ (by omega)
            have hc := hcell j hjk
            rw [show ky.getD j 0 = cv by rw [hcv]; rfl] at hc
            clear hcell hcv rk
            go_wp2_with (first
              | (at_builtin; refine append_rdA rfl (.tmp 40) (.tmp 43) rfl w.heap.size _ j _ rfl (TW.out.alloc _).oa _ 1 1 [u] rfl hl1.out (by omega) (by have := hB0.out.size; simp; omega) ?_; intro v1 w1 o1 g1 e1; have T1 := Lib.hid ((TW.out.alloc _).app o1 g1 e1); have B1 := Lib.hid ((hB0.out.alloc hB0.out.size _).grown g1 (by have := hB0.out.size; simp; omega) (fun g hg => (TW.out.oa.lt g hg).1)); have hl2 := Lib.hid (rd_lit w1 #[.int .u8 (v.toNat : Int)] [v] rfl (by simp [maxLen]) _ rfl); clear o1 g1 e1)
              | (at_builtin; refine append_rdA rfl (.tmp 45) (.tmp 48) rfl w.heap.size _ j _ rfl (T1.out.alloc _).ob _ 1 1 [v] rfl hl2.out (by omega) (by have := B1.out.size; simp; omega) ?_; intro v2 w3 o2 g2 e2; have T2 := Lib.hid ((T1.out.alloc _).swap.app o2 g2 e2).swap; have B2 := Lib.hid ((B1.out.alloc B1.out.size _).grown g2 (by have := B1.out.size; simp; omega) (fun g hg => (T1.out.ob.lt g hg).1)); clear o2 g2 e2))
            go_roundw
            case rel => exact ⟨j + 1, by omega, by go_num, by rw [R54.out, R92.out]; exact T2.out, B2.out⟩
            case measure => simp [intOf]; omega
          · have hji : ¬ (j : Int) < (n : Int) := by omega
            have h0 : cv = 0 := by rw [hcv, List.getElem?_eq_none (by have := rk.len; omega)]; rfl
            have R54 := Lib.hid (show row 54 (j + 1) ky = row 54 j ky ++ [54] by rw [row_succ, ← hcv, h0]; rfl)
            have R92 := Lib.hid (show row 92 (j + 1) ky = row 92 j ky ++ [92] by rw [row_succ, ← hcv, h0]; rfl)
            have hl1 := Lib.hid (rd_lit wr #[.int .u8 54] [54] rfl (by simp [maxLen]) _ rfl)
            clear x54 x92 hcv h0 rk
            go_wp2_with (first
              | (at_builtin; refine append_rdA rfl (.tmp 40) (.tmp 43) rfl w.heap.size _ j _ rfl (TW.out.alloc _).oa _ 1 1 [54] rfl hl1.out (by omega) (by have := hB0.out.size; simp; omega) ?_; intro v1 w1 o1 g1 e1; have T1 := Lib.hid ((TW.out.alloc _).app o1 g1 e1); have B1 := Lib.hid ((hB0.out.alloc hB0.out.size _).grown g1 (by have := hB0.out.size; simp; omega) (fun g hg => (TW.out.oa.lt g hg).1)); have hl2 := Lib.hid (rd_lit w1 #[.int .u8 92] [92] rfl (by simp [maxLen]) _ rfl); clear o1 g1 e1)
              | (at_builtin; refine append_rdA rfl (.tmp 45) (.tmp 48) rfl w.heap.size _ j _ rfl (T1.out.alloc _).ob _ 1 1 [92] rfl hl2.out (by omega) (by have := B1.out.size; simp; omega) ?_; intro v2 w3 o2 g2 e2; have T2 := Lib.hid ((T1.out.alloc _).swap.app o2 g2 e2).swap; have B2 := Lib.hid ((B1.out.alloc B1.out.size _).grown g2 (by have := B1.out.size; simp; omega) (fun g hg => (T1.out.ob.lt g hg).1)); clear o2 g2 e2))
            go_roundw
            case rel => exact ⟨j + 1, by omega, by go_num, by rw [R54.out, R92.out]; exact T2.out, B2.out⟩
            case measure => simp [intOf]; omega
        · obtain rfl : j = BL := by omega
          have i0 : ¬ (j : Int) < (j : Int) := by omega
          have TW := Lib.hid two
          have hB0 := Lib.hid hB
          clear two hB
          go_wp2_with (first
            | (at_builtin; refine append_rdA rfl (.tmp 53) (.tmp 54) rfl w.heap.size _ j _ rfl TW.out.oa At nt ct text rfl (HT.out.below hB0.out) (by omega) hB0.out.size ?_; intro v1 w4 o1 g1 e1; have T1 := Lib.hid (TW.out.app o1 g1 e1); have B1 := Lib.hid (hB0.out.grown g1 hB0.out.size (fun g hg => (TW.out.oa.lt g hg).1)); clear o1 g1 e1; obtain ⟨A5, c5, rfl⟩ := own_form T1.out.oa)
            | (go_at_call 13; ((with_reducible refine (rsum_any k A5 _ c5 _ w4 (Rd.own T1.out.oa) (by omega)).mono ?_); intro e w5 h5; obtain ⟨A6, c6, rfl, r6, b6⟩ := new_len h5; have R6 := Lib.hid r6; have T6 := Lib.hid (T1.out.below b6); have B6 := Lib.hid (B1.out.trans (b6.mono B1.out.size)); have L6 := HL.out (row 54 j ky ++ text); clear h5 r6 b6))
            | (at_builtin; refine append_rdA rfl (.tmp 51) (.tmp 56) rfl w.heap.size _ j _ rfl T6.out.ob A6 _ c6 _ rfl R6.out (by omega) B6.out.size ?_; intro v2 w7 o2 g2 e2; have O7 := Lib.hid o2; have B7 := Lib.hid (B6.out.grown g2 B6.out.size (fun g hg => (T6.out.ob.lt g hg).1)); clear o2 g2 e2; obtain ⟨A7, c7, rfl⟩ := own_form O7.out)
            | (go_at_call 13; ((with_reducible refine (rsum_any k A7 _ c7 _ w7 (Rd.own O7.out) (by omega)).mono ?_); rintro e w8 ⟨A8, n8, c8, rfl, o8, b8⟩; have O8 := Lib.hid o8; have B8 := Lib.hid b8; clear o8 b8)))
          go_ret
          exact New.from (B7.out) ⟨A8, n8, c8, rfl, O8.out, B8.out⟩
theorem RdBs.two {w : World} {T : TypeId} {A A' : Option Addr} {n c n' c' : Nat} {xs ys : List UInt8} (h : Rd w A n c xs) (h' : Rd w A' n' c' ys) (b : Nat) (hb : w.heap.size = b) :
    RdBs (w.alloc (.cells #[.slice A n c, .slice A' n' c'] T)) (some ⟨b, 0, none⟩) 2 2 [xs, ys] := by
  subst hb
  exact RdBs.built2 w T h h'
set_option maxHeartbeats 2000000 in
set_option maxRecDepth 20000 in
theorem rmask_any (k : Int) (At : Option Addr) (nt ct : Nat) (text : List UInt8) (n : Int) (w : World) (ht : Rd w At nt ct text) (hmt : nt ≤ 100000000) :
    Calls Tryd.prog 17 #[.int .i64 k, .slice At nt ct, .int .i64 n] w (Gives w.heap.size w (maskK k text n)) := by
  by_cases hb : blK k = 0
  · have e : maskK k text n = [] := by simp [maskK, hb]
    rw [e]
    have HS := Lib.hid (show ∀ W, Calls Tryd.prog 10 #[.int .i64 k] W fun e w' => e = .returned (.tuple #[.int .i64 (szK k : Nat), .int .i64 0]) ∧ W = w' from fun W => by have := rsize_any k W; rw [hb] at this; exact this)
    clear ht e hb
    go_enter Tryd.func17, Tryd.ntmps17
    go_wp2_with (go_at_call 10; ((with_reducible refine (HS.out _).mono ?_); rintro e w1 ⟨rfl, rfl⟩))
    go_ret
    exact ⟨none, 0, rfl, Rd.nil_ _, Below.refl _ _⟩
  · obtain ⟨BL, hBL⟩ : ∃ BL, BL = blK k := ⟨_, rfl⟩
    obtain ⟨SZ, hSZ⟩ : ∃ SZ, SZ = szK k := ⟨_, rfl⟩
    have hs := szK_pos k hb
    rw [← hBL, ← hSZ] at hs
    obtain ⟨hs1, hs2, hs3, hs4⟩ := hs
    have hbi : ¬ (BL : Int) = 0 := by omega
    have HS := Lib.hid (show ∀ W, Calls Tryd.prog 10 #[.int .i64 k] W fun e w' => e = .returned (.tuple #[.int .i64 (SZ : Nat), .int .i64 (BL : Nat)]) ∧ W = w' from fun W => by rw [hBL, hSZ]; exact rsize_any k W)
    by_cases h0 : n < 0
    · have e : maskK k text n = [] := by simp [maskK, h0]
      rw [e]
      clear ht e hb hBL hSZ
      go_enter Tryd.func17, Tryd.ntmps17
      go_wp2_with (go_at_call 10; ((with_reducible refine (HS.out _).mono ?_); rintro e w1 ⟨rfl, rfl⟩))
      go_ret
      exact ⟨none, 0, rfl, Rd.nil_ _, Below.refl _ _⟩
    · by_cases h1 : 65536 < n
      · have e : maskK k text n = [] := by simp [maskK, h1]
        rw [e]
        clear ht e hb hBL hSZ
        go_enter Tryd.func17, Tryd.ntmps17
        go_wp2_with (go_at_call 10; ((with_reducible refine (HS.out _).mono ?_); rintro e w1 ⟨rfl, rfl⟩))
        go_ret
        exact ⟨none, 0, rfl, Rd.nil_ _, Below.refl _ _⟩
      · obtain ⟨N, rfl⟩ := Int.eq_ofNat_of_zero_le (show 0 ≤ n by omega)
        have hN : N ≤ 65536 := by omega
        have HM := Lib.hid (show ∀ m, N ≤ m * SZ → maskK k text (N : Int) = (pts k text m).take N from fun m hm => by rw [hSZ] at hm; exact maskK_parts k text (N : Int) hb (by omega) (by omega) m (by rw [Int.toNat_natCast]; exact hm))
        have HL := Lib.hid (show ∀ xs, (sumK k xs).length = SZ from fun xs => by rw [hSZ]; exact sumK_length k xs)
        have HT := Lib.hid ht
        clear ht hb hBL hSZ hs3 hs4
        have q1 : ((BL : Int) == 0) = false := beq_eq_false_iff_ne.2 hbi
        have q2 : decide ((N : Int) < 0) = false := decide_eq_false h0
        have q3 : decide (65536 < (N : Int)) = false := by simp only [decide_eq_false_iff_not]; exact h1
        go_enter Tryd.func17, Tryd.ntmps17
        go_wp2_with (go_at_call 10; ((with_reducible refine (HS.out _).mono ?_); rintro e w1 ⟨rfl, rfl⟩))
        clear q1 q2 q3 hbi h0 h1
        go_loopw [9, 10] (fun out i wr => ∃ j : Nat, j ≤ N ∧ i = .int .i64 (j : Int) ∧ wr.ownsRow w.heap.size 5 1 out (j * SZ) (bv (pts k text j)) ∧ Below w.heap.size w wr) (fun _ i _ => N - (intOf i).toNat)
        case atStart => exact ⟨0, by omega, rfl, by simpa [pts, bv] using World.ownsRow_nil _ _ _ _, Below.refl _ _⟩
        case round =>
          obtain ⟨j, hj, rfl, own, hB⟩ := hrel
          obtain ⟨M, hM⟩ : ∃ M, M = j * SZ := ⟨_, rfl⟩
          have hM1 : j * 32 ≤ j * SZ := Nat.mul_le_mul_left _ hs1
          have hM2 : j * SZ ≤ j * 64 := Nat.mul_le_mul_left _ hs2
          rw [← hM] at own hM1 hM2
          obtain ⟨A0, c0, rfl⟩ := own_form own
          by_cases hlt : M < N
          · have i0 : (M : Int) < (N : Int) := by omega
            have hw : IntKind.u64.wrap (j : Int) = (j : Int) := by rw [IntKind.wrap_u64]; omega
            have OW := Lib.hid own
            have hB0 := Lib.hid hB
            obtain ⟨tx, htx⟩ : ∃ tx, tx = text ++ putL j 4 := ⟨_, rfl⟩
            have PS := Lib.hid (show pts k text (j + 1) = pts k text j ++ sumK k tx by rw [htx]; exact pts_succ k text j)
            have hMS := Lib.hid (show M + SZ = (j + 1) * SZ by rw [hM, Nat.succ_mul])
            have PL := Lib.hid (putL_length j 4)
            have TL := Lib.hid HT.out.len
            have HP := Lib.hid (show ∀ W, Calls Tryd.prog 27 #[.int .u64 (j : Int), .int .i64 4] W (New W.heap.size W (putL j 4)) from fun W => rput_any j 4 W (by omega) (by omega))
            have HC := Lib.hid (show [text, putL j 4].flatten = tx by rw [htx]; simp)
            have HCL := Lib.hid (show tx.length = nt + 4 by rw [htx, List.length_append, PL.out, TL.out])
            clear own hB hM htx
            go_wp2_with (first
              | (go_at_call 27; ((with_reducible refine (HP.out _).mono ?_); intro e w2 h2; obtain ⟨A2, c2, rfl, r2, b2⟩ := new_len h2; have O2 := Lib.hid (own_below OW.out b2); have B2 := Lib.hid (hB0.out.trans (b2.mono hB0.out.size)); have R2 := Lib.hid r2; have T2 := Lib.hid ((HT.out.below hB0.out).below b2); have D2 := Lib.hid (RdBs.two (T := 22) T2.out R2.out _ rfl); clear h2 r2 b2))
              | (go_at_call 26; ((with_reducible refine (rcat_any _ _ _ [text, putL j 4] _ D2.out (by rw [HC.out, HCL.out]; omega)).mono ?_); intro e w3 h3; rw [HC.out] at h3; obtain ⟨A3, c3, rfl, r3, b3⟩ := new_len h3; have O3 := Lib.hid (own_below (own_below O2.out ((Below.refl _ _).alloc (Nat.le_refl _) _)) b3); have B3 := Lib.hid ((B2.out.alloc B2.out.size _).trans (b3.mono (by have := B2.out.size; simp; omega))); have R3 := Lib.hid r3; clear h3 r3 b3))
              | (go_at_call 13; ((with_reducible refine (rsum_any k A3 _ c3 _ w3 R3.out (by rw [HCL.out]; omega)).mono ?_); intro e w4 h4; obtain ⟨A4, c4, rfl, r4, b4⟩ := new_len h4; have O4 := Lib.hid (own_below O3.out b4); have B4 := Lib.hid (B3.out.trans (b4.mono B3.out.size)); rw [HL.out tx] at r4; have R4 := Lib.hid r4; have L4 := HL.out tx; clear h4 r4 b4))
              | (at_builtin; refine append_rd rfl (.tmp 32) (.tmp 40) rfl w.heap.size _ M _ rfl O4.out A4 SZ c4 _ rfl R4.out (by omega) B4.out.size ?_; intro v5 w5 o5 g5; have O5 := Lib.hid o5; have B5 := Lib.hid (B4.out.grown g5 B4.out.size (fun g hg => (O4.out.lt g hg).1)); clear o5 g5))
            go_roundw
            case rel => exact ⟨j + 1, by omega, by go_num, by rw [← hMS.out, PS.out]; exact O5.out, B5.out⟩
            case measure => simp [intOf]; omega
          · have i0 : ¬ (M : Int) < (N : Int) := by omega
            have HF := Lib.hid (HM.out j (by omega))
            have R0 := Lib.hid ((Rd.own own).take (k := N) (by omega))
            have hrun := fun W => run_cutSlHAt (A := A0) (n := M) (c := c0) (m := N) (h := (N : Int)) rfl (by have := (Rd.own own).cap; omega) W
            have hrun2 := fun W => run_cutSlH (A := A0) (n := M) (c := c0) (m := N) (h := (N : Int)) rfl (by have := (Rd.own own).cap; omega) W
            have ML := Lib.hid (show ((pts k text j).take N).length = N by rw [List.length_take, own_len own]; omega)
            clear own hM hM1 hM2
            go_wp2
            go_ret
            exact ⟨A0, c0, by rw [HF.out, ML.out]; rfl, by rw [HF.out, ML.out]; exact R0.out, hB⟩
end Go.Proofs.YtjgcaodicbikiaaDoor.S6
