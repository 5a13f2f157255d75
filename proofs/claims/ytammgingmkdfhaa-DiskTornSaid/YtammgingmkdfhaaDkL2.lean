/-
  The walk of layer 19's third statement, over the contracts. No statement is proved here. (Written by gendk2.py.)
-/
import Derived.Test.YtammgingmkdfhaaDk4
import Derived.Test.YtammgingmkdfhaaTool
namespace Go.Proofs.Ytammgingmkdfhaa.S19
set_option linter.unusedSimpArgs false
set_option linter.unusedVariables false
set_option maxRecDepth 4096
open Go.RowKit

theorem run_min2d {P : Program} (ts : Array TypeId) (t : TypeId) (k : IntKind) (a b r : Int) (h : min a b = r) (w : World) :
    (Builtin.min_ ts t #[.int k a, .int k b]).run P w = .ok (.int k r) w := by
  subst h
  have e : (if b < a then b else a) = min a b := by split <;> omega
  have e2 : (Builtin.min2 (.int k a) (.int k b)).run P w = .ok (.int k (min a b)) w := by
    simp only [Builtin.min2, e]
    rfl
  simp [Builtin.min_, List.foldlM, e2]
def trA (x y z : List UInt8) : Dk := ⟨[x], [(0, y)], [], 0, 3, false⟩
theorem tr_w1 (x : List UInt8) (h : x.length = 64) : (Dk.new 1).write 0 x = ⟨[List.replicate 64 0], [(0, x)], [], 0, 1, false⟩ ∧ (Dk.new 1).writeC 0 x = 0 := by
  constructor
  · simp [Dk.write, Dk.new, Dk.has, h, Dk.stepC, Dk.step]
  · simp [Dk.writeC, Dk.new, Dk.has, h, Dk.stepC]
theorem tr_f (x : List UInt8) : (⟨[List.replicate 64 0], [(0, x)], [], 0, 1, false⟩ : Dk).flush = ⟨[x], [], [], 0, 2, false⟩ ∧ (⟨[List.replicate 64 0], [(0, x)], [], 0, 1, false⟩ : Dk).stepC = 0 := by
  constructor
  · simp [Dk.flush, Dk.stepC, Dk.step, Dk.laid]
  · simp [Dk.stepC]
theorem tr_w2 (x y : List UInt8) (h : y.length = 64) : (⟨[x], [], [], 0, 2, false⟩ : Dk).write 0 y = ⟨[x], [(0, y)], [], 0, 3, false⟩ ∧ (⟨[x], [], [], 0, 2, false⟩ : Dk).writeC 0 y = 0 := by
  constructor
  · simp [Dk.write, Dk.has, h, Dk.stepC, Dk.step]
  · simp [Dk.writeC, Dk.has, h, Dk.stepC]
theorem tr_r (x y : List UInt8) (c : UInt8) (o : Bool) : ((⟨[x], [(0, y)], [], 0, 3, o⟩ : Dk).up [c] [] 0).readC 0 = 0 ∧ ((⟨[x], [(0, y)], [], 0, 3, o⟩ : Dk).up [c] [] 0).readB 0 = Dk.torn c.toNat x y := by
  have h1 : ((⟨[x], [(0, y)], [], 0, 3, o⟩ : Dk).up [c] [] 0).readC 0 = 0 := by simp [Dk.readC, Dk.up, Dk.has, Dk.tear_len]
  refine ⟨h1, ?_⟩
  rw [Dk.readB, if_pos h1]
  rfl
theorem torn_0 {c : Nat} (h : c % 4 = 0) (x y : List UInt8) (hx : x.length = 64) : Dk.torn c x y = x := by
  apply List.ext_getElem (by simp [Dk.torn, hx])
  intro i h1 h2
  simp [Dk.torn, h, List.getD, h2]
theorem torn_1 {c : Nat} (h : c % 4 = 1) (x y : List UInt8) (hy : y.length = 64) : Dk.torn c x y = y := by
  apply List.ext_getElem (by simp [Dk.torn, hy])
  intro i h1 h2
  simp [Dk.torn, h, List.getD, h2]
theorem torn_2 {c : Nat} (h : c % 4 = 2) (x y : List UInt8) (hx : x.length = 64) (hy : y.length = 64) (hc : c / 4 ≤ 64) : Dk.torn c x y = y.take (c / 4) ++ x.drop (c / 4) := by
  apply List.ext_getElem (by simp [Dk.torn, hx, hy]; omega)
  intro i h1 h2
  have h3 : i < 64 := by simpa [Dk.torn] using h1
  by_cases q : i < c / 4
  · rw [List.getElem_append_left (by simp [hy]; omega)]
    simp [Dk.torn, h, q, List.getD, hy, h3]
  · rw [List.getElem_append_right (by simp [hy]; omega)]
    have e : c / 4 + (i - min (c / 4) 64) = i := by omega
    simp [Dk.torn, h, q, List.getD, hx, hy, h3, e]
theorem torn_3 {c : Nat} (h : c % 4 = 3) (x y : List UInt8) (hx : x.length = 64) (hy : y.length = 64) (hc : c / 4 ≤ 64) : Dk.torn c x y = x.take (c / 4) ++ y.drop (c / 4) := by
  apply List.ext_getElem (by simp [Dk.torn, hx, hy]; omega)
  intro i h1 h2
  have h3 : i < 64 := by simpa [Dk.torn] using h1
  by_cases q : i < c / 4
  · rw [List.getElem_append_left (by simp [hx]; omega)]
    have q' : ¬ c / 4 ≤ i := by omega
    simp [Dk.torn, h, q', List.getD, hx, h3]
  · rw [List.getElem_append_right (by simp [hx]; omega)]
    have e : c / 4 + (i - min (c / 4) 64) = i := by omega
    have q' : c / 4 ≤ i := by omega
    simp [Dk.torn, h, q', List.getD, hx, hy, h3, e]
set_option maxHeartbeats 16000000 in
theorem diskTorn_walk (M : DC) (w : World) (hk : M.ok w) (o b c x : UInt8) : Calls Try.prog 5 #[.int .u8 (o.toNat : Int), .int .u8 (b.toNat : Int), .agg #[.int .u8 (c.toNat : Int), .int .u8 (x.toNat : Int)]] w fun e w' => e = .returned (.bool true) ∧ Below w.heap.size w w' := by
  have HK := Lib.hid hk
  obtain ⟨N, hN⟩ : ∃ N, w.heap.size = N := ⟨_, rfl⟩
  have OKN := Lib.hid (show ∀ X, Below N w X → M.ok X from fun X hX => M.bel hk (by rw [hN]; exact hX))
  obtain ⟨ro, hro⟩ : ∃ ro, ro = rowL o 64 := ⟨_, rfl⟩
  obtain ⟨rb, hrb⟩ : ∃ rb, rb = rowL b 64 := ⟨_, rfl⟩
  have lo : ro.length = 64 := by rw [hro]; exact rowL_len _ _
  have lb : rb.length = 64 := by rw [hrb]; exact rowL_len _ _
  have C1 := Lib.hid (show ∀ X, Below N w X → Calls Try.prog 9 #[.int .i64 1] X fun e w' => ∃ g F, e = .returned (.tuple #[.pointer (some ⟨g, 0, none⟩), .int .i64 0]) ∧ M.Is N w' g (Dk.new 1) F ∧ (∀ b, F b → X.heap.size ≤ b) ∧ Below X.heap.size X w' from fun X hX => M.new N X 1 (OKN.out X hX) (by rw [← hN]; exact hX.size) (by omega) (by omega))
  have CO := Lib.hid (show ∀ X, Calls Try.prog 16 #[.int .u8 (o.toNat : Int), .bool false] X (New X.heap.size X ro) from fun X => by rw [hro]; exact row_any o false X)
  have CB := Lib.hid (show ∀ X, Calls Try.prog 16 #[.int .u8 (b.toNat : Int), .bool false] X (New X.heap.size X rb) from fun X => by rw [hrb]; exact row_any b false X)
  obtain ⟨D1, hD1⟩ : ∃ D1 : Dk, D1 = ⟨[List.replicate 64 0], [(0, ro)], [], 0, 1, false⟩ := ⟨_, rfl⟩
  obtain ⟨D2, hD2⟩ : ∃ D2 : Dk, D2 = ⟨[ro], [], [], 0, 2, false⟩ := ⟨_, rfl⟩
  have W1 := Lib.hid (show ∀ X g F A c, Below N w X → M.Is N X g (Dk.new 1) F → Rd X A 64 c ro → (∀ a, 0 < 64 → A = some a → ¬ F a.block) → Calls Try.prog 15 #[.pointer (some ⟨g, 0, none⟩), .int .i64 0, .slice A 64 c] X (Post M.Is N F g X D1 (.int .i64 0)) from fun X g F A c hX hI hR hZ => by
    have h := M.write N X g (Dk.new 1) F 0 A 64 c ro (OKN.out X hX) hI hR hZ (by simp [Dk.new])
    rw [(tr_w1 ro lo).1, (tr_w1 ro lo).2, ← hD1] at h
    exact h)
  have FL := Lib.hid (show ∀ X g F, Below N w X → M.Is N X g D1 F → Calls Try.prog 17 #[.pointer (some ⟨g, 0, none⟩)] X (Post M.Is N F g X D2 (.int .i64 0)) from fun X g F hX hI => by
    have h := M.flush N X g D1 F (OKN.out X hX) hI (by rw [hD1]; show 1 < _; omega)
    rw [hD1, (tr_f ro).1, (tr_f ro).2, ← hD2] at h
    exact h)
  obtain ⟨D3, hD3⟩ : ∃ D3 : Dk, D3 = ⟨[ro], [(0, rb)], [], 0, 3, false⟩ := ⟨_, rfl⟩
  have W2 := Lib.hid (show ∀ X g F A c, Below N w X → M.Is N X g D2 F → Rd X A 64 c rb → (∀ a, 0 < 64 → A = some a → ¬ F a.block) → Calls Try.prog 15 #[.pointer (some ⟨g, 0, none⟩), .int .i64 0, .slice A 64 c] X (Post M.Is N F g X D3 (.int .i64 0)) from fun X g F A c hX hI hR hZ => by
    have h := M.write N X g D2 F 0 A 64 c rb (OKN.out X hX) hI hR hZ (by rw [hD2]; show 2 < _; omega)
    rw [hD2, (tr_w2 ro rb lb).1, (tr_w2 ro rb lb).2, ← hD3] at h
    exact h)
  have ST := Lib.hid (show ∀ X g F, Below N w X → M.Is N X g D3 F → Calls Try.prog 20 #[.pointer (some ⟨g, 0, none⟩)] X (Post M.Is N F g X D3.halt (.tuple #[])) from fun X g F hX hI => M.stop N X g D3 F (OKN.out X hX) hI)
  obtain ⟨D4, hD4⟩ : ∃ D4 : Dk, D4 = (⟨[ro], [(0, rb)], [], 0, 3, false⟩ : Dk).up [c] [] 0 := ⟨_, rfl⟩
  have UP := Lib.hid (show ∀ X g F D b, Below N w X → (D = D3 ∨ D = D3.halt) → M.Is N X g D F → Rd X (some ⟨b, 0, none⟩) 1 1 [c] → ¬ F b → Calls Try.prog 18 #[.pointer (some ⟨g, 0, none⟩), .slice (some ⟨b, 0, none⟩) 1 1, .agg #[.slice none 0 0, .int .i64 0]] X fun e w' => e = .returned (.tuple #[]) ∧ ∃ F', M.Is N w' g D4 F' ∧ Mv N F X w' from fun X g F D b hX hD hI hR hZ => (M.up N X g D F _ 1 1 [c] none 0 0 [] 0 (OKN.out X hX) hI hR (fun a _ e => by cases e; exact hZ) (RI.nil_ _ _) (fun a h => absurd h (by decide)) (by decide)).mono (by
    rintro e w' ⟨h1, F', h2, h3, h4⟩
    refine ⟨h1, F', ?_, h4⟩
    rcases hD with rfl | rfl
    · rw [hD4, ← hD3]; exact h2
    · rw [hD4, ← hD3]; exact h2))
  obtain ⟨xr, hxr⟩ : ∃ xr, xr = Dk.torn c.toNat ro rb := ⟨_, rfl⟩
  have lr : xr.length = 64 := by rw [hxr]; exact Dk.torn_len _ _ _
  have RE := Lib.hid (show ∀ X g F, Below N w X → M.Is N X g D4 F → Calls Try.prog 22 #[.pointer (some ⟨g, 0, none⟩), .int .i64 0] X fun e w' => ∃ A c, e = .returned (.tuple #[.slice A 64 c, .int .i64 0]) ∧ Rd w' A 64 c xr ∧ Below N X w' from fun X g F hX hI => by
    have h := M.read N X g D4 F 0 (OKN.out X hX) hI
    rw [show D4.readB 0 = xr by rw [hD4, hxr]; exact (tr_r ro rb c false).2, show D4.readC 0 = 0 by rw [hD4]; exact (tr_r ro rb c false).1, lr] at h
    exact h.mono fun e w' ⟨A, c, F', q1, q2, _, _, _, q6⟩ => ⟨A, c, q1, q2, q6.bel⟩)
  obtain ⟨q, hq⟩ : ∃ q, q = c.toNat / 4 := ⟨_, rfl⟩
  have c256 : c.toNat < 256 := c.toNat_lt
  have q64 : q < 64 := by omega
  have g1 : (c.toNat : Int).tdiv 4 = (q : Int) := by rw [Int.tdiv_eq_ediv_of_nonneg (Int.natCast_nonneg _), hq]; simp
  have g1' : (c.toNat : Int) / 4 = (q : Int) := by rw [hq]; simp
  have g2 := fun W => run_min2d (P := Try.prog) #[3, 3] 3 .i64 (q : Int) 64 (q : Int) (by omega) W
  have LO := Lib.hid lo
  have LB := Lib.hid lb
  have hN0 := Lib.hid hN
  have HXR := Lib.hid hxr
  have HQ := Lib.hid hq
  have BN := Lib.hid (show ∀ X Y, Below N w X → Below X.heap.size X Y → Below N w Y from fun X Y h h' => h.trans (h'.mono (by have := h.size; omega)))
  clear hk hro hrb hD1 hD2 hD3 hD4 hxr lr hq lo lb c256
  obtain ⟨w0, hw0⟩ : ∃ w0, w.alloc (.cells #[.int .u8 (c.toNat : Int), .int .u8 (x.toNat : Int)] 54) = w0 := ⟨_, rfl⟩
  have M0 := Lib.hid (show Bk w0 N 54 #[.int .u8 (c.toNat : Int), .int .u8 (x.toNat : Int)] by rw [← hw0, ← hN]; exact Bk.new _ _ _)
  have B0 := Lib.hid (show Below N w w0 by rw [← hw0, ← hN]; exact (Below.refl _ _).alloc (Nat.le_refl _) _)
  have N0 := Lib.hid (show N ≤ w0.heap.size by have := B0.out.size; omega)
  by_cases hh : x.toNat % 2 = 1
  case pos =>
    have u1 : (x.toNat : Int) % 2 = 1 := by omega
    clear hh
    have hm4 : c.toNat % 4 = 0 ∨ c.toNat % 4 = 1 ∨ c.toNat % 4 = 2 ∨ c.toNat % 4 = 3 := by omega
    rcases hm4 with cm | cm | cm | cm
    · have u2 : (c.toNat : Int) % 4 = 0 := by omega
      go_enter Try.func5, Try.ntmps5
      go_upto_region 1 with (fail)
      first
        | rw [hw0]
        | skip
      clear hw0
      go_upto_region 5 with (go_at_call 8; ((with_reducible refine (awake_any M w0 (OKN.out _ B0.out)).mono ?_); rintro e w1 ⟨rfl, b1⟩; have B1 := Lib.hid (BN.out _ _ B0.out b1); have M1 := Lib.hid (M0.out.below b1 M0.out.lt); have k0 := M1.out.cell 0; have k1 := M1.out.cell 1; simp only [List.getElem?_toArray, List.getElem?_cons_zero, List.getElem?_cons_succ] at k0 k1; clear b1))
      go_upto_region 13 with (first
        | (go_at_call 9; ((with_reducible refine (C1.out _ B1.out).mono ?_); rintro e w2 ⟨g, F2, rfl, i2, s2, b2⟩; have I2 := Lib.hid i2; have B2 := Lib.hid (BN.out _ _ B1.out b2); clear i2 s2 b2))
        | (go_at_call 16; ((with_reducible refine (CO.out w2).mono ?_); rintro e w3 ⟨A3, n3, c3, rfl, q3, b3⟩; obtain rfl : n3 = 64 := (own_len q3).symm.trans LO.out; have R3 := Lib.hid (Rd.own q3); have Z3 := Lib.hid (own_off M I2.out q3); have I3 := Lib.hid (M.grow I2.out b3); have B3 := Lib.hid (BN.out _ _ B2.out b3); clear q3 b3))
        | (go_at_call 15; ((with_reducible refine (W1.out _ g F2 A3 c3 B3.out I3.out R3.out Z3.out).mono ?_); rintro e w4 ⟨rfl, F4, i4, s4, m4⟩; have I4 := Lib.hid i4; have B4 := Lib.hid (B3.out.trans m4.bel); clear i4 s4 m4))
        | (go_at_call 17; ((with_reducible refine (FL.out _ g F4 B4.out I4.out).mono ?_); rintro e w5 ⟨rfl, F5, i5, s5, m5⟩; have I5 := Lib.hid i5; have B5 := Lib.hid (B4.out.trans m5.bel); clear i5 s5 m5))
        | (go_at_call 16; ((with_reducible refine (CB.out w5).mono ?_); rintro e w6 ⟨A6, n6, c6, rfl, q6, b6⟩; obtain rfl : n6 = 64 := (own_len q6).symm.trans LB.out; have R6 := Lib.hid (Rd.own q6); have Z6 := Lib.hid (own_off M I5.out q6); have I6 := Lib.hid (M.grow I5.out b6); have B6 := Lib.hid (BN.out _ _ B5.out b6); clear q6 b6))
        | (go_at_call 15; ((with_reducible refine (W2.out _ g F5 A6 c6 B6.out I6.out R6.out Z6.out).mono ?_); rintro e w7 ⟨rfl, F7, i7, s7, m7⟩; have I7 := Lib.hid i7; have B7 := Lib.hid (B6.out.trans m7.bel); clear i7 s7 m7))
        | (go_at_call 20; ((with_reducible refine (ST.out _ g F7 B7.out I7.out).mono ?_); rintro e w8 ⟨rfl, F8, i8, s8, m8⟩; have I8 := Lib.hid i8; have B8 := Lib.hid (B7.out.trans m8.bel); clear i8 s8 m8))
        | (go_at_call 18; ((refine (UP.out (w8.alloc (.cells #[.int .u8 (c.toNat : Int)] 5)) g F8 _ w8.heap.size (BN.out _ _ B8.out ((Below.refl _ _).alloc (Nat.le_refl _) _)) (.inr rfl) (M.grow I8.out ((Below.refl _ _).alloc (Nat.le_refl _) _)) (rd_litD w8 #[.int .u8 (c.toNat : Int)] [c] rfl (by simp [maxLen]) _ rfl) (fun h => Nat.lt_irrefl _ (M.lt I8.out _ h).2)).mono ?_); rintro e w9 ⟨rfl, F9, i9, m9⟩; have I9 := Lib.hid i9; have B9 := Lib.hid ((BN.out _ _ B8.out ((Below.refl _ _).alloc (Nat.le_refl _) _)).trans m9.bel); clear i9 m9)))
      have XE := Lib.hid (show xr = ro by rw [HXR.out]; exact torn_0 cm ro rb LO.out)
      go_wp2_with (first
        | (go_at_call 22; ((with_reducible refine (RE.out _ g F9 B9.out I9.out).mono ?_); rintro e w10 ⟨A10, c10, rfl, r10, b10⟩; have R10 := Lib.hid r10; have B10 := Lib.hid (B9.out.trans b10); clear r10 b10))
        | (go_at_call 16; ((with_reducible refine (CO.out w10).mono ?_); rintro e w11 ⟨A11, n11, c11, rfl, q11, b11⟩; obtain rfl : n11 = 64 := (own_len q11).symm.trans LO.out; have R11 := Lib.hid (Rd.own q11); have S11 := Lib.hid (R10.out.below b11); have B11 := Lib.hid (BN.out _ _ B10.out b11); clear q11 b11))
        | (go_at_call 16; ((with_reducible refine (CB.out w11).mono ?_); rintro e w12 ⟨A12, n12, c12, rfl, q12, b12⟩; obtain rfl : n12 = 64 := (own_len q12).symm.trans LB.out; have R12 := Lib.hid (Rd.own q12); have T12 := Lib.hid (R11.out.below b12); have S12 := Lib.hid (S11.out.below b12); have B12 := Lib.hid (BN.out _ _ B11.out b12); clear q12 b12))
        | (go_at_call 19; ((with_reducible refine (rsame_true A10 A11 64 c10 64 c11 xr ro _ S12.out T12.out XE.out).mono ?_); rintro e w13 ⟨rfl, b13⟩; have B13 := Lib.hid (BN.out _ _ B12.out b13); clear b13)))
      go_ret
      exact ⟨rfl, by rw [hN0.out]; exact B13.out⟩
    · have u2 : (c.toNat : Int) % 4 = 1 := by omega
      go_enter Try.func5, Try.ntmps5
      go_upto_region 1 with (fail)
      first
        | rw [hw0]
        | skip
      clear hw0
      go_upto_region 5 with (go_at_call 8; ((with_reducible refine (awake_any M w0 (OKN.out _ B0.out)).mono ?_); rintro e w1 ⟨rfl, b1⟩; have B1 := Lib.hid (BN.out _ _ B0.out b1); have M1 := Lib.hid (M0.out.below b1 M0.out.lt); have k0 := M1.out.cell 0; have k1 := M1.out.cell 1; simp only [List.getElem?_toArray, List.getElem?_cons_zero, List.getElem?_cons_succ] at k0 k1; clear b1))
      go_upto_region 13 with (first
        | (go_at_call 9; ((with_reducible refine (C1.out _ B1.out).mono ?_); rintro e w2 ⟨g, F2, rfl, i2, s2, b2⟩; have I2 := Lib.hid i2; have B2 := Lib.hid (BN.out _ _ B1.out b2); clear i2 s2 b2))
        | (go_at_call 16; ((with_reducible refine (CO.out w2).mono ?_); rintro e w3 ⟨A3, n3, c3, rfl, q3, b3⟩; obtain rfl : n3 = 64 := (own_len q3).symm.trans LO.out; have R3 := Lib.hid (Rd.own q3); have Z3 := Lib.hid (own_off M I2.out q3); have I3 := Lib.hid (M.grow I2.out b3); have B3 := Lib.hid (BN.out _ _ B2.out b3); clear q3 b3))
        | (go_at_call 15; ((with_reducible refine (W1.out _ g F2 A3 c3 B3.out I3.out R3.out Z3.out).mono ?_); rintro e w4 ⟨rfl, F4, i4, s4, m4⟩; have I4 := Lib.hid i4; have B4 := Lib.hid (B3.out.trans m4.bel); clear i4 s4 m4))
        | (go_at_call 17; ((with_reducible refine (FL.out _ g F4 B4.out I4.out).mono ?_); rintro e w5 ⟨rfl, F5, i5, s5, m5⟩; have I5 := Lib.hid i5; have B5 := Lib.hid (B4.out.trans m5.bel); clear i5 s5 m5))
        | (go_at_call 16; ((with_reducible refine (CB.out w5).mono ?_); rintro e w6 ⟨A6, n6, c6, rfl, q6, b6⟩; obtain rfl : n6 = 64 := (own_len q6).symm.trans LB.out; have R6 := Lib.hid (Rd.own q6); have Z6 := Lib.hid (own_off M I5.out q6); have I6 := Lib.hid (M.grow I5.out b6); have B6 := Lib.hid (BN.out _ _ B5.out b6); clear q6 b6))
        | (go_at_call 15; ((with_reducible refine (W2.out _ g F5 A6 c6 B6.out I6.out R6.out Z6.out).mono ?_); rintro e w7 ⟨rfl, F7, i7, s7, m7⟩; have I7 := Lib.hid i7; have B7 := Lib.hid (B6.out.trans m7.bel); clear i7 s7 m7))
        | (go_at_call 20; ((with_reducible refine (ST.out _ g F7 B7.out I7.out).mono ?_); rintro e w8 ⟨rfl, F8, i8, s8, m8⟩; have I8 := Lib.hid i8; have B8 := Lib.hid (B7.out.trans m8.bel); clear i8 s8 m8))
        | (go_at_call 18; ((refine (UP.out (w8.alloc (.cells #[.int .u8 (c.toNat : Int)] 5)) g F8 _ w8.heap.size (BN.out _ _ B8.out ((Below.refl _ _).alloc (Nat.le_refl _) _)) (.inr rfl) (M.grow I8.out ((Below.refl _ _).alloc (Nat.le_refl _) _)) (rd_litD w8 #[.int .u8 (c.toNat : Int)] [c] rfl (by simp [maxLen]) _ rfl) (fun h => Nat.lt_irrefl _ (M.lt I8.out _ h).2)).mono ?_); rintro e w9 ⟨rfl, F9, i9, m9⟩; have I9 := Lib.hid i9; have B9 := Lib.hid ((BN.out _ _ B8.out ((Below.refl _ _).alloc (Nat.le_refl _) _)).trans m9.bel); clear i9 m9)))
      have XE := Lib.hid (show xr = rb by rw [HXR.out]; exact torn_1 cm ro rb LB.out)
      go_wp2_with (first
        | (go_at_call 22; ((with_reducible refine (RE.out _ g F9 B9.out I9.out).mono ?_); rintro e w10 ⟨A10, c10, rfl, r10, b10⟩; have R10 := Lib.hid r10; have B10 := Lib.hid (B9.out.trans b10); clear r10 b10))
        | (go_at_call 16; ((with_reducible refine (CO.out w10).mono ?_); rintro e w11 ⟨A11, n11, c11, rfl, q11, b11⟩; obtain rfl : n11 = 64 := (own_len q11).symm.trans LO.out; have R11 := Lib.hid (Rd.own q11); have S11 := Lib.hid (R10.out.below b11); have B11 := Lib.hid (BN.out _ _ B10.out b11); clear q11 b11))
        | (go_at_call 16; ((with_reducible refine (CB.out w11).mono ?_); rintro e w12 ⟨A12, n12, c12, rfl, q12, b12⟩; obtain rfl : n12 = 64 := (own_len q12).symm.trans LB.out; have R12 := Lib.hid (Rd.own q12); have T12 := Lib.hid (R11.out.below b12); have S12 := Lib.hid (S11.out.below b12); have B12 := Lib.hid (BN.out _ _ B11.out b12); clear q12 b12))
        | (go_at_call 19; ((with_reducible refine (rsame_true A10 A12 64 c10 64 c12 xr rb _ S12.out R12.out XE.out).mono ?_); rintro e w13 ⟨rfl, b13⟩; have B13 := Lib.hid (BN.out _ _ B12.out b13); clear b13)))
      go_ret
      exact ⟨rfl, by rw [hN0.out]; exact B13.out⟩
    · have u2 : (c.toNat : Int) % 4 = 2 := by omega
      go_enter Try.func5, Try.ntmps5
      go_upto_region 1 with (fail)
      first
        | rw [hw0]
        | skip
      clear hw0
      go_upto_region 5 with (go_at_call 8; ((with_reducible refine (awake_any M w0 (OKN.out _ B0.out)).mono ?_); rintro e w1 ⟨rfl, b1⟩; have B1 := Lib.hid (BN.out _ _ B0.out b1); have M1 := Lib.hid (M0.out.below b1 M0.out.lt); have k0 := M1.out.cell 0; have k1 := M1.out.cell 1; simp only [List.getElem?_toArray, List.getElem?_cons_zero, List.getElem?_cons_succ] at k0 k1; clear b1))
      go_upto_region 13 with (first
        | (go_at_call 9; ((with_reducible refine (C1.out _ B1.out).mono ?_); rintro e w2 ⟨g, F2, rfl, i2, s2, b2⟩; have I2 := Lib.hid i2; have B2 := Lib.hid (BN.out _ _ B1.out b2); clear i2 s2 b2))
        | (go_at_call 16; ((with_reducible refine (CO.out w2).mono ?_); rintro e w3 ⟨A3, n3, c3, rfl, q3, b3⟩; obtain rfl : n3 = 64 := (own_len q3).symm.trans LO.out; have R3 := Lib.hid (Rd.own q3); have Z3 := Lib.hid (own_off M I2.out q3); have I3 := Lib.hid (M.grow I2.out b3); have B3 := Lib.hid (BN.out _ _ B2.out b3); clear q3 b3))
        | (go_at_call 15; ((with_reducible refine (W1.out _ g F2 A3 c3 B3.out I3.out R3.out Z3.out).mono ?_); rintro e w4 ⟨rfl, F4, i4, s4, m4⟩; have I4 := Lib.hid i4; have B4 := Lib.hid (B3.out.trans m4.bel); clear i4 s4 m4))
        | (go_at_call 17; ((with_reducible refine (FL.out _ g F4 B4.out I4.out).mono ?_); rintro e w5 ⟨rfl, F5, i5, s5, m5⟩; have I5 := Lib.hid i5; have B5 := Lib.hid (B4.out.trans m5.bel); clear i5 s5 m5))
        | (go_at_call 16; ((with_reducible refine (CB.out w5).mono ?_); rintro e w6 ⟨A6, n6, c6, rfl, q6, b6⟩; obtain rfl : n6 = 64 := (own_len q6).symm.trans LB.out; have R6 := Lib.hid (Rd.own q6); have Z6 := Lib.hid (own_off M I5.out q6); have I6 := Lib.hid (M.grow I5.out b6); have B6 := Lib.hid (BN.out _ _ B5.out b6); clear q6 b6))
        | (go_at_call 15; ((with_reducible refine (W2.out _ g F5 A6 c6 B6.out I6.out R6.out Z6.out).mono ?_); rintro e w7 ⟨rfl, F7, i7, s7, m7⟩; have I7 := Lib.hid i7; have B7 := Lib.hid (B6.out.trans m7.bel); clear i7 s7 m7))
        | (go_at_call 20; ((with_reducible refine (ST.out _ g F7 B7.out I7.out).mono ?_); rintro e w8 ⟨rfl, F8, i8, s8, m8⟩; have I8 := Lib.hid i8; have B8 := Lib.hid (B7.out.trans m8.bel); clear i8 s8 m8))
        | (go_at_call 18; ((refine (UP.out (w8.alloc (.cells #[.int .u8 (c.toNat : Int)] 5)) g F8 _ w8.heap.size (BN.out _ _ B8.out ((Below.refl _ _).alloc (Nat.le_refl _) _)) (.inr rfl) (M.grow I8.out ((Below.refl _ _).alloc (Nat.le_refl _) _)) (rd_litD w8 #[.int .u8 (c.toNat : Int)] [c] rfl (by simp [maxLen]) _ rfl) (fun h => Nat.lt_irrefl _ (M.lt I8.out _ h).2)).mono ?_); rintro e w9 ⟨rfl, F9, i9, m9⟩; have I9 := Lib.hid i9; have B9 := Lib.hid ((BN.out _ _ B8.out ((Below.refl _ _).alloc (Nat.le_refl _) _)).trans m9.bel); clear i9 m9)))
      have XE := Lib.hid (show xr = rb.take q ++ ro.drop q by rw [HXR.out, HQ.out]; exact torn_2 cm ro rb LO.out LB.out (by rw [← HQ.out]; omega))
      go_upto_region 22 with (first
        | (go_at_call 22; ((with_reducible refine (RE.out _ g F9 B9.out I9.out).mono ?_); rintro e w10 ⟨A10, c10, rfl, r10, b10⟩; have R10 := Lib.hid r10; have B10 := Lib.hid (B9.out.trans b10); clear r10 b10))
        | (go_at_call 16; ((with_reducible refine (CO.out w10).mono ?_); rintro e w11 ⟨A11, n11, c11, rfl, q11, b11⟩; obtain rfl : n11 = 64 := (own_len q11).symm.trans LO.out; have R11 := Lib.hid (Rd.own q11); have S11 := Lib.hid (R10.out.below b11); have B11 := Lib.hid (BN.out _ _ B10.out b11); clear q11 b11))
        | (go_at_call 16; ((with_reducible refine (CB.out w11).mono ?_); rintro e w12 ⟨A12, n12, c12, rfl, q12, b12⟩; obtain rfl : n12 = 64 := (own_len q12).symm.trans LB.out; have R12 := Lib.hid (Rd.own q12); have T12 := Lib.hid (R11.out.below b12); have S12 := Lib.hid (S11.out.below b12); have B12 := Lib.hid (BN.out _ _ B11.out b12); clear q12 b12)))
      have hc1 := R12.out.cap
      have hc2 := T12.out.cap
      have P1 : ∀ W, (Instr.slice 30 (.slice A12 64 c12) none (some (.int .i64 (q : Int))) none).run Try.prog W = .ok (.slice A12 q c12) W := fun W => run_cutSlH (m := q) rfl (by omega) W
      have P2 : ∀ W, (Instr.sliceAt 30 (.slice A12 64 c12) none (some (.int .i64 (q : Int))) none).run Try.prog W = .ok (.slice A12 q c12) W := fun W => run_cutSlHAt (m := q) rfl (by omega) W
      obtain ⟨Aq, hAq⟩ : ∃ Aq, Aq = if c11 = q then A11 else A11.map (·.add q) := ⟨_, rfl⟩
      have P3 : ∀ W, (Instr.slice 30 (.slice A11 64 c11) (some (.int .i64 (q : Int))) none none).run Try.prog W = .ok (.slice Aq (64 - q) (c11 - q)) W := fun W => by rw [hAq]; exact run_cutSl (k := q) rfl (by omega) W
      have P4 : ∀ W, (Instr.sliceAt 30 (.slice A11 64 c11) (some (.int .i64 (q : Int))) none none).run Try.prog W = .ok (.slice Aq (64 - q) (c11 - q)) W := fun W => by rw [hAq]; exact run_cutSlAt (k := q) rfl (by omega) W
      have Q1 := Lib.hid (show Rd w12 A12 q c12 (rb.take q) from R12.out.take (by omega))
      have Q2 := Lib.hid (show Rd w12 Aq (64 - q) (c11 - q) (ro.drop q) from by rw [hAq]; exact T12.out.cut (by omega))
      clear hAq hc1 hc2
      have BD := Lib.hid (Below.refl w12.heap.size w12).drew
      (go_region_held3 (fun _ => True) (trivial) (first
        | (refine step_append_rd (by rfl) (.tmp 81) (.tmp 84) (by rfl) w12.heap.size _ 0 [] (by rfl) (World.ownsRow_lit (base := w12.heap.size) (e := 5) (size := 1) w12.drew #[] 0 BD.out.size (by simp [maxLen]) rfl) A12 q c12 _ (by rfl) ((Q1.out.below BD.out).alloc _) (by omega) (BD.out.alloc BD.out.size _).size ?_; intro v13 x13 o13 g13 at13; obtain ⟨A13, c13, rfl⟩ := own_form o13; have O13 := Lib.hid (own_n o13); have B13 := Lib.hid ((BD.out.alloc BD.out.size _).grown g13 (BD.out.alloc BD.out.size _).size (fun k hk => Nat.le_of_eq (Option.some.inj hk))); clear o13 g13 at13)
        | (refine step_append_rd (by rfl) (.tmp 85) (.tmp 88) (by rfl) w12.heap.size _ q _ (by rfl) O13.out Aq (64 - q) (c11 - q) _ (by rfl) (Q2.out.below B13.out) (by omega) B13.out.size ?_; intro v14 x14 o14 g14 at14; obtain ⟨A14, c14, rfl⟩ := own_form o14; have R14 := Lib.hid (Rd.own o14); have B14 := Lib.hid (B13.out.grown g14 B13.out.size (fun k hk => (O13.out.lt k hk).1)); clear o14 g14 at14)
        | fail))
      have q64' : q + (64 - q) = 64 := by omega
      rw [q64'] at R14 ⊢
      go_wp2_with (go_at_call 19; ((with_reducible refine (rsame_true A10 A14 64 c10 64 c14 xr _ _ (S12.out.below B14.out) R14.out XE.out).mono ?_); rintro e w13 ⟨rfl, b13⟩; have B15 := Lib.hid (BN.out _ _ (BN.out _ _ B12.out B14.out) b13); clear b13))
      go_ret
      exact ⟨rfl, by rw [hN0.out]; exact B15.out⟩
    · have u2 : (c.toNat : Int) % 4 = 3 := by omega
      go_enter Try.func5, Try.ntmps5
      go_upto_region 1 with (fail)
      first
        | rw [hw0]
        | skip
      clear hw0
      go_upto_region 5 with (go_at_call 8; ((with_reducible refine (awake_any M w0 (OKN.out _ B0.out)).mono ?_); rintro e w1 ⟨rfl, b1⟩; have B1 := Lib.hid (BN.out _ _ B0.out b1); have M1 := Lib.hid (M0.out.below b1 M0.out.lt); have k0 := M1.out.cell 0; have k1 := M1.out.cell 1; simp only [List.getElem?_toArray, List.getElem?_cons_zero, List.getElem?_cons_succ] at k0 k1; clear b1))
      go_upto_region 13 with (first
        | (go_at_call 9; ((with_reducible refine (C1.out _ B1.out).mono ?_); rintro e w2 ⟨g, F2, rfl, i2, s2, b2⟩; have I2 := Lib.hid i2; have B2 := Lib.hid (BN.out _ _ B1.out b2); clear i2 s2 b2))
        | (go_at_call 16; ((with_reducible refine (CO.out w2).mono ?_); rintro e w3 ⟨A3, n3, c3, rfl, q3, b3⟩; obtain rfl : n3 = 64 := (own_len q3).symm.trans LO.out; have R3 := Lib.hid (Rd.own q3); have Z3 := Lib.hid (own_off M I2.out q3); have I3 := Lib.hid (M.grow I2.out b3); have B3 := Lib.hid (BN.out _ _ B2.out b3); clear q3 b3))
        | (go_at_call 15; ((with_reducible refine (W1.out _ g F2 A3 c3 B3.out I3.out R3.out Z3.out).mono ?_); rintro e w4 ⟨rfl, F4, i4, s4, m4⟩; have I4 := Lib.hid i4; have B4 := Lib.hid (B3.out.trans m4.bel); clear i4 s4 m4))
        | (go_at_call 17; ((with_reducible refine (FL.out _ g F4 B4.out I4.out).mono ?_); rintro e w5 ⟨rfl, F5, i5, s5, m5⟩; have I5 := Lib.hid i5; have B5 := Lib.hid (B4.out.trans m5.bel); clear i5 s5 m5))
        | (go_at_call 16; ((with_reducible refine (CB.out w5).mono ?_); rintro e w6 ⟨A6, n6, c6, rfl, q6, b6⟩; obtain rfl : n6 = 64 := (own_len q6).symm.trans LB.out; have R6 := Lib.hid (Rd.own q6); have Z6 := Lib.hid (own_off M I5.out q6); have I6 := Lib.hid (M.grow I5.out b6); have B6 := Lib.hid (BN.out _ _ B5.out b6); clear q6 b6))
        | (go_at_call 15; ((with_reducible refine (W2.out _ g F5 A6 c6 B6.out I6.out R6.out Z6.out).mono ?_); rintro e w7 ⟨rfl, F7, i7, s7, m7⟩; have I7 := Lib.hid i7; have B7 := Lib.hid (B6.out.trans m7.bel); clear i7 s7 m7))
        | (go_at_call 20; ((with_reducible refine (ST.out _ g F7 B7.out I7.out).mono ?_); rintro e w8 ⟨rfl, F8, i8, s8, m8⟩; have I8 := Lib.hid i8; have B8 := Lib.hid (B7.out.trans m8.bel); clear i8 s8 m8))
        | (go_at_call 18; ((refine (UP.out (w8.alloc (.cells #[.int .u8 (c.toNat : Int)] 5)) g F8 _ w8.heap.size (BN.out _ _ B8.out ((Below.refl _ _).alloc (Nat.le_refl _) _)) (.inr rfl) (M.grow I8.out ((Below.refl _ _).alloc (Nat.le_refl _) _)) (rd_litD w8 #[.int .u8 (c.toNat : Int)] [c] rfl (by simp [maxLen]) _ rfl) (fun h => Nat.lt_irrefl _ (M.lt I8.out _ h).2)).mono ?_); rintro e w9 ⟨rfl, F9, i9, m9⟩; have I9 := Lib.hid i9; have B9 := Lib.hid ((BN.out _ _ B8.out ((Below.refl _ _).alloc (Nat.le_refl _) _)).trans m9.bel); clear i9 m9)))
      have XE := Lib.hid (show xr = ro.take q ++ rb.drop q by rw [HXR.out, HQ.out]; exact torn_3 cm ro rb LO.out LB.out (by rw [← HQ.out]; omega))
      go_upto_region 24 with (first
        | (go_at_call 22; ((with_reducible refine (RE.out _ g F9 B9.out I9.out).mono ?_); rintro e w10 ⟨A10, c10, rfl, r10, b10⟩; have R10 := Lib.hid r10; have B10 := Lib.hid (B9.out.trans b10); clear r10 b10))
        | (go_at_call 16; ((with_reducible refine (CO.out w10).mono ?_); rintro e w11 ⟨A11, n11, c11, rfl, q11, b11⟩; obtain rfl : n11 = 64 := (own_len q11).symm.trans LO.out; have R11 := Lib.hid (Rd.own q11); have S11 := Lib.hid (R10.out.below b11); have B11 := Lib.hid (BN.out _ _ B10.out b11); clear q11 b11))
        | (go_at_call 16; ((with_reducible refine (CB.out w11).mono ?_); rintro e w12 ⟨A12, n12, c12, rfl, q12, b12⟩; obtain rfl : n12 = 64 := (own_len q12).symm.trans LB.out; have R12 := Lib.hid (Rd.own q12); have T12 := Lib.hid (R11.out.below b12); have S12 := Lib.hid (S11.out.below b12); have B12 := Lib.hid (BN.out _ _ B11.out b12); clear q12 b12)))
      have hc1 := T12.out.cap
      have hc2 := R12.out.cap
      have P1 : ∀ W, (Instr.slice 30 (.slice A11 64 c11) none (some (.int .i64 (q : Int))) none).run Try.prog W = .ok (.slice A11 q c11) W := fun W => run_cutSlH (m := q) rfl (by omega) W
      have P2 : ∀ W, (Instr.sliceAt 30 (.slice A11 64 c11) none (some (.int .i64 (q : Int))) none).run Try.prog W = .ok (.slice A11 q c11) W := fun W => run_cutSlHAt (m := q) rfl (by omega) W
      obtain ⟨Aq, hAq⟩ : ∃ Aq, Aq = if c12 = q then A12 else A12.map (·.add q) := ⟨_, rfl⟩
      have P3 : ∀ W, (Instr.slice 30 (.slice A12 64 c12) (some (.int .i64 (q : Int))) none none).run Try.prog W = .ok (.slice Aq (64 - q) (c12 - q)) W := fun W => by rw [hAq]; exact run_cutSl (k := q) rfl (by omega) W
      have P4 : ∀ W, (Instr.sliceAt 30 (.slice A12 64 c12) (some (.int .i64 (q : Int))) none none).run Try.prog W = .ok (.slice Aq (64 - q) (c12 - q)) W := fun W => by rw [hAq]; exact run_cutSlAt (k := q) rfl (by omega) W
      have Q1 := Lib.hid (show Rd w12 A11 q c11 (ro.take q) from T12.out.take (by omega))
      have Q2 := Lib.hid (show Rd w12 Aq (64 - q) (c12 - q) (rb.drop q) from by rw [hAq]; exact R12.out.cut (by omega))
      clear hAq hc1 hc2
      have BD := Lib.hid (Below.refl w12.heap.size w12).drew
      (go_region_held3 (fun _ => True) (trivial) (first
        | (refine step_append_rd (by rfl) (.tmp 92) (.tmp 95) (by rfl) w12.heap.size _ 0 [] (by rfl) (World.ownsRow_lit (base := w12.heap.size) (e := 5) (size := 1) w12.drew #[] 0 BD.out.size (by simp [maxLen]) rfl) A11 q c11 _ (by rfl) ((Q1.out.below BD.out).alloc _) (by omega) (BD.out.alloc BD.out.size _).size ?_; intro v13 x13 o13 g13 at13; obtain ⟨A13, c13, rfl⟩ := own_form o13; have O13 := Lib.hid (own_n o13); have B13 := Lib.hid ((BD.out.alloc BD.out.size _).grown g13 (BD.out.alloc BD.out.size _).size (fun k hk => Nat.le_of_eq (Option.some.inj hk))); clear o13 g13 at13)
        | (refine step_append_rd (by rfl) (.tmp 96) (.tmp 99) (by rfl) w12.heap.size _ q _ (by rfl) O13.out Aq (64 - q) (c12 - q) _ (by rfl) (Q2.out.below B13.out) (by omega) B13.out.size ?_; intro v14 x14 o14 g14 at14; obtain ⟨A14, c14, rfl⟩ := own_form o14; have R14 := Lib.hid (Rd.own o14); have B14 := Lib.hid (B13.out.grown g14 B13.out.size (fun k hk => (O13.out.lt k hk).1)); clear o14 g14 at14)
        | fail))
      have q64' : q + (64 - q) = 64 := by omega
      rw [q64'] at R14 ⊢
      go_wp2_with (go_at_call 19; ((with_reducible refine (rsame_true A10 A14 64 c10 64 c14 xr _ _ (S12.out.below B14.out) R14.out XE.out).mono ?_); rintro e w13 ⟨rfl, b13⟩; have B15 := Lib.hid (BN.out _ _ (BN.out _ _ B12.out B14.out) b13); clear b13))
      go_ret
      exact ⟨rfl, by rw [hN0.out]; exact B15.out⟩
  case neg =>
    have u1 : ¬ (x.toNat : Int) % 2 = 1 := by omega
    clear hh
    have hm4 : c.toNat % 4 = 0 ∨ c.toNat % 4 = 1 ∨ c.toNat % 4 = 2 ∨ c.toNat % 4 = 3 := by omega
    rcases hm4 with cm | cm | cm | cm
    · have u2 : (c.toNat : Int) % 4 = 0 := by omega
      go_enter Try.func5, Try.ntmps5
      go_upto_region 1 with (fail)
      first
        | rw [hw0]
        | skip
      clear hw0
      go_upto_region 5 with (go_at_call 8; ((with_reducible refine (awake_any M w0 (OKN.out _ B0.out)).mono ?_); rintro e w1 ⟨rfl, b1⟩; have B1 := Lib.hid (BN.out _ _ B0.out b1); have M1 := Lib.hid (M0.out.below b1 M0.out.lt); have k0 := M1.out.cell 0; have k1 := M1.out.cell 1; simp only [List.getElem?_toArray, List.getElem?_cons_zero, List.getElem?_cons_succ] at k0 k1; clear b1))
      go_upto_region 13 with (first
        | (go_at_call 9; ((with_reducible refine (C1.out _ B1.out).mono ?_); rintro e w2 ⟨g, F2, rfl, i2, s2, b2⟩; have I2 := Lib.hid i2; have B2 := Lib.hid (BN.out _ _ B1.out b2); clear i2 s2 b2))
        | (go_at_call 16; ((with_reducible refine (CO.out w2).mono ?_); rintro e w3 ⟨A3, n3, c3, rfl, q3, b3⟩; obtain rfl : n3 = 64 := (own_len q3).symm.trans LO.out; have R3 := Lib.hid (Rd.own q3); have Z3 := Lib.hid (own_off M I2.out q3); have I3 := Lib.hid (M.grow I2.out b3); have B3 := Lib.hid (BN.out _ _ B2.out b3); clear q3 b3))
        | (go_at_call 15; ((with_reducible refine (W1.out _ g F2 A3 c3 B3.out I3.out R3.out Z3.out).mono ?_); rintro e w4 ⟨rfl, F4, i4, s4, m4⟩; have I4 := Lib.hid i4; have B4 := Lib.hid (B3.out.trans m4.bel); clear i4 s4 m4))
        | (go_at_call 17; ((with_reducible refine (FL.out _ g F4 B4.out I4.out).mono ?_); rintro e w5 ⟨rfl, F5, i5, s5, m5⟩; have I5 := Lib.hid i5; have B5 := Lib.hid (B4.out.trans m5.bel); clear i5 s5 m5))
        | (go_at_call 16; ((with_reducible refine (CB.out w5).mono ?_); rintro e w6 ⟨A6, n6, c6, rfl, q6, b6⟩; obtain rfl : n6 = 64 := (own_len q6).symm.trans LB.out; have R6 := Lib.hid (Rd.own q6); have Z6 := Lib.hid (own_off M I5.out q6); have I6 := Lib.hid (M.grow I5.out b6); have B6 := Lib.hid (BN.out _ _ B5.out b6); clear q6 b6))
        | (go_at_call 15; ((with_reducible refine (W2.out _ g F5 A6 c6 B6.out I6.out R6.out Z6.out).mono ?_); rintro e w7 ⟨rfl, F7, i7, s7, m7⟩; have I7 := Lib.hid i7; have B7 := Lib.hid (B6.out.trans m7.bel); clear i7 s7 m7))
        | (go_at_call 18; ((refine (UP.out (w7.alloc (.cells #[.int .u8 (c.toNat : Int)] 5)) g F7 _ w7.heap.size (BN.out _ _ B7.out ((Below.refl _ _).alloc (Nat.le_refl _) _)) (.inl rfl) (M.grow I7.out ((Below.refl _ _).alloc (Nat.le_refl _) _)) (rd_litD w7 #[.int .u8 (c.toNat : Int)] [c] rfl (by simp [maxLen]) _ rfl) (fun h => Nat.lt_irrefl _ (M.lt I7.out _ h).2)).mono ?_); rintro e w9 ⟨rfl, F9, i9, m9⟩; have I9 := Lib.hid i9; have B9 := Lib.hid ((BN.out _ _ B7.out ((Below.refl _ _).alloc (Nat.le_refl _) _)).trans m9.bel); clear i9 m9)))
      have XE := Lib.hid (show xr = ro by rw [HXR.out]; exact torn_0 cm ro rb LO.out)
      go_wp2_with (first
        | (go_at_call 22; ((with_reducible refine (RE.out _ g F9 B9.out I9.out).mono ?_); rintro e w10 ⟨A10, c10, rfl, r10, b10⟩; have R10 := Lib.hid r10; have B10 := Lib.hid (B9.out.trans b10); clear r10 b10))
        | (go_at_call 16; ((with_reducible refine (CO.out w10).mono ?_); rintro e w11 ⟨A11, n11, c11, rfl, q11, b11⟩; obtain rfl : n11 = 64 := (own_len q11).symm.trans LO.out; have R11 := Lib.hid (Rd.own q11); have S11 := Lib.hid (R10.out.below b11); have B11 := Lib.hid (BN.out _ _ B10.out b11); clear q11 b11))
        | (go_at_call 16; ((with_reducible refine (CB.out w11).mono ?_); rintro e w12 ⟨A12, n12, c12, rfl, q12, b12⟩; obtain rfl : n12 = 64 := (own_len q12).symm.trans LB.out; have R12 := Lib.hid (Rd.own q12); have T12 := Lib.hid (R11.out.below b12); have S12 := Lib.hid (S11.out.below b12); have B12 := Lib.hid (BN.out _ _ B11.out b12); clear q12 b12))
        | (go_at_call 19; ((with_reducible refine (rsame_true A10 A11 64 c10 64 c11 xr ro _ S12.out T12.out XE.out).mono ?_); rintro e w13 ⟨rfl, b13⟩; have B13 := Lib.hid (BN.out _ _ B12.out b13); clear b13)))
      go_ret
      exact ⟨rfl, by rw [hN0.out]; exact B13.out⟩
    · have u2 : (c.toNat : Int) % 4 = 1 := by omega
      go_enter Try.func5, Try.ntmps5
      go_upto_region 1 with (fail)
      first
        | rw [hw0]
        | skip
      clear hw0
      go_upto_region 5 with (go_at_call 8; ((with_reducible refine (awake_any M w0 (OKN.out _ B0.out)).mono ?_); rintro e w1 ⟨rfl, b1⟩; have B1 := Lib.hid (BN.out _ _ B0.out b1); have M1 := Lib.hid (M0.out.below b1 M0.out.lt); have k0 := M1.out.cell 0; have k1 := M1.out.cell 1; simp only [List.getElem?_toArray, List.getElem?_cons_zero, List.getElem?_cons_succ] at k0 k1; clear b1))
      go_upto_region 13 with (first
        | (go_at_call 9; ((with_reducible refine (C1.out _ B1.out).mono ?_); rintro e w2 ⟨g, F2, rfl, i2, s2, b2⟩; have I2 := Lib.hid i2; have B2 := Lib.hid (BN.out _ _ B1.out b2); clear i2 s2 b2))
        | (go_at_call 16; ((with_reducible refine (CO.out w2).mono ?_); rintro e w3 ⟨A3, n3, c3, rfl, q3, b3⟩; obtain rfl : n3 = 64 := (own_len q3).symm.trans LO.out; have R3 := Lib.hid (Rd.own q3); have Z3 := Lib.hid (own_off M I2.out q3); have I3 := Lib.hid (M.grow I2.out b3); have B3 := Lib.hid (BN.out _ _ B2.out b3); clear q3 b3))
        | (go_at_call 15; ((with_reducible refine (W1.out _ g F2 A3 c3 B3.out I3.out R3.out Z3.out).mono ?_); rintro e w4 ⟨rfl, F4, i4, s4, m4⟩; have I4 := Lib.hid i4; have B4 := Lib.hid (B3.out.trans m4.bel); clear i4 s4 m4))
        | (go_at_call 17; ((with_reducible refine (FL.out _ g F4 B4.out I4.out).mono ?_); rintro e w5 ⟨rfl, F5, i5, s5, m5⟩; have I5 := Lib.hid i5; have B5 := Lib.hid (B4.out.trans m5.bel); clear i5 s5 m5))
        | (go_at_call 16; ((with_reducible refine (CB.out w5).mono ?_); rintro e w6 ⟨A6, n6, c6, rfl, q6, b6⟩; obtain rfl : n6 = 64 := (own_len q6).symm.trans LB.out; have R6 := Lib.hid (Rd.own q6); have Z6 := Lib.hid (own_off M I5.out q6); have I6 := Lib.hid (M.grow I5.out b6); have B6 := Lib.hid (BN.out _ _ B5.out b6); clear q6 b6))
        | (go_at_call 15; ((with_reducible refine (W2.out _ g F5 A6 c6 B6.out I6.out R6.out Z6.out).mono ?_); rintro e w7 ⟨rfl, F7, i7, s7, m7⟩; have I7 := Lib.hid i7; have B7 := Lib.hid (B6.out.trans m7.bel); clear i7 s7 m7))
        | (go_at_call 18; ((refine (UP.out (w7.alloc (.cells #[.int .u8 (c.toNat : Int)] 5)) g F7 _ w7.heap.size (BN.out _ _ B7.out ((Below.refl _ _).alloc (Nat.le_refl _) _)) (.inl rfl) (M.grow I7.out ((Below.refl _ _).alloc (Nat.le_refl _) _)) (rd_litD w7 #[.int .u8 (c.toNat : Int)] [c] rfl (by simp [maxLen]) _ rfl) (fun h => Nat.lt_irrefl _ (M.lt I7.out _ h).2)).mono ?_); rintro e w9 ⟨rfl, F9, i9, m9⟩; have I9 := Lib.hid i9; have B9 := Lib.hid ((BN.out _ _ B7.out ((Below.refl _ _).alloc (Nat.le_refl _) _)).trans m9.bel); clear i9 m9)))
      have XE := Lib.hid (show xr = rb by rw [HXR.out]; exact torn_1 cm ro rb LB.out)
      go_wp2_with (first
        | (go_at_call 22; ((with_reducible refine (RE.out _ g F9 B9.out I9.out).mono ?_); rintro e w10 ⟨A10, c10, rfl, r10, b10⟩; have R10 := Lib.hid r10; have B10 := Lib.hid (B9.out.trans b10); clear r10 b10))
        | (go_at_call 16; ((with_reducible refine (CO.out w10).mono ?_); rintro e w11 ⟨A11, n11, c11, rfl, q11, b11⟩; obtain rfl : n11 = 64 := (own_len q11).symm.trans LO.out; have R11 := Lib.hid (Rd.own q11); have S11 := Lib.hid (R10.out.below b11); have B11 := Lib.hid (BN.out _ _ B10.out b11); clear q11 b11))
        | (go_at_call 16; ((with_reducible refine (CB.out w11).mono ?_); rintro e w12 ⟨A12, n12, c12, rfl, q12, b12⟩; obtain rfl : n12 = 64 := (own_len q12).symm.trans LB.out; have R12 := Lib.hid (Rd.own q12); have T12 := Lib.hid (R11.out.below b12); have S12 := Lib.hid (S11.out.below b12); have B12 := Lib.hid (BN.out _ _ B11.out b12); clear q12 b12))
        | (go_at_call 19; ((with_reducible refine (rsame_true A10 A12 64 c10 64 c12 xr rb _ S12.out R12.out XE.out).mono ?_); rintro e w13 ⟨rfl, b13⟩; have B13 := Lib.hid (BN.out _ _ B12.out b13); clear b13)))
      go_ret
      exact ⟨rfl, by rw [hN0.out]; exact B13.out⟩
    · have u2 : (c.toNat : Int) % 4 = 2 := by omega
      go_enter Try.func5, Try.ntmps5
      go_upto_region 1 with (fail)
      first
        | rw [hw0]
        | skip
      clear hw0
      go_upto_region 5 with (go_at_call 8; ((with_reducible refine (awake_any M w0 (OKN.out _ B0.out)).mono ?_); rintro e w1 ⟨rfl, b1⟩; have B1 := Lib.hid (BN.out _ _ B0.out b1); have M1 := Lib.hid (M0.out.below b1 M0.out.lt); have k0 := M1.out.cell 0; have k1 := M1.out.cell 1; simp only [List.getElem?_toArray, List.getElem?_cons_zero, List.getElem?_cons_succ] at k0 k1; clear b1))
      go_upto_region 13 with (first
        | (go_at_call 9; ((with_reducible refine (C1.out _ B1.out).mono ?_); rintro e w2 ⟨g, F2, rfl, i2, s2, b2⟩; have I2 := Lib.hid i2; have B2 := Lib.hid (BN.out _ _ B1.out b2); clear i2 s2 b2))
        | (go_at_call 16; ((with_reducible refine (CO.out w2).mono ?_); rintro e w3 ⟨A3, n3, c3, rfl, q3, b3⟩; obtain rfl : n3 = 64 := (own_len q3).symm.trans LO.out; have R3 := Lib.hid (Rd.own q3); have Z3 := Lib.hid (own_off M I2.out q3); have I3 := Lib.hid (M.grow I2.out b3); have B3 := Lib.hid (BN.out _ _ B2.out b3); clear q3 b3))
        | (go_at_call 15; ((with_reducible refine (W1.out _ g F2 A3 c3 B3.out I3.out R3.out Z3.out).mono ?_); rintro e w4 ⟨rfl, F4, i4, s4, m4⟩; have I4 := Lib.hid i4; have B4 := Lib.hid (B3.out.trans m4.bel); clear i4 s4 m4))
        | (go_at_call 17; ((with_reducible refine (FL.out _ g F4 B4.out I4.out).mono ?_); rintro e w5 ⟨rfl, F5, i5, s5, m5⟩; have I5 := Lib.hid i5; have B5 := Lib.hid (B4.out.trans m5.bel); clear i5 s5 m5))
        | (go_at_call 16; ((with_reducible refine (CB.out w5).mono ?_); rintro e w6 ⟨A6, n6, c6, rfl, q6, b6⟩; obtain rfl : n6 = 64 := (own_len q6).symm.trans LB.out; have R6 := Lib.hid (Rd.own q6); have Z6 := Lib.hid (own_off M I5.out q6); have I6 := Lib.hid (M.grow I5.out b6); have B6 := Lib.hid (BN.out _ _ B5.out b6); clear q6 b6))
        | (go_at_call 15; ((with_reducible refine (W2.out _ g F5 A6 c6 B6.out I6.out R6.out Z6.out).mono ?_); rintro e w7 ⟨rfl, F7, i7, s7, m7⟩; have I7 := Lib.hid i7; have B7 := Lib.hid (B6.out.trans m7.bel); clear i7 s7 m7))
        | (go_at_call 18; ((refine (UP.out (w7.alloc (.cells #[.int .u8 (c.toNat : Int)] 5)) g F7 _ w7.heap.size (BN.out _ _ B7.out ((Below.refl _ _).alloc (Nat.le_refl _) _)) (.inl rfl) (M.grow I7.out ((Below.refl _ _).alloc (Nat.le_refl _) _)) (rd_litD w7 #[.int .u8 (c.toNat : Int)] [c] rfl (by simp [maxLen]) _ rfl) (fun h => Nat.lt_irrefl _ (M.lt I7.out _ h).2)).mono ?_); rintro e w9 ⟨rfl, F9, i9, m9⟩; have I9 := Lib.hid i9; have B9 := Lib.hid ((BN.out _ _ B7.out ((Below.refl _ _).alloc (Nat.le_refl _) _)).trans m9.bel); clear i9 m9)))
      have XE := Lib.hid (show xr = rb.take q ++ ro.drop q by rw [HXR.out, HQ.out]; exact torn_2 cm ro rb LO.out LB.out (by rw [← HQ.out]; omega))
      go_upto_region 22 with (first
        | (go_at_call 22; ((with_reducible refine (RE.out _ g F9 B9.out I9.out).mono ?_); rintro e w10 ⟨A10, c10, rfl, r10, b10⟩; have R10 := Lib.hid r10; have B10 := Lib.hid (B9.out.trans b10); clear r10 b10))
        | (go_at_call 16; ((with_reducible refine (CO.out w10).mono ?_); rintro e w11 ⟨A11, n11, c11, rfl, q11, b11⟩; obtain rfl : n11 = 64 := (own_len q11).symm.trans LO.out; have R11 := Lib.hid (Rd.own q11); have S11 := Lib.hid (R10.out.below b11); have B11 := Lib.hid (BN.out _ _ B10.out b11); clear q11 b11))
        | (go_at_call 16; ((with_reducible refine (CB.out w11).mono ?_); rintro e w12 ⟨A12, n12, c12, rfl, q12, b12⟩; obtain rfl : n12 = 64 := (own_len q12).symm.trans LB.out; have R12 := Lib.hid (Rd.own q12); have T12 := Lib.hid (R11.out.below b12); have S12 := Lib.hid (S11.out.below b12); have B12 := Lib.hid (BN.out _ _ B11.out b12); clear q12 b12)))
      have hc1 := R12.out.cap
      have hc2 := T12.out.cap
      have P1 : ∀ W, (Instr.slice 30 (.slice A12 64 c12) none (some (.int .i64 (q : Int))) none).run Try.prog W = .ok (.slice A12 q c12) W := fun W => run_cutSlH (m := q) rfl (by omega) W
      have P2 : ∀ W, (Instr.sliceAt 30 (.slice A12 64 c12) none (some (.int .i64 (q : Int))) none).run Try.prog W = .ok (.slice A12 q c12) W := fun W => run_cutSlHAt (m := q) rfl (by omega) W
      obtain ⟨Aq, hAq⟩ : ∃ Aq, Aq = if c11 = q then A11 else A11.map (·.add q) := ⟨_, rfl⟩
      have P3 : ∀ W, (Instr.slice 30 (.slice A11 64 c11) (some (.int .i64 (q : Int))) none none).run Try.prog W = .ok (.slice Aq (64 - q) (c11 - q)) W := fun W => by rw [hAq]; exact run_cutSl (k := q) rfl (by omega) W
      have P4 : ∀ W, (Instr.sliceAt 30 (.slice A11 64 c11) (some (.int .i64 (q : Int))) none none).run Try.prog W = .ok (.slice Aq (64 - q) (c11 - q)) W := fun W => by rw [hAq]; exact run_cutSlAt (k := q) rfl (by omega) W
      have Q1 := Lib.hid (show Rd w12 A12 q c12 (rb.take q) from R12.out.take (by omega))
      have Q2 := Lib.hid (show Rd w12 Aq (64 - q) (c11 - q) (ro.drop q) from by rw [hAq]; exact T12.out.cut (by omega))
      clear hAq hc1 hc2
      have BD := Lib.hid (Below.refl w12.heap.size w12).drew
      (go_region_held3 (fun _ => True) (trivial) (first
        | (refine step_append_rd (by rfl) (.tmp 81) (.tmp 84) (by rfl) w12.heap.size _ 0 [] (by rfl) (World.ownsRow_lit (base := w12.heap.size) (e := 5) (size := 1) w12.drew #[] 0 BD.out.size (by simp [maxLen]) rfl) A12 q c12 _ (by rfl) ((Q1.out.below BD.out).alloc _) (by omega) (BD.out.alloc BD.out.size _).size ?_; intro v13 x13 o13 g13 at13; obtain ⟨A13, c13, rfl⟩ := own_form o13; have O13 := Lib.hid (own_n o13); have B13 := Lib.hid ((BD.out.alloc BD.out.size _).grown g13 (BD.out.alloc BD.out.size _).size (fun k hk => Nat.le_of_eq (Option.some.inj hk))); clear o13 g13 at13)
        | (refine step_append_rd (by rfl) (.tmp 85) (.tmp 88) (by rfl) w12.heap.size _ q _ (by rfl) O13.out Aq (64 - q) (c11 - q) _ (by rfl) (Q2.out.below B13.out) (by omega) B13.out.size ?_; intro v14 x14 o14 g14 at14; obtain ⟨A14, c14, rfl⟩ := own_form o14; have R14 := Lib.hid (Rd.own o14); have B14 := Lib.hid (B13.out.grown g14 B13.out.size (fun k hk => (O13.out.lt k hk).1)); clear o14 g14 at14)
        | fail))
      have q64' : q + (64 - q) = 64 := by omega
      rw [q64'] at R14 ⊢
      go_wp2_with (go_at_call 19; ((with_reducible refine (rsame_true A10 A14 64 c10 64 c14 xr _ _ (S12.out.below B14.out) R14.out XE.out).mono ?_); rintro e w13 ⟨rfl, b13⟩; have B15 := Lib.hid (BN.out _ _ (BN.out _ _ B12.out B14.out) b13); clear b13))
      go_ret
      exact ⟨rfl, by rw [hN0.out]; exact B15.out⟩
    · have u2 : (c.toNat : Int) % 4 = 3 := by omega
      go_enter Try.func5, Try.ntmps5
      go_upto_region 1 with (fail)
      first
        | rw [hw0]
        | skip
      clear hw0
      go_upto_region 5 with (go_at_call 8; ((with_reducible refine (awake_any M w0 (OKN.out _ B0.out)).mono ?_); rintro e w1 ⟨rfl, b1⟩; have B1 := Lib.hid (BN.out _ _ B0.out b1); have M1 := Lib.hid (M0.out.below b1 M0.out.lt); have k0 := M1.out.cell 0; have k1 := M1.out.cell 1; simp only [List.getElem?_toArray, List.getElem?_cons_zero, List.getElem?_cons_succ] at k0 k1; clear b1))
      go_upto_region 13 with (first
        | (go_at_call 9; ((with_reducible refine (C1.out _ B1.out).mono ?_); rintro e w2 ⟨g, F2, rfl, i2, s2, b2⟩; have I2 := Lib.hid i2; have B2 := Lib.hid (BN.out _ _ B1.out b2); clear i2 s2 b2))
        | (go_at_call 16; ((with_reducible refine (CO.out w2).mono ?_); rintro e w3 ⟨A3, n3, c3, rfl, q3, b3⟩; obtain rfl : n3 = 64 := (own_len q3).symm.trans LO.out; have R3 := Lib.hid (Rd.own q3); have Z3 := Lib.hid (own_off M I2.out q3); have I3 := Lib.hid (M.grow I2.out b3); have B3 := Lib.hid (BN.out _ _ B2.out b3); clear q3 b3))
        | (go_at_call 15; ((with_reducible refine (W1.out _ g F2 A3 c3 B3.out I3.out R3.out Z3.out).mono ?_); rintro e w4 ⟨rfl, F4, i4, s4, m4⟩; have I4 := Lib.hid i4; have B4 := Lib.hid (B3.out.trans m4.bel); clear i4 s4 m4))
        | (go_at_call 17; ((with_reducible refine (FL.out _ g F4 B4.out I4.out).mono ?_); rintro e w5 ⟨rfl, F5, i5, s5, m5⟩; have I5 := Lib.hid i5; have B5 := Lib.hid (B4.out.trans m5.bel); clear i5 s5 m5))
        | (go_at_call 16; ((with_reducible refine (CB.out w5).mono ?_); rintro e w6 ⟨A6, n6, c6, rfl, q6, b6⟩; obtain rfl : n6 = 64 := (own_len q6).symm.trans LB.out; have R6 := Lib.hid (Rd.own q6); have Z6 := Lib.hid (own_off M I5.out q6); have I6 := Lib.hid (M.grow I5.out b6); have B6 := Lib.hid (BN.out _ _ B5.out b6); clear q6 b6))
        | (go_at_call 15; ((with_reducible refine (W2.out _ g F5 A6 c6 B6.out I6.out R6.out Z6.out).mono ?_); rintro e w7 ⟨rfl, F7, i7, s7, m7⟩; have I7 := Lib.hid i7; have B7 := Lib.hid (B6.out.trans m7.bel); clear i7 s7 m7))
        | (go_at_call 18; ((refine (UP.out (w7.alloc (.cells #[.int .u8 (c.toNat : Int)] 5)) g F7 _ w7.heap.size (BN.out _ _ B7.out ((Below.refl _ _).alloc (Nat.le_refl _) _)) (.inl rfl) (M.grow I7.out ((Below.refl _ _).alloc (Nat.le_refl _) _)) (rd_litD w7 #[.int .u8 (c.toNat : Int)] [c] rfl (by simp [maxLen]) _ rfl) (fun h => Nat.lt_irrefl _ (M.lt I7.out _ h).2)).mono ?_); rintro e w9 ⟨rfl, F9, i9, m9⟩; have I9 := Lib.hid i9; have B9 := Lib.hid ((BN.out _ _ B7.out ((Below.refl _ _).alloc (Nat.le_refl _) _)).trans m9.bel); clear i9 m9)))
      have XE := Lib.hid (show xr = ro.take q ++ rb.drop q by rw [HXR.out, HQ.out]; exact torn_3 cm ro rb LO.out LB.out (by rw [← HQ.out]; omega))
      go_upto_region 24 with (first
        | (go_at_call 22; ((with_reducible refine (RE.out _ g F9 B9.out I9.out).mono ?_); rintro e w10 ⟨A10, c10, rfl, r10, b10⟩; have R10 := Lib.hid r10; have B10 := Lib.hid (B9.out.trans b10); clear r10 b10))
        | (go_at_call 16; ((with_reducible refine (CO.out w10).mono ?_); rintro e w11 ⟨A11, n11, c11, rfl, q11, b11⟩; obtain rfl : n11 = 64 := (own_len q11).symm.trans LO.out; have R11 := Lib.hid (Rd.own q11); have S11 := Lib.hid (R10.out.below b11); have B11 := Lib.hid (BN.out _ _ B10.out b11); clear q11 b11))
        | (go_at_call 16; ((with_reducible refine (CB.out w11).mono ?_); rintro e w12 ⟨A12, n12, c12, rfl, q12, b12⟩; obtain rfl : n12 = 64 := (own_len q12).symm.trans LB.out; have R12 := Lib.hid (Rd.own q12); have T12 := Lib.hid (R11.out.below b12); have S12 := Lib.hid (S11.out.below b12); have B12 := Lib.hid (BN.out _ _ B11.out b12); clear q12 b12)))
      have hc1 := T12.out.cap
      have hc2 := R12.out.cap
      have P1 : ∀ W, (Instr.slice 30 (.slice A11 64 c11) none (some (.int .i64 (q : Int))) none).run Try.prog W = .ok (.slice A11 q c11) W := fun W => run_cutSlH (m := q) rfl (by omega) W
      have P2 : ∀ W, (Instr.sliceAt 30 (.slice A11 64 c11) none (some (.int .i64 (q : Int))) none).run Try.prog W = .ok (.slice A11 q c11) W := fun W => run_cutSlHAt (m := q) rfl (by omega) W
      obtain ⟨Aq, hAq⟩ : ∃ Aq, Aq = if c12 = q then A12 else A12.map (·.add q) := ⟨_, rfl⟩
      have P3 : ∀ W, (Instr.slice 30 (.slice A12 64 c12) (some (.int .i64 (q : Int))) none none).run Try.prog W = .ok (.slice Aq (64 - q) (c12 - q)) W := fun W => by rw [hAq]; exact run_cutSl (k := q) rfl (by omega) W
      have P4 : ∀ W, (Instr.sliceAt 30 (.slice A12 64 c12) (some (.int .i64 (q : Int))) none none).run Try.prog W = .ok (.slice Aq (64 - q) (c12 - q)) W := fun W => by rw [hAq]; exact run_cutSlAt (k := q) rfl (by omega) W
      have Q1 := Lib.hid (show Rd w12 A11 q c11 (ro.take q) from T12.out.take (by omega))
      have Q2 := Lib.hid (show Rd w12 Aq (64 - q) (c12 - q) (rb.drop q) from by rw [hAq]; exact R12.out.cut (by omega))
      clear hAq hc1 hc2
      have BD := Lib.hid (Below.refl w12.heap.size w12).drew
      (go_region_held3 (fun _ => True) (trivial) (first
        | (refine step_append_rd (by rfl) (.tmp 92) (.tmp 95) (by rfl) w12.heap.size _ 0 [] (by rfl) (World.ownsRow_lit (base := w12.heap.size) (e := 5) (size := 1) w12.drew #[] 0 BD.out.size (by simp [maxLen]) rfl) A11 q c11 _ (by rfl) ((Q1.out.below BD.out).alloc _) (by omega) (BD.out.alloc BD.out.size _).size ?_; intro v13 x13 o13 g13 at13; obtain ⟨A13, c13, rfl⟩ := own_form o13; have O13 := Lib.hid (own_n o13); have B13 := Lib.hid ((BD.out.alloc BD.out.size _).grown g13 (BD.out.alloc BD.out.size _).size (fun k hk => Nat.le_of_eq (Option.some.inj hk))); clear o13 g13 at13)
        | (refine step_append_rd (by rfl) (.tmp 96) (.tmp 99) (by rfl) w12.heap.size _ q _ (by rfl) O13.out Aq (64 - q) (c12 - q) _ (by rfl) (Q2.out.below B13.out) (by omega) B13.out.size ?_; intro v14 x14 o14 g14 at14; obtain ⟨A14, c14, rfl⟩ := own_form o14; have R14 := Lib.hid (Rd.own o14); have B14 := Lib.hid (B13.out.grown g14 B13.out.size (fun k hk => (O13.out.lt k hk).1)); clear o14 g14 at14)
        | fail))
      have q64' : q + (64 - q) = 64 := by omega
      rw [q64'] at R14 ⊢
      go_wp2_with (go_at_call 19; ((with_reducible refine (rsame_true A10 A14 64 c10 64 c14 xr _ _ (S12.out.below B14.out) R14.out XE.out).mono ?_); rintro e w13 ⟨rfl, b13⟩; have B15 := Lib.hid (BN.out _ _ (BN.out _ _ B12.out B14.out) b13); clear b13))
      go_ret
      exact ⟨rfl, by rw [hN0.out]; exact B15.out⟩
end Go.Proofs.Ytammgingmkdfhaa.S19
