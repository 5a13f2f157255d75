/-
  The call of the statement OctetXors of layer 1.
-/
import Derived.Test.YtgiocloegmpehaaLawA
namespace Go.Proofs.Ytgiocloegmpehaa
set_option linter.unusedSimpArgs false
set_option linter.unusedVariables false
open Go.RowKit

theorem xorL_comm (xs ys : List UInt8) : xorL xs ys = xorL ys xs := by
  unfold xorL
  rw [List.zipWith_comm]
  congr 1
  funext a b
  exact UInt8.xor_comm _ _
theorem xorL_assoc (xs ys zs : List UInt8) : xorL (xorL xs ys) zs = xorL xs (xorL ys zs) := by
  unfold xorL
  induction xs generalizing ys zs with
  | nil => simp
  | cons x xs ih =>
    cases ys with
    | nil => simp
    | cons y ys =>
      cases zs with
      | nil => simp
      | cons z zs => simp [ih, UInt8.xor_assoc]
theorem xorL_self (xs : List UInt8) (n : Nat) (h : xs.length = n) : xorL xs xs = List.replicate n 0 := by
  subst h
  unfold xorL
  induction xs with
  | nil => rfl
  | cons x xs ih =>
    rw [List.zipWith_cons_cons, ih, UInt8.xor_self]
    rfl
theorem xorL_zero (xs : List UInt8) (n : Nat) (h : xs.length = n) : xorL xs (List.replicate n 0) = xs := by
  subst h
  unfold xorL
  induction xs with
  | nil => rfl
  | cons x xs ih => simp [ih, List.replicate_succ]

theorem run_min2 {P : Program} (k : IntKind) (a b : Int) (w : World) : (Builtin.min2 (.int k a) (.int k b)).run P w = .ok (.int k (min a b)) w := by
  have e : (if b < a then b else a) = min a b := by split <;> omega
  simp only [Builtin.min2, e]
  rfl
theorem run_min4 {P : Program} (ts : Array TypeId) (t : TypeId) (k : IntKind) (a b c d r : Int) (h : min (min (min a b) c) d = r) (w : World) :
    (Builtin.min_ ts t #[.int k a, .int k b, .int k c, .int k d]).run P w = .ok (.int k r) w := by
  subst h
  simp [Builtin.min_, List.foldlM, run_min2]

/-- octet.Xor of two rows of one length. -/
theorem xor_m (A A' : Option Addr) (m c c' : Nat) (xs ys : List UInt8) (w : World) (h1 : Rd w A m c xs) (h2 : Rd w A' m c' ys) (hn : m ≤ 1000000) :
    Calls Try.prog 14 #[.slice A m c, .slice A' m c'] w fun e w' => ∃ (D : Option Addr) (d : Nat), e = .returned (.slice D m d) ∧ Rd w' D m d (xorL xs ys) ∧ Below w.heap.size w w' := by
  refine (xor_any A A' m c m c' xs ys w h1 h2 (.inl hn)).mono ?_
  rintro e w' ⟨D, l, d, rfl, ho, hb⟩
  obtain rfl : m = l := by
    have e1 := own_len ho
    have e2 := h1.len
    have e3 := h2.len
    rw [xorL_length] at e1
    omega
  exact ⟨D, d, rfl, Rd.own ho, hb⟩

set_option maxHeartbeats 4000000 in
theorem octetXors_walk (w : World) (A1 : Option Addr) (n1 c1 : Nat) (xs : List UInt8) (h1 : Rd w A1 n1 c1 xs) (A2 : Option Addr) (n2 c2 : Nat) (ys : List UInt8) (h2 : Rd w A2 n2 c2 ys) (A3 : Option Addr) (n3 c3 : Nat) (zs : List UInt8) (h3 : Rd w A3 n3 c3 zs) :
    Calls Try.prog 6 #[.slice A1 n1 c1, .slice A2 n2 c2, .slice A3 n3 c3] w fun e w' => e = .returned (.bool true) ∧ Below w.heap.size w w' := by
  have q1 := h1.cap
  have q2 := h2.cap
  have q3 := h3.cap
  have p1 := h1.max
  have p2 := h2.max
  have p3 := h3.max
  unfold maxLen at p1 p2 p3
  obtain ⟨m, hm⟩ : ∃ m, m = min (min n1 n2) (min n3 1000) := ⟨_, rfl⟩
  have m1 : m ≤ n1 := by omega
  have m2 : m ≤ n2 := by omega
  have m3 : m ≤ n3 := by omega
  have m4 : m ≤ 1000 := by omega
  have hmin : ∀ W, (Builtin.min_ #[3, 3, 3, 3] 3 #[.int .i64 (n1 : Int), .int .i64 (n2 : Int), .int .i64 (n3 : Int), .int .i64 1000]).run Try.prog W = .ok (.int .i64 (m : Int)) W :=
    fun W => run_min4 _ _ _ _ _ _ _ _ (by omega) W
  clear hm
  have hx := h1.take m1
  have hy := h2.take m2
  have hz := h3.take m3
  generalize xs.take m = x at hx
  generalize ys.take m = y at hy
  generalize zs.take m = z at hz
  clear h1 h2 h3
  go_enter Try.func6, Try.ntmps6
  go_wp2_with (go_at_call 8; refine (awake_true _).mono ?_; rintro e v1 ⟨rfl, b1⟩)
  have hx := hx.below b1
  have hy := hy.below b1
  have hz := hz.below b1
  go_wp2_with (go_at_call 16; refine (fill_int 0 m _ _ rfl (by omega)).mono ?_; rintro e v2 ⟨A4, n4, c4, rfl, ho, b2⟩; obtain rfl : m = n4 := by (have := own_len ho; simp at this; exact this))
  have h0 := Rd.own ho
  have hx := hx.below b2
  have hy := hy.below b2
  have hz := hz.below b2
  have B := b1.trans (b2.mono b1.size)
  clear b1 b2 ho
  go_wp2_with (go_at_call 14; ((with_reducible refine (xor_m A1 A2 m c1 c2 x y _ hx hy (by omega)).mono ?_); rintro e u3 ⟨D3, d3, rfl, g3, b3⟩))
  have hx := hx.below b3
  have hy := hy.below b3
  have hz := hz.below b3
  have h0 := h0.below b3
  have B := B.trans (b3.mono B.size)
  go_wp2_with (go_at_call 14; ((with_reducible refine (xor_m A2 A1 m c2 c1 y x _ hy hx (by omega)).mono ?_); rintro e u4 ⟨D4, d4, rfl, g4, b4⟩))
  have hx := hx.below b4
  have hy := hy.below b4
  have hz := hz.below b4
  have h0 := h0.below b4
  have g3 := g3.below b4
  have B := B.trans (b4.mono B.size)
  go_wp2_with (go_at_call 12; ((with_reducible refine (rsame_true D3 D4 m d3 m d4 (xorL x y) (xorL y x) _ g3 g4 (xorL_comm x y)).mono ?_); rintro e u5 ⟨rfl, b5⟩))
  have hx := hx.below b5
  have hy := hy.below b5
  have hz := hz.below b5
  have h0 := h0.below b5
  have B := B.trans (b5.mono B.size)
  clear g3 g4 b3 b4 b5
  go_wp2_with (go_at_call 14; ((with_reducible refine (xor_m A1 A2 m c1 c2 x y _ hx hy (by omega)).mono ?_); rintro e u6 ⟨D6, d6, rfl, g6, b6⟩))
  have hx := hx.below b6
  have hy := hy.below b6
  have hz := hz.below b6
  have h0 := h0.below b6
  have B := B.trans (b6.mono B.size)
  go_wp2_with (go_at_call 14; ((with_reducible refine (xor_m D6 A3 m d6 c3 (xorL x y) z _ g6 hz (by omega)).mono ?_); rintro e u7 ⟨D7, d7, rfl, g7, b7⟩))
  have hx := hx.below b7
  have hy := hy.below b7
  have hz := hz.below b7
  have h0 := h0.below b7
  have B := B.trans (b7.mono B.size)
  go_wp2_with (go_at_call 14; ((with_reducible refine (xor_m A2 A3 m c2 c3 y z _ hy hz (by omega)).mono ?_); rintro e u8 ⟨D8, d8, rfl, g8, b8⟩))
  have hx := hx.below b8
  have hy := hy.below b8
  have hz := hz.below b8
  have h0 := h0.below b8
  have g7 := g7.below b8
  have B := B.trans (b8.mono B.size)
  go_wp2_with (go_at_call 14; ((with_reducible refine (xor_m A1 D8 m c1 d8 x (xorL y z) _ hx g8 (by omega)).mono ?_); rintro e u9 ⟨D9, d9, rfl, g9, b9⟩))
  have hx := hx.below b9
  have hy := hy.below b9
  have hz := hz.below b9
  have h0 := h0.below b9
  have g7 := g7.below b9
  have B := B.trans (b9.mono B.size)
  go_wp2_with (go_at_call 12; ((with_reducible refine (rsame_true D7 D9 m d7 m d9 (xorL (xorL x y) z) (xorL x (xorL y z)) _ g7 g9 (xorL_assoc x y z)).mono ?_); rintro e u10 ⟨rfl, b10⟩))
  have hx := hx.below b10
  have hy := hy.below b10
  have hz := hz.below b10
  have h0 := h0.below b10
  have B := B.trans (b10.mono B.size)
  clear g6 g7 g8 g9 b6 b7 b8 b9 b10
  go_wp2_with (go_at_call 14; ((with_reducible refine (xor_m A1 A1 m c1 c1 x x _ hx hx (by omega)).mono ?_); rintro e u11 ⟨D11, d11, rfl, g11, b11⟩))
  have hx := hx.below b11
  have hy := hy.below b11
  have hz := hz.below b11
  have h0 := h0.below b11
  have B := B.trans (b11.mono B.size)
  go_wp2_with (go_at_call 12; ((with_reducible refine (rsame_true D11 A4 m d11 m c4 (xorL x x) (List.replicate m 0) _ g11 h0 (xorL_self x m hx.len)).mono ?_); rintro e u12 ⟨rfl, b12⟩))
  have hx := hx.below b12
  have hy := hy.below b12
  have hz := hz.below b12
  have h0 := h0.below b12
  have B := B.trans (b12.mono B.size)
  go_wp2_with (go_at_call 14; ((with_reducible refine (xor_m A1 A4 m c1 c4 x (List.replicate m 0) _ hx h0 (by omega)).mono ?_); rintro e u13 ⟨D13, d13, rfl, g13, b13⟩))
  have hx := hx.below b13
  have hy := hy.below b13
  have hz := hz.below b13
  have h0 := h0.below b13
  have B := B.trans (b13.mono B.size)
  go_wp2_with (go_at_call 12; ((with_reducible refine (rsame_true D13 A1 m d13 m c1 (xorL x (List.replicate m 0)) x _ g13 hx (xorL_zero x m hx.len)).mono ?_); rintro e u14 ⟨rfl, b14⟩))
  go_ret
  exact ⟨rfl, B.trans (b14.mono B.size)⟩
end Go.Proofs.Ytgiocloegmpehaa
