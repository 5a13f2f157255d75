/-
  The calls of the statements of layer 1: OctetFills, OctetNums.
-/
import Derived.Test.YtgiocloegmpehaaAwake
namespace Go.Proofs.Ytgiocloegmpehaa
set_option linter.unusedSimpArgs false
set_option linter.unusedVariables false
open Go.RowKit

theorem u8_of {a : Int} (h : (Lit.int .u8 a).wf = true) : ∃ c : UInt8, a = (c.toNat : Int) := by
  simp [Lit.wf, IntKind.min, IntKind.max, IntKind.signed, IntKind.bits] at h
  exact ⟨UInt8.ofNat a.toNat, by simp; omega⟩
theorem u16_of {a : Int} (h : (Lit.int .u16 a).wf = true) : ∃ n : Nat, a = (n : Int) ∧ n < 65536 := by
  simp [Lit.wf, IntKind.min, IntKind.max, IntKind.signed, IntKind.bits] at h
  exact ⟨a.toNat, by omega, by omega⟩
theorem u64_of {a : Int} (h : (Lit.int .u64 a).wf = true) : ∃ n : Nat, a = (n : Int) ∧ n < 18446744073709551616 := by
  simp [Lit.wf, IntKind.min, IntKind.max, IntKind.signed, IntKind.bits] at h
  exact ⟨a.toNat, by omega, by omega⟩
theorem i64_of {a : Int} (h : (Lit.int .i64 a).wf = true) : -9223372036854775808 ≤ a ∧ a ≤ 9223372036854775807 := by
  simp [Lit.wf, IntKind.min, IntKind.max, IntKind.signed, IntKind.bits] at h
  omega

theorem RdBs.built3 (w : World) (T : TypeId) {A A' A'' : Option Addr} {n c n' c' n'' c'' : Nat} {xs ys zs : List UInt8} (h : Rd w A n c xs) (h' : Rd w A' n' c' ys) (h'' : Rd w A'' n'' c'' zs) :
    RdBs (w.alloc (.cells #[.slice A n c, .slice A' n' c', .slice A'' n'' c''] T)) (some ⟨w.heap.size, 0, none⟩) 3 3 [xs, ys, zs] :=
  RdBs.built w _ T [xs, ys, zs] (by simp [maxLen]) fun j hj => by
    match j, hj with
    | 0, _ => exact ⟨A, n, c, rfl, h⟩
    | 1, _ => exact ⟨A', n', c', rfl, h'⟩
    | 2, _ => exact ⟨A'', n'', c'', rfl, h''⟩

theorem fill_int (b : UInt8) (n : Nat) (i : Int) (w : World) (hi : i = (n : Int)) (hn : n ≤ 65536) :
    Calls Try.prog 16 #[.int .u8 (b.toNat : Int), .int .i64 i] w (New w.heap.size w (List.replicate n b)) := by
  subst hi; exact fill_any b n w hn

set_option maxHeartbeats 1000000 in
theorem octetFills_walk (w : World) (a0 : Int) (w0 : (Lit.int .u8 a0).wf = true) (a1 : Int) (w1 : (Lit.int .u16 a1).wf = true) :
    Calls Try.prog 7 #[.int .u8 a0, .int .u16 a1] w fun e w' => e = .returned (.bool true) ∧ Below w.heap.size w w' := by
  obtain ⟨c, rfl⟩ := u8_of w0
  obtain ⟨n, rfl, hn⟩ := u16_of w1
  clear w0 w1
  obtain ⟨k, hk⟩ : ∃ k, k = n % 2001 := ⟨_, rfl⟩
  have hk1 : (n : Int) % 2001 = (k : Int) := by omega
  have hk2 : k ≤ 2000 := by omega
  clear hk
  go_enter Try.func7, Try.ntmps7
  go_wp2_with (go_at_call 8; refine (awake_true _).mono ?_; rintro e w1 ⟨rfl, hb1⟩)
  go_wp2_with (go_at_call 16; ((with_reducible refine (fill_int c k _ _ ?_ (by omega)).mono ?_); rfl; rintro e w2 ⟨A2, n2, c2, rfl, ho2, hb2⟩; obtain rfl : k = n2 := by (have := own_len ho2; simp at this; exact this)))
  have hr2 := Rd.own ho2
  have hb12 := hb1.trans (hb2.mono hb1.size)
  go_loop [7] (fun i => ∃ j : Nat, j ≤ k ∧ i = .int .i64 (j : Int)) (fun i => k - (intOf i).toNat)
  case atStart => exact ⟨0, Nat.zero_le _, rfl⟩
  case round =>
    obtain ⟨j, hj, rfl⟩ := hrel
    by_cases hlt : j < k
    · obtain ⟨b, off, rfl, hb, hcell⟩ := hr2.at_ (by omega)
      have hc : w2.cell? ⟨b, off + j, none⟩ = some (.int .u8 (c.toNat : Int)) := by
        rw [hcell j hlt]; simp [List.getD, hlt]
      clear hcell
      go_wp2
      go_round
      case rel => exact ⟨j + 1, by omega, by go_num⟩
      case measure => simp [intOf]; omega
    · obtain rfl : j = k := by omega
      go_wp2_with (go_at_call 18; ((with_reducible refine (cat_any _ 3 3 [List.replicate j c, [], List.replicate j c] _ ?_ ?_).mono ?_); exact RdBs.built3 _ _ hr2 (Rd.nil_ _) hr2; (simp; omega); rintro e w3 ⟨A3, n3, c3, rfl, ho3, hb3⟩))
      have hr3 := Rd.own ho3
      go_wp2_with (go_at_call 16; ((with_reducible refine (fill_int c (2 * j) _ _ ?_ (by omega)).mono ?_); (simp); rintro e w4 ⟨A4, n4, c4, rfl, ho4, hb4⟩))
      have hr4 := Rd.own ho4
      have hr34 := hr3.below hb4
      go_wp2_with (go_at_call 12; ((with_reducible refine (rsame_true _ _ _ _ _ _ [List.replicate j c, [], List.replicate j c].flatten (List.replicate (2 * j) c) _ hr34 hr4 ?_).mono ?_); (simp [Nat.two_mul]); rintro e w5 ⟨rfl, hb5⟩))
      go_wp2_with (go_at_call 18; ((with_reducible refine (cat_any _ 0 0 [] _ (RdBs.nil_ _) ?_).mono ?_); (simp); rintro e w6 ⟨A6, n6, c6, rfl, ho6, hb6⟩; obtain rfl : 0 = n6 := by (have := own_len ho6; simp at this; exact this)))
      go_ret
      refine ⟨rfl, ?_⟩
      have s2 := hb12.size
      have b3 := (hb12.alloc s2 _).trans (hb3.mono (by simp; omega))
      have b4 := b3.trans (hb4.mono b3.size)
      have b5 := b4.trans (hb5.mono b4.size)
      exact b5.trans (hb6.mono b5.size)

/-- octet.Put, and the document's, at every count. -/
def putI (V : Nat) (n : Int) : List UInt8 := if 0 ≤ n ∧ n ≤ 8 then putL V n.toNat else []
theorem New.nil_ (w : World) : New w.heap.size w [] (.returned (.slice none 0 0)) w := ⟨none, 0, 0, rfl, World.ownsRow_nil _ _ _ _, Below.refl _ _⟩
theorem put_int (V : Nat) (n : Int) (w : World) (hV : V < 18446744073709551616) :
    Calls Try.prog 9 #[.int .u64 (V : Int), .int .i64 n] w (New w.heap.size w (putI V n)) := by
  unfold putI
  split
  · rename_i h
    obtain ⟨k, rfl⟩ := Int.eq_ofNat_of_zero_le h.1
    exact put_any V k w (by omega) hV
  · exact (put_none V n w (by omega)).mono fun e w' ⟨h1, h2⟩ => by subst h1 h2; exact New.nil_ w
theorem rput_int (V : Nat) (n : Int) (w : World) (hV : V < 18446744073709551616) :
    Calls Try.prog 13 #[.int .u64 (V : Int), .int .i64 n] w (New w.heap.size w (putI V n)) := by
  unfold putI
  split
  · rename_i h
    obtain ⟨k, rfl⟩ := Int.eq_ofNat_of_zero_le h.1
    exact rput_any V k w (by omega) hV
  · exact (rput_none V n w (by omega)).mono fun e w' ⟨h1, h2⟩ => by subst h1 h2; exact New.nil_ w
def getI (xs : List UInt8) : Nat := if xs.length ≤ 8 then getL xs else 0
theorem get_int (A : Option Addr) (n c : Nat) (xs : List UInt8) (w : World) (h : Rd w A n c xs) :
    Calls Try.prog 10 #[.slice A n c] w fun e w' => e = .returned (.tuple #[.int .u64 (getI xs : Nat), .bool (decide (n ≤ 8))]) ∧ w = w' := by
  by_cases hn : n ≤ 8
  · have e : getI xs = getL xs := by unfold getI; rw [if_pos (by have := h.len; omega)]
    rw [e, decide_eq_true hn]
    exact get_any A n c xs w hn h
  · have e : getI xs = 0 := by unfold getI; rw [if_neg (by have := h.len; omega)]
    rw [e, decide_eq_false hn]
    exact get_long A n c w (by omega) (Nat.le_trans h.cap h.max)
theorem rget_int (A : Option Addr) (n c : Nat) (xs : List UInt8) (w : World) (h : Rd w A n c xs) :
    Calls Try.prog 11 #[.slice A n c] w fun e w' => e = .returned (.tuple #[.int .u64 (getI xs : Nat), .bool (decide (n ≤ 8))]) ∧ w = w' := by
  by_cases hn : n ≤ 8
  · have e : getI xs = getL xs := by unfold getI; rw [if_pos (by have := h.len; omega)]
    rw [e, decide_eq_true hn]
    exact rget_any A n c xs w hn h
  · have e : getI xs = 0 := by unfold getI; rw [if_neg (by have := h.len; omega)]
    rw [e, decide_eq_false hn]
    exact rget_long A n c w (by omega) (Nat.le_trans h.cap h.max)
theorem get_short (A : Option Addr) (n c : Nat) (xs : List UInt8) (w : World) (hn : xs.length ≤ 8) (h : Rd w A n c xs) :
    Calls Try.prog 10 #[.slice A n c] w fun e w' => e = .returned (.tuple #[.int .u64 (getL xs : Nat), .bool true]) ∧ w = w' :=
  get_any A n c xs w (by have := h.len; omega) h

theorem putL_mod (V n : Nat) : getL (putL V n) = V % 256 ^ n := by
  have gen : ∀ (n a : Nat), (putL V n).foldl (fun v c => v * 256 + c.toNat) a = a * 256 ^ n + V % 256 ^ n := by
    intro n
    induction n with
    | zero => intro a; simp [putL, Nat.mod_one]
    | succ n ih =>
      intro a
      rw [putL, List.foldl_cons, ih]
      have e : (UInt8.ofNat (V / 256 ^ n)).toNat = V / 256 ^ n % 256 := by simp
      have h : V % 256 ^ (n + 1) = V / 256 ^ n % 256 * 256 ^ n + V % 256 ^ n := by
        rw [Nat.pow_succ, Nat.mod_mul, Nat.add_comm, Nat.mul_comm]
      rw [e, h, Nat.pow_succ, Nat.add_mul, Nat.add_assoc]
      congr 1
      rw [Nat.mul_assoc, Nat.mul_comm 256]
  simpa [getL] using gen n 0
theorem getL_put (xs : List UInt8) : putL (getL xs) xs.length = xs := by
  have gen : ∀ (xs : List UInt8) (a : Nat), putL (xs.foldl (fun v c => v * 256 + c.toNat) a) xs.length = xs := by
    intro xs
    induction xs with
    | nil => intro a; rfl
    | cons c xs ih =>
      intro a
      rw [List.foldl_cons, List.length_cons, putL, ih]
      congr 1
      have h : ∀ (xs : List UInt8) (a : Nat), xs.foldl (fun v c => v * 256 + c.toNat) a / 256 ^ xs.length = a := by
        intro xs
        induction xs with
        | nil => intro a; simp
        | cons c xs ih =>
          intro a
          rw [List.foldl_cons, List.length_cons, Nat.pow_succ, ← Nat.div_div_eq_div_mul, ih]
          have := c.toNat_lt
          omega
      rw [h]
      apply UInt8.toNat_inj.1
      simp
  exact gen xs 0

theorem putI_len (V : Nat) (n : Int) : (putI V n).length ≤ 8 := by
  unfold putI
  split
  · rw [putL_length]; omega
  · simp

theorem getI_lt (xs : List UInt8) : getI xs < 18446744073709551616 := by
  unfold getI
  split
  · rename_i h
    have h1 := getL_lt xs
    have h2 : 256 ^ xs.length ≤ 256 ^ 8 := Nat.pow_le_pow_right (by omega) h
    omega
  · omega
theorem putI_getI (xs : List UInt8) (m : Nat) (hl : xs.length = m) (h : m ≤ 8) : putI (getI xs) (m : Int) = xs := by
  unfold putI getI
  rw [if_pos (by omega), if_pos (by omega), Int.toNat_natCast, ← hl, getL_put]
theorem shift_eq (V : Nat) (n : Int) (h0 : 0 ≤ n) (h8 : n < 8) : ∃ S : Nat, IntKind.u64.wrap (2 ^ (8 * n).toNat) = (S : Int) ∧ 0 < S ∧ (getL (putI V n) : Int) = (V : Int) % (S : Int) := by
  obtain ⟨k, rfl⟩ := Int.eq_ofNat_of_zero_le h0
  refine ⟨256 ^ k, ?_, Nat.pow_pos (by omega), ?_⟩
  · have e : (8 * (k : Int)).toNat = 8 * k := by omega
    have h1 : 256 ^ k ≤ 256 ^ 7 := Nat.pow_le_pow_right (by omega) (by omega)
    have h2 : (2 : Nat) ^ (8 * k) = 256 ^ k := by rw [Nat.pow_mul]
    rw [e, IntKind.wrap_u64]
    have h3 : ((2 : Int) ^ (8 * k)) = ((256 ^ k : Nat) : Int) := by rw [← h2]; simp
    rw [h3]
    generalize 256 ^ k = q at h1 ⊢
    omega
  · unfold putI
    rw [if_pos (by omega), Int.toNat_natCast, putL_mod]
    rfl
theorem full_eq (V : Nat) (n : Int) (hV : V < 18446744073709551616) (h : n = 8) : (getL (putI V n) : Int) = (V : Int) := by
  subst h
  unfold putI
  rw [if_pos (by omega), putL_mod]
  rw [Nat.mod_eq_of_lt (by exact hV)]

set_option maxHeartbeats 2000000 in
theorem octetNums_walk (w : World) (a0 : Int) (w0 : (Lit.int .u64 a0).wf = true) (n : Int) (w1 : (Lit.int .i64 n).wf = true) (A : Option Addr) (m c : Nat) (xs : List UInt8) (hr : Rd w A m c xs) :
    Calls Try.prog 3 #[.int .u64 a0, .int .i64 n, .slice A m c] w fun e w' => e = .returned (.bool true) ∧ Below w.heap.size w w' := by
  obtain ⟨V, rfl, hV⟩ := u64_of w0
  obtain ⟨hn0, hn1⟩ := i64_of w1
  clear w0 w1
  have hmm : m ≤ maxLen := Nat.le_trans hr.cap hr.max
  unfold maxLen at hmm
  by_cases hlong : 1000 < m
  · go_enter Try.func3, Try.ntmps3
    go_wp2_with (go_at_call 8; refine (awake_true _).mono ?_; rintro e w1 ⟨rfl, hb1⟩)
    go_ret
    exact ⟨rfl, hb1⟩
  · have HV := Lib.hid hV
    clear hV
    go_enter Try.func3, Try.ntmps3
    go_wp2_with (go_at_call 8; refine (awake_true _).mono ?_; rintro e w1 ⟨rfl, hb1⟩)
    have hr1 := hr.below hb1
    go_wp2_with (go_at_call 9; ((with_reducible refine (put_int V n _ HV.out).mono ?_); rintro e w2 ⟨A2, n2, c2, rfl, ho2, hb2⟩))
    have hrx := Rd.own ho2
    have hr2 := hr1.below hb2
    go_wp2_with (go_at_call 10; ((with_reducible refine (get_int A m c xs _ hr2).mono ?_); rintro e w2' ⟨rfl, rfl⟩))
    go_wp2_with (go_at_call 11; ((with_reducible refine (rget_int A m c xs _ hr2).mono ?_); rintro e w2' ⟨rfl, rfl⟩))
    go_wp2_with (go_at_call 13; ((with_reducible refine (rput_int V n _ HV.out).mono ?_); rintro e w3 ⟨A3, n3, c3, rfl, ho3, hb3⟩))
    have hrx3 := hrx.below hb3
    have hr3 := hr2.below hb3
    go_wp2_with (go_at_call 12; ((with_reducible refine (rsame_true _ _ _ _ _ _ (putI V n) (putI V n) _ hrx3 (Rd.own ho3) rfl).mono ?_); rintro e w4 ⟨rfl, hb4⟩))
    have hr4x := hrx3.below hb4
    have hr4 := hr3.below hb4
    have B4 : Below w.heap.size w w4 := by
      have b2 := hb1.trans (hb2.mono hb1.size)
      have b3 := b2.trans (hb3.mono b2.size)
      exact b3.trans (hb4.mono b3.size)
    have s4 := B4.size
    clear hr hr1 hr2 hr3 hrx hrx3 hb1 hb2 hb3 hb4 ho2 ho3
    have hlen := Lib.hid hr4.len
    by_cases hm8 : m ≤ 8
    · have HG := Lib.hid (getI_lt xs)
      have HX := Lib.hid (putI_getI xs m hr4.len hm8)
      by_cases hneg : n < 0
      · go_wp2_with (first
          | (go_at_call 10; ((with_reducible refine (get_short A2 n2 c2 (putI V n) _ (putI_len V n) hr4x).mono ?_); rintro e w5 ⟨rfl, rfl⟩))
          | (go_at_call 9; ((with_reducible refine (put_int (getI xs) m _ HG.out).mono ?_); rintro e w6 ⟨A6, n6, c6, rfl, ho6, hb6⟩))
          | (go_at_call 12; ((with_reducible refine (rsame_true _ _ _ _ _ _ (putI (getI xs) m) xs _ (Rd.own ho6) (hr4.below hb6) HX.out).mono ?_); rintro e w7 ⟨rfl, hb7⟩)))
        go_ret
        have b6 := B4.trans (hb6.mono B4.size)
        exact ⟨rfl, b6.trans (hb7.mono b6.size)⟩
      · by_cases h8 : n < 8
        · obtain ⟨S, hsh, hS, hY⟩ := shift_eq V n (by omega) h8
          go_wp2_with (first
            | (go_at_call 10; ((with_reducible refine (get_short A2 n2 c2 (putI V n) _ (putI_len V n) hr4x).mono ?_); rintro e w5 ⟨rfl, rfl⟩))
            | (go_at_call 9; ((with_reducible refine (put_int (getI xs) m _ HG.out).mono ?_); rintro e w6 ⟨A6, n6, c6, rfl, ho6, hb6⟩))
            | (go_at_call 12; ((with_reducible refine (rsame_true _ _ _ _ _ _ (putI (getI xs) m) xs _ (Rd.own ho6) (hr4.below hb6) HX.out).mono ?_); rintro e w7 ⟨rfl, hb7⟩)))
          go_ret
          have b6 := B4.trans (hb6.mono B4.size)
          exact ⟨rfl, b6.trans (hb7.mono b6.size)⟩
        · have hY : n ≤ 8 → (getL (putI V n) : Int) = (V : Int) := fun h => full_eq V n HV.out (by omega)
          by_cases h9 : n ≤ 8
          · have hY := hY h9
            go_wp2_with (first
              | (go_at_call 10; ((with_reducible refine (get_short A2 n2 c2 (putI V n) _ (putI_len V n) hr4x).mono ?_); rintro e w5 ⟨rfl, rfl⟩))
              | (go_at_call 9; ((with_reducible refine (put_int (getI xs) m _ HG.out).mono ?_); rintro e w6 ⟨A6, n6, c6, rfl, ho6, hb6⟩))
              | (go_at_call 12; ((with_reducible refine (rsame_true _ _ _ _ _ _ (putI (getI xs) m) xs _ (Rd.own ho6) (hr4.below hb6) HX.out).mono ?_); rintro e w7 ⟨rfl, hb7⟩)))
            go_ret
            have b6 := B4.trans (hb6.mono B4.size)
            exact ⟨rfl, b6.trans (hb7.mono b6.size)⟩
          · clear hY
            go_wp2_with (first
              | (go_at_call 10; ((with_reducible refine (get_short A2 n2 c2 (putI V n) _ (putI_len V n) hr4x).mono ?_); rintro e w5 ⟨rfl, rfl⟩))
              | (go_at_call 9; ((with_reducible refine (put_int (getI xs) m _ HG.out).mono ?_); rintro e w6 ⟨A6, n6, c6, rfl, ho6, hb6⟩))
              | (go_at_call 12; ((with_reducible refine (rsame_true _ _ _ _ _ _ (putI (getI xs) m) xs _ (Rd.own ho6) (hr4.below hb6) HX.out).mono ?_); rintro e w7 ⟨rfl, hb7⟩)))
            go_ret
            have b6 := B4.trans (hb6.mono B4.size)
            exact ⟨rfl, b6.trans (hb7.mono b6.size)⟩
    · by_cases hneg : n < 0
      · go_wp2_with (go_at_call 10; ((with_reducible refine (get_short A2 n2 c2 (putI V n) _ (putI_len V n) hr4x).mono ?_); rintro e w5 ⟨rfl, rfl⟩))
        go_ret
        exact ⟨rfl, B4⟩
      · by_cases h8 : n < 8
        · obtain ⟨S, hsh, hS, hY⟩ := shift_eq V n (by omega) h8
          go_wp2_with (go_at_call 10; ((with_reducible refine (get_short A2 n2 c2 (putI V n) _ (putI_len V n) hr4x).mono ?_); rintro e w5 ⟨rfl, rfl⟩))
          go_ret
          exact ⟨rfl, B4⟩
        · have hY : n ≤ 8 → (getL (putI V n) : Int) = (V : Int) := fun h => full_eq V n HV.out (by omega)
          by_cases h9 : n ≤ 8
          · have hY := hY h9
            go_wp2_with (go_at_call 10; ((with_reducible refine (get_short A2 n2 c2 (putI V n) _ (putI_len V n) hr4x).mono ?_); rintro e w5 ⟨rfl, rfl⟩))
            go_ret
            exact ⟨rfl, B4⟩
          · clear hY
            go_wp2_with (go_at_call 10; ((with_reducible refine (get_short A2 n2 c2 (putI V n) _ (putI_len V n) hr4x).mono ?_); rintro e w5 ⟨rfl, rfl⟩))
            go_ret
            exact ⟨rfl, B4⟩
end Go.Proofs.Ytgiocloegmpehaa
