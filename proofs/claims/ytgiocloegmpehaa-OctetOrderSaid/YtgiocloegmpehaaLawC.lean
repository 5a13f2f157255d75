/-
  The call of the statement OctetOrder of layer 1.
-/
import Derived.Test.YtgiocloegmpehaaLawA
import Derived.BigQuiet
import Derived.Deep.DrawnRows
namespace Go.Proofs.Ytgiocloegmpehaa
set_option linter.unusedSimpArgs false
set_option linter.unusedVariables false
open Go.RowKit

theorem getL_cons (x : UInt8) (xs : List UInt8) : getL (x :: xs) = x.toNat * 256 ^ xs.length + getL xs := by
  have gen : ∀ (xs : List UInt8) (a : Nat), xs.foldl (fun v c => v * 256 + c.toNat) a = a * 256 ^ xs.length + getL xs := by
    intro xs
    induction xs with
    | nil => intro a; simp [getL]
    | cons c xs ih =>
      intro a
      have h0 : getL (c :: xs) = c.toNat * 256 ^ xs.length + getL xs := by
        show List.foldl _ (0 * 256 + c.toNat) xs = _
        rw [ih]; simp
      rw [List.foldl_cons, ih, h0, List.length_cons, Nat.pow_succ, Nat.add_mul, Nat.add_assoc]
      congr 1
      rw [Nat.mul_assoc, Nat.mul_comm 256]
  show List.foldl _ (0 * 256 + x.toNat) xs = _
  rw [gen]; simp
theorem less_cons (x y : UInt8) (xs ys : List UInt8) (h : xs.length = ys.length) :
    (getL (x :: xs) < getL (y :: ys)) ↔ (if x = y then getL xs < getL ys else x.toNat < y.toNat) := by
  rw [getL_cons, getL_cons, h]
  have h1 := getL_lt xs
  have h2 := getL_lt ys
  rw [h] at h1
  generalize 256 ^ ys.length = q at h1 h2 ⊢
  generalize getL xs = a at h1 ⊢
  generalize getL ys = b at h2 ⊢
  split
  · rename_i e; subst e; omega
  · rename_i hne
    have hne' : x.toNat ≠ y.toNat := fun e => hne (UInt8.toNat_inj.1 e)
    rcases Nat.lt_or_gt_of_ne hne' with hl | hl
    · have h3 : (x.toNat + 1) * q ≤ y.toNat * q := Nat.mul_le_mul_right _ hl
      rw [Nat.add_mul] at h3
      omega
    · have h3 : (y.toNat + 1) * q ≤ x.toNat * q := Nat.mul_le_mul_right _ hl
      rw [Nat.add_mul] at h3
      omega
/-- Whether the rest of the one row, from j on, is less than that of the other. -/
def lessFrom (xs ys : List UInt8) (j : Nat) : Bool := decide (getL (xs.drop j) < getL (ys.drop j))
theorem less_eq (xs ys : List UInt8) (j : Nat) (hx : xs.length = 8) (hy : ys.length = 8) (h0 : 0 < j) (h8 : j ≤ 8) (he : xs[j - 1]?.getD 0 = ys[j - 1]?.getD 0) : lessFrom xs ys (j - 1) = lessFrom xs ys j := by
  have e : j - 1 + 1 = j := by omega
  have h1 : j - 1 < xs.length := by omega
  have h2 : j - 1 < ys.length := by omega
  have he' : xs[j - 1] = ys[j - 1] := by simpa [h1, h2] using he
  unfold lessFrom
  rw [List.drop_eq_getElem_cons h1, List.drop_eq_getElem_cons h2, e]
  congr 1
  rw [less_cons _ _ _ _ (by simp; omega), if_pos he']
theorem less_ne (xs ys : List UInt8) (j : Nat) (hx : xs.length = 8) (hy : ys.length = 8) (h0 : 0 < j) (h8 : j ≤ 8) (he : ¬ xs[j - 1]?.getD 0 = ys[j - 1]?.getD 0) :
    lessFrom xs ys (j - 1) = decide ((xs[j - 1]?.getD 0).toNat < (ys[j - 1]?.getD 0).toNat) := by
  have e : j - 1 + 1 = j := by omega
  have h1 : j - 1 < xs.length := by omega
  have h2 : j - 1 < ys.length := by omega
  have he' : ¬ xs[j - 1] = ys[j - 1] := by simpa [h1, h2] using he
  unfold lessFrom
  rw [List.drop_eq_getElem_cons h1, List.drop_eq_getElem_cons h2, e, List.getElem?_eq_getElem h1, List.getElem?_eq_getElem h2]
  simp only [Option.getD_some]
  congr 1
  rw [less_cons _ _ _ _ (by simp; omega), if_neg he']
theorem putL_drop (V n k : Nat) (h : k ≤ n) : (putL V n).drop (n - k) = putL V k := by
  induction n with
  | zero => obtain rfl : k = 0 := by omega
            rfl
  | succ n ih =>
    by_cases e : k = n + 1
    · subst e; simp
    · have e2 : n + 1 - k = (n - k) + 1 := by omega
      rw [e2, putL, List.drop_succ_cons, ih (by omega)]
theorem cut_two (x : List UInt8) (k : Nat) (hx : x.length = 8) (h1 : 1 ≤ k) (h8 : k ≤ 8) : cutL x [(k : Int), 8 - (k : Int)] = ([x.take k, x.drop k], 0) := by
  unfold cutL
  simp only [cutF]
  rw [if_neg (by omega), if_neg (by omega), if_neg (by omega), if_neg (by simp; omega), if_neg (by simp; omega)]
  simp only [Int.toNat_natCast, List.nil_append, List.cons_append]
  congr 3
  rw [List.take_of_length_le (by simp; omega)]

theorem less_all (V U : Nat) (x y : List UInt8) (hV : V < 18446744073709551616) (hU : U < 18446744073709551616) (hx : x = putL V 8) (hy : y = putL U 8) : lessFrom x y 0 = decide ((V : Int) < (U : Int)) := by
  unfold lessFrom
  rw [List.drop_zero, List.drop_zero, hx, hy, putL_mod, putL_mod, Nat.mod_eq_of_lt (by exact hV), Nat.mod_eq_of_lt (by exact hU)]
  simp
theorem putL_top (V k : Nat) (x : List UInt8) (hx : x = putL V 8) (h : k ≤ 8) : putL V k = x.drop (8 - k) := by rw [hx, putL_drop V 8 k h]
theorem put_8 (V : Nat) (w : World) (hV : V < 18446744073709551616) :
    Calls Try.prog 9 #[.int .u64 (V : Int), .int .i64 8] w fun e w' => ∃ (A : Option Addr) (c : Nat), e = .returned (.slice A 8 c) ∧ Rd w' A 8 c (putL V 8) ∧ Below w.heap.size w w' := by
  refine (put_any V 8 w (by omega) hV).mono ?_
  rintro e w' ⟨A, n, c, rfl, ho, hb⟩
  obtain rfl : 8 = n := by have e1 := own_len ho; rw [putL_length] at e1; exact e1
  exact ⟨A, c, rfl, Rd.own ho, hb⟩

attribute [local go_sem ↓] Go.wp_at_zero Go.wp_at_succ
set_option maxHeartbeats 2000000 in
theorem octetOrder_walk (w : World) (a0 : Int) (w0 : (Lit.int .u64 a0).wf = true) (a1 : Int) (w1 : (Lit.int .u64 a1).wf = true) (a2 : Int) (w2 : (Lit.int .u8 a2).wf = true) :
    Calls Try.prog 5 #[.int .u64 a0, .int .u64 a1, .int .u8 a2] w fun e w' => e = .returned (.bool true) ∧ Below w.heap.size w w' := by
  obtain ⟨V, rfl, hV⟩ := u64_of w0
  obtain ⟨U, rfl, hU⟩ := u64_of w1
  obtain ⟨c, rfl, hc⟩ : ∃ c : Nat, a2 = (c : Int) ∧ c < 256 := by
    obtain ⟨c, rfl⟩ := u8_of w2
    exact ⟨c.toNat, rfl, c.toNat_lt⟩
  clear w0 w1 w2
  obtain ⟨k, hk⟩ : ∃ k, k = 1 + c % 8 := ⟨_, rfl⟩
  have hk1 : 1 + (c : Int) % 8 = (k : Int) := by omega
  have k1 : 1 ≤ k := by omega
  have k8 : k ≤ 8 := by omega
  have k8i : (k : Int) ≤ 8 := by omega
  clear hk
  have HV := Lib.hid hV
  have HU := Lib.hid hU
  clear hV hU
  go_enter Try.func5, Try.ntmps5
  go_wp2_with (go_at_call 8; refine (awake_true _).mono ?_; rintro e v1 ⟨rfl, b1⟩)
  go_wp2_with (go_at_call 9; ((with_reducible refine (put_8 V _ HV.out).mono ?_); rintro e v2 ⟨A2, c2, rfl, r2, b2⟩))
  go_wp2_with (go_at_call 9; ((with_reducible refine (put_8 U _ HU.out).mono ?_); rintro e v3 ⟨A3, c3, rfl, r3, b3⟩))
  have r2 := r2.below b3
  have B := (b1.trans (b2.mono b1.size)).trans (b3.mono (Nat.le_trans b1.size b2.size))
  clear b1 b2 b3
  obtain ⟨x, hx⟩ : ∃ x, x = putL V 8 := ⟨_, rfl⟩
  obtain ⟨y, hy⟩ : ∃ y, y = putL U 8 := ⟨_, rfl⟩
  rw [← hx] at r2
  rw [← hy] at r3
  have HX := Lib.hid hx
  have HY := Lib.hid hy
  have XL := Lib.hid (show x.length = 8 by rw [hx, putL_length])
  have YL := Lib.hid (show y.length = 8 by rw [hy, putL_length])
  clear hx hy
  go_loopw [10, 11] (fun l i wr => ∃ j q : Nat, j ≤ 8 ∧ i = .int .i64 ((j : Int) - 1) ∧ wr = v3.drewN q ∧ l = .bool (lessFrom x y j)) (fun _ i _ => (intOf i + 1).toNat)
  case atStart => exact ⟨8, 0, by omega, rfl, rfl, by rw [lessFrom, List.drop_of_length_le (by rw [XL.out]; omega), List.drop_of_length_le (by rw [YL.out]; omega)]; rfl⟩
  case round =>
    obtain ⟨j, q, hj, rfl, rfl, rfl⟩ := hrel
    by_cases h0 : 0 < j
    · obtain ⟨p1, f1, rfl, l1, g1⟩ := r2.at_ (by omega)
      obtain ⟨p2, f2, rfl, l2, g2⟩ := r3.at_ (by omega)
      have g1 := g1 (j - 1) (by omega)
      have g2 := g2 (j - 1) (by omega)
      have hji : (1 : Int) ≤ (j : Int) := by omega
      have hji8 : (j : Int) - 1 < 8 := by omega
      have hji0 : (0 : Int) ≤ (j : Int) - 1 := by omega
      simp only [List.getD_eq_getElem?_getD] at g1 g2
      by_cases he : x[j - 1]?.getD 0 = y[j - 1]?.getD 0
      · have HE := Lib.hid (less_eq x y j XL.out YL.out h0 hj he)
        have ht : (((x[j - 1]?.getD 0).toNat : Int) != ((y[j - 1]?.getD 0).toNat : Int)) = false := by rw [he]; simp
        clear he
        go_wp2
        go_region
        go_wp2
        go_roundw
        case rel => exact ⟨j - 1, q + 1, by omega, by go_num, rfl, by rw [HE.out]⟩
        case measure => simp [intOf]; omega
      · have HE := Lib.hid (less_ne x y j XL.out YL.out h0 hj he)
        have ht : (((x[j - 1]?.getD 0).toNat : Int) != ((y[j - 1]?.getD 0).toNat : Int)) = true := by
          simp only [bne_iff_ne, ne_eq]
          intro e
          exact he (UInt8.toNat_inj.1 (by omega))
        clear he
        go_wp2
        go_region
        go_wp2
        go_region
        go_wp2
        go_roundw
        case rel => exact ⟨j - 1, q + 1 + 1, by omega, by go_num, rfl, by rw [HE.out]⟩
        case measure => simp [intOf]; omega
    · obtain rfl : j = 0 := by omega
      have bq : Below v3.heap.size v3 (v3.drewN q) := ⟨rfl, rfl, rfl, Nat.le_refl _, fun _ _ => rfl⟩
      have r2 := r2.below bq
      have r3 := r3.below bq
      have B := B.trans (bq.mono B.size)
      generalize v3.drewN q = v4 at r2 r3 B ⊢
      by_cases hlt : V < U
      · have HL : Hid (lessFrom x y 0 = true) := by
          show lessFrom x y 0 = true
          rw [less_all V U x y HV.out HU.out HX.out HY.out]; simpa using hlt
        have hd : decide ((V : Int) < (U : Int)) = true := by simpa using hlt
        have hd' : decide (V < U) = true := by simpa using hlt
        rw [HL.out]
        clear hlt
        go_wp2_with (go_at_call 19; ((with_reducible refine (cut_is [x.take k, x.drop k] 0 A2 _ 8 c2 2 2 x [(k : Int), 8 - (k : Int)] _ ?_ ?_ (by omega) (by omega) (cut_two x k XL.out k1 k8)).mono ?_); exact r2.alloc _; exact rdi_lit _ _ _ [(k : Int), 8 - (k : Int)] (by rfl) (by simp [maxLen]) (by simp [maxLen]; omega) _ (by simp); rintro e v5 ⟨A5, n5, c5, rfl, r5, b5⟩; obtain rfl : 2 = n5 := r5.len))
        have B5 : Below w.heap.size w v5 := (B.alloc B.size _).trans (b5.mono (by simp; have := B.size; omega))
        have r2 : Rd v5 A2 8 c2 x := (r2.alloc _).below b5
        clear r3 b5 B
        go_wp2
        have bd : Below v5.heap.size v5 v5.drew := (Below.refl _ _).drew
        have r5 := r5.below bd
        have r2 := r2.below bd
        have B5 := B5.drew
        have HP := Lib.hid (putL_top V k x HX.out k8)
        have HF := Lib.hid (show [x.take k, x.drop k].flatten = x by simp)
        have ht : [x.take k, x.drop k].flatten.length ≤ 140737488355328 := by rw [HF.out, XL.out]; omega
        have hc8 := r2.cap
        have hci : (8 : Int) ≤ (c2 : Int) := by omega
        have hwr : IntKind.i64.wrap (8 - (k : Int)) = 8 - (k : Int) := by rw [IntKind.wrap_i64]; omega
        have h8k : (0 : Int) ≤ 8 - (k : Int) := by omega
        have h8k2 : 8 - (k : Int) ≤ 8 := by omega
        have htn : (8 - (k : Int)).toNat = 8 - k := by omega
        have hne : ¬ c2 = 8 - k := by omega
        go_region_held3 (fun _ => True) (trivial) (first
          | (go_at_call 18; ((with_reducible refine (cat_any A5 2 c5 [x.take k, x.drop k] _ r5 ht).mono ?_); rintro e v6 ⟨A6, n6, c6, rfl, o6, b6⟩; have r6 := Rd.own o6; have r26 := r2.below b6))
          | (go_at_call 12; ((with_reducible refine (rsame_true A6 A2 n6 c6 8 c2 [x.take k, x.drop k].flatten x _ r6 r26 HF.out).mono ?_); rintro e v7 ⟨rfl, b7⟩; have r27 := r26.below b7))
          | (go_at_call 9; ((with_reducible refine (put_any V k _ k8 HV.out).mono ?_); rintro e v8 ⟨A8, n8, c8, rfl, o8, b8⟩; have r8 := Rd.own o8; have r28 := (r27.below b8).cut (k := 8 - k) (by omega); rw [if_neg hne] at r28))
          | (go_at_call 12; ((with_reducible refine (rsame_true A8 (Option.map (fun x => x.add (8 - k)) A2) n8 c8 (8 - (8 - k)) (c2 - (8 - k)) (putL V k) (x.drop (8 - k)) _ r8 r28 HP.out).mono ?_); rintro e v9 ⟨rfl, b9⟩)))
        go_wp2
        go_ret
        have B6 := B5.trans (b6.mono B5.size)
        have B7 := B6.trans (b7.mono B6.size)
        have B8 := B7.trans (b8.mono B7.size)
        exact ⟨rfl, B8.trans (b9.mono B8.size)⟩
      · have HL : Hid (lessFrom x y 0 = false) := by
          show lessFrom x y 0 = false
          rw [less_all V U x y HV.out HU.out HX.out HY.out]; simpa using hlt
        have hd : decide ((V : Int) < (U : Int)) = false := by simpa using hlt
        have hd' : decide (V < U) = false := by simpa using hlt
        rw [HL.out]
        clear hlt
        go_wp2_with (go_at_call 19; ((with_reducible refine (cut_is [x.take k, x.drop k] 0 A2 _ 8 c2 2 2 x [(k : Int), 8 - (k : Int)] _ ?_ ?_ (by omega) (by omega) (cut_two x k XL.out k1 k8)).mono ?_); exact r2.alloc _; exact rdi_lit _ _ _ [(k : Int), 8 - (k : Int)] (by rfl) (by simp [maxLen]) (by simp [maxLen]; omega) _ (by simp); rintro e v5 ⟨A5, n5, c5, rfl, r5, b5⟩; obtain rfl : 2 = n5 := r5.len))
        have B5 : Below w.heap.size w v5 := (B.alloc B.size _).trans (b5.mono (by simp; have := B.size; omega))
        have r2 : Rd v5 A2 8 c2 x := (r2.alloc _).below b5
        clear r3 b5 B
        go_wp2
        have bd : Below v5.heap.size v5 v5.drew := (Below.refl _ _).drew
        have r5 := r5.below bd
        have r2 := r2.below bd
        have B5 := B5.drew
        have HP := Lib.hid (putL_top V k x HX.out k8)
        have HF := Lib.hid (show [x.take k, x.drop k].flatten = x by simp)
        have ht : [x.take k, x.drop k].flatten.length ≤ 140737488355328 := by rw [HF.out, XL.out]; omega
        have hc8 := r2.cap
        have hci : (8 : Int) ≤ (c2 : Int) := by omega
        have hwr : IntKind.i64.wrap (8 - (k : Int)) = 8 - (k : Int) := by rw [IntKind.wrap_i64]; omega
        have h8k : (0 : Int) ≤ 8 - (k : Int) := by omega
        have h8k2 : 8 - (k : Int) ≤ 8 := by omega
        have htn : (8 - (k : Int)).toNat = 8 - k := by omega
        have hne : ¬ c2 = 8 - k := by omega
        go_region_held3 (fun _ => True) (trivial) (first
          | (go_at_call 18; ((with_reducible refine (cat_any A5 2 c5 [x.take k, x.drop k] _ r5 ht).mono ?_); rintro e v6 ⟨A6, n6, c6, rfl, o6, b6⟩; have r6 := Rd.own o6; have r26 := r2.below b6))
          | (go_at_call 12; ((with_reducible refine (rsame_true A6 A2 n6 c6 8 c2 [x.take k, x.drop k].flatten x _ r6 r26 HF.out).mono ?_); rintro e v7 ⟨rfl, b7⟩; have r27 := r26.below b7))
          | (go_at_call 9; ((with_reducible refine (put_any V k _ k8 HV.out).mono ?_); rintro e v8 ⟨A8, n8, c8, rfl, o8, b8⟩; have r8 := Rd.own o8; have r28 := (r27.below b8).cut (k := 8 - k) (by omega); rw [if_neg hne] at r28))
          | (go_at_call 12; ((with_reducible refine (rsame_true A8 (Option.map (fun x => x.add (8 - k)) A2) n8 c8 (8 - (8 - k)) (c2 - (8 - k)) (putL V k) (x.drop (8 - k)) _ r8 r28 HP.out).mono ?_); rintro e v9 ⟨rfl, b9⟩)))
        go_wp2
        go_ret
        have B6 := B5.trans (b6.mono B5.size)
        have B7 := B6.trans (b7.mono B6.size)
        have B8 := B7.trans (b8.mono B7.size)
        exact ⟨rfl, B8.trans (b9.mono B8.size)⟩
end Go.Proofs.Ytgiocloegmpehaa
