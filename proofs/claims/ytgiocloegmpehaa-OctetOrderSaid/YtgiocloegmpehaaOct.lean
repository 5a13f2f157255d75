/-
  What the calls of package octet do: numbers as bytes, and rows of bytes.
-/
import Derived.Test.YtgiocloegmpehaaWords
namespace Go.Proofs.Ytgiocloegmpehaa
set_option linter.unusedSimpArgs false
set_option linter.unusedVariables false
open Go.RowKit

theorem put_step (k n V : Nat) (hk : 0 < k) (hn : k ≤ n) :
    (bv (List.replicate k 0 ++ putL V (n - k))).set (k - 1) (.int .u8 ((V : Int) / 256 ^ (n - k) % 256)) = bv (List.replicate (k - 1) 0 ++ putL V (n - (k - 1))) := by
  obtain ⟨k, rfl⟩ : ∃ m, k = m + 1 := ⟨k - 1, by omega⟩
  have e : n - (k + 1 - 1) = (n - (k + 1)) + 1 := by omega
  have hv : ((V : Int) / 256 ^ (n - (k + 1)) % 256) = ((UInt8.ofNat (V / 256 ^ (n - (k + 1)))).toNat : Int) := by simp
  rw [hv, bv_set, e, putL]
  congr 1
  rw [show k + 1 - 1 = k from rfl, List.replicate_succ', List.append_assoc, List.set_append_right _ _ (by simp)]
  simp

theorem put_next (k n V : Nat) (hk : 0 < k) (hn : k ≤ n) : Value.int .u64 ((V : Int) / 256 ^ (n - k) / 256) = .int .u64 ((V / 256 ^ (n - (k - 1)) : Nat) : Int) := by
  have e : n - (k - 1) = (n - k) + 1 := by omega
  rw [e, Nat.pow_succ, ← Nat.div_div_eq_div_mul]
  simp

/-- octet.Put, n in 0 to 8: n bytes in new memory. -/
theorem put_any (V n : Nat) (w : World) (hn : n ≤ 8) (hV : V < 18446744073709551616) :
    Calls Try.prog 9 #[.int .u64 (V : Int), .int .i64 (n : Int)] w (New w.heap.size w (putL V n)) := by
  obtain ⟨i0, hi, hz0, hz1, hz2⟩ := info_parts Try.infoU8
  go_enter Try.func9, Try.ntmps9
  go_wp2_with (at_make; refine wpList_make_full _ rfl _ _ 23 rfl w.heap.size 5 i0 (.int .u8 0) 1 Try.underlying23 hi hz0 hz1 _ _ _ _ n rfl rfl rfl rfl ?b2 ?b3 (Nat.le_refl _) ?_)
  case b2 => rw [hz2]; omega
  case b3 => unfold maxLen; omega
  intro w0 hown0 hgrow0
  rw [bv_zero] at hown0
  have hb0 : Below w.heap.size w w0 := (Below.refl _ _).grown hgrow0 (Nat.le_refl _) (fun k h => by cases h)
  clear hgrow0
  go_wp2
  go_loopw [0, 6] (fun v i wr => ∃ k : Nat, k ≤ n ∧ i = .int .i64 ((k : Int) - 1) ∧ v = .int .u64 ((V / 256 ^ (n - k) : Nat) : Int) ∧
      wr.ownsRow w.heap.size 5 1 (.slice (some ⟨w.heap.size, 0, none⟩) n n) n (bv (List.replicate k 0 ++ putL V (n - k))) ∧ Below w.heap.size w wr)
    (fun _ i _ => (intOf i + 1).toNat)
  case atStart => exact ⟨n, Nat.le_refl _, rfl, by simp, by simpa [putL] using hown0, hb0⟩
  case round =>
    obtain ⟨k, hk, rfl, rfl, hown, hbel⟩ := hrel
    by_cases hk0 : 0 < k
    · have hc := hown.cellAt (k - 1) (by omega)
      have hf := hown.frozenAt (k - 1)
      have hs := hown.stored (k - 1)
      rw [bv_at _ _ (by simp [putL_length]; omega)] at hc
      go_wp2
      go_roundw
      case rel =>
        exact ⟨k - 1, by omega, by go_num, put_next k n V hk0 hk, by rw [← put_step k n V hk0 hk]; exact (hs _).1, hbel.setCell (Nat.le_refl _) _⟩
      case measure => simp [intOf]; omega
    · go_wp2
      go_ret
      obtain rfl : k = 0 := by omega
      exact ⟨_, _, _, rfl, by simpa using hown, hbel⟩

theorem put_none (V n : Int) (w : World) (hn : n < 0 ∨ 8 < n) :
    Calls Try.prog 9 #[.int .u64 V, .int .i64 n] w fun e w' => e = .returned (.slice none 0 0) ∧ w = w' := by
  rcases hn with hn | hn
  · go_enter Try.func9, Try.ntmps9
    go_wp2
    go_ret
    exact ⟨rfl, rfl⟩
  · have h0 : ¬ n < 0 := by omega
    go_enter Try.func9, Try.ntmps9
    go_wp2
    go_ret
    exact ⟨rfl, rfl⟩

theorem get_long (A : Option Addr) (n c : Nat) (w : World) (hn : 8 < n) (hm : n ≤ maxLen) :
    Calls Try.prog 10 #[.slice A n c] w fun e w' => e = .returned (.tuple #[.int .u64 0, .bool false]) ∧ w = w' := by
  unfold maxLen at hm
  go_enter Try.func10, Try.ntmps10
  go_wp2
  go_ret2
  exact ⟨rfl, rfl⟩

theorem get_step (xs : List UInt8) (k : Nat) (hk : k < xs.length) (h8 : k < 8) :
    bits .or .u64 (IntKind.u64.wrap ((getL (xs.take k) : Nat) * 256)) (IntKind.u64.wrap ((xs[k]?.getD 0).toNat : Int)) = (getL (xs.take (k + 1)) : Nat) := by
  have hg := getL_lt (xs.take k)
  rw [List.length_take, Nat.min_eq_left (by omega)] at hg
  have h7 : 256 ^ k ≤ 256 ^ 7 := Nat.pow_le_pow_right (by omega) (by omega)
  have hc := (xs[k]'hk).toNat_lt
  have e1 : IntKind.u64.wrap (((getL (xs.take k) : Nat) : Int) * 256) = ((getL (xs.take k) * 256 : Nat) : Int) := by
    rw [IntKind.wrap_u64]; omega
  have e2 : IntKind.u64.wrap ((xs[k]?.getD 0).toNat : Int) = (((xs[k]'hk).toNat : Nat) : Int) := by
    rw [IntKind.wrap_u64, List.getElem?_eq_getElem hk]; simp only [Option.getD_some]; omega
  rw [e1, e2, u64_or_nat _ _ (by omega) (by omega), nat_join 8 _ _ (by omega) (by omega), List.take_succ_eq_append_getElem hk, getL_snoc]

theorem get_any (A : Option Addr) (n c : Nat) (xs : List UInt8) (w : World) (hn : n ≤ 8) (h : Rd w A n c xs) :
    Calls Try.prog 10 #[.slice A n c] w fun e w' => e = .returned (.tuple #[.int .u64 (getL xs : Nat), .bool true]) ∧ w = w' := by
  go_enter Try.func10, Try.ntmps10
  go_wp2
  go_loop [4, 12] (fun v i => ∃ k : Nat, k ≤ n ∧ i = .int .i64 k ∧ v = .int .u64 (getL (xs.take k) : Nat)) (fun _ i => n - (intOf i).toNat)
  case atStart => exact ⟨0, Nat.zero_le _, rfl, rfl⟩
  case round =>
    obtain ⟨k, hk, rfl, rfl⟩ := hrel
    by_cases hlt : k < n
    · obtain ⟨b, off, rfl, hb, hcell⟩ := h.at_ (by omega)
      have hc := hcell k hlt
      clear hcell
      have hg := getL_lt (xs.take k)
      go_wp2
      go_round
      case rel =>
        exact ⟨k + 1, by omega, by go_num, by rw [get_step xs k (by have := h.len; omega) (by omega)]⟩
      case measure => simp [intOf]; omega
    · obtain rfl : k = n := by omega
      go_wp2
      go_ret2
      have e := h.len
      exact ⟨by rw [List.take_of_length_le (by omega)]; rfl, rfl⟩
end Go.Proofs.Ytgiocloegmpehaa
