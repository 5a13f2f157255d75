/-
  What octet.Put does: numbers as bytes.
-/
import Derived.Test.YtbkafkpnohbccaaDoorWords
namespace Go.Proofs.YtbkafkpnohbccaaDoor
set_option linter.unusedSimpArgs false
set_option linter.unusedVariables false
open Go.RowKit

theorem put_step (k n V : Nat) (hk : 0 < k) (hn : k ≤ n) :
    (bv (List.replicate k 0 ++ putL V (n - k))).set (k - 1) (.int .u8 ((V : Int) / 256 ^ (n - k) % 256)) = bv (List.replicate (k - 1) 0 ++ putL V (n - (k - 1))) := by
  obtain ⟨k, rfl⟩ : ∃ m, k = m + 1 := ⟨k - 1, by omega⟩
  have e : n - (k + 1 - 1) = (n - (k + 1)) + 1 := by omega
  have hv : ((V : Int) / 256 ^ (n - (k + 1)) % 256) = ((UInt8.ofNat (V / 256 ^ (n - (k + 1)))).toNat : Int) := by simp
  rw [hv, bv_set, e, putL]
  congr 1
  rw [show k + 1 - 1 = k from rfl, List.replicate_succ', List.append_assoc, List.set_append_right _ _ (by simp)]
  simp

theorem put_next (k n V : Nat) (hk : 0 < k) (hn : k ≤ n) : Value.int .u64 ((V : Int) / 256 ^ (n - k) / 256) = .int .u64 ((V / 256 ^ (n - (k - 1)) : Nat) : Int) := by
  have e : n - (k - 1) = (n - k) + 1 := by omega
  rw [e, Nat.pow_succ, ← Nat.div_div_eq_div_mul]
  simp

/-- octet.Put, n in 0 to 8: n bytes in new memory. -/
theorem put_any (V n : Nat) (w : World) (hn : n ≤ 8) (hV : V < 18446744073709551616) :
    Calls Tryd.prog 30 #[.int .u64 (V : Int), .int .i64 (n : Int)] w (New w.heap.size w (putL V n)) := by
  obtain ⟨i0, hi, hz0, hz1, hz2⟩ := info_parts Tryd.infoU8
  go_enter Tryd.func30, Tryd.ntmps30
  go_wp2_with (at_make; refine wpList_make_full _ rfl _ _ 47 rfl w.heap.size 5 i0 (.int .u8 0) 1 Tryd.underlying47 hi hz0 hz1 _ _ _ _ n rfl rfl rfl rfl ?b2 ?b3 (Nat.le_refl _) ?_)
  case b2 => rw [hz2]; omega
  case b3 => unfold maxLen; omega
  intro w0 hown0 hgrow0
  rw [bv_zero] at hown0
  have hb0 : Below w.heap.size w w0 := (Below.refl _ _).grown hgrow0 (Nat.le_refl _) (fun k h => by cases h)
  clear hgrow0
  go_wp2
  go_loopw [0, 6] (fun v i wr => ∃ k : Nat, k ≤ n ∧ i = .int .i64 ((k : Int) - 1) ∧ v = .int .u64 ((V / 256 ^ (n - k) : Nat) : Int) ∧
      wr.ownsRow w.heap.size 5 1 (.slice (some ⟨w.heap.size, 0, none⟩) n n) n (bv (List.replicate k 0 ++ putL V (n - k))) ∧ Below w.heap.size w wr)
    (fun _ i _ => (intOf i + 1).toNat)
  case atStart => exact ⟨n, Nat.le_refl _, rfl, by simp, by simpa [putL] using hown0, hb0⟩
  case round =>
    obtain ⟨k, hk, rfl, rfl, hown, hbel⟩ := hrel
    by_cases hk0 : 0 < k
    · have hc := hown.cellAt (k - 1) (by omega)
      have hf := hown.frozenAt (k - 1)
      have hs := hown.stored (k - 1)
      rw [bv_at _ _ (by simp [putL_length]; omega)] at hc
      go_wp2
      go_roundw
      case rel =>
        exact ⟨k - 1, by omega, by go_num, put_next k n V hk0 hk, by rw [← put_step k n V hk0 hk]; exact (hs _).1, hbel.setCell (Nat.le_refl _) _⟩
      case measure => simp [intOf]; omega
    · go_wp2
      go_ret
      obtain rfl : k = 0 := by omega
      exact ⟨_, _, _, rfl, by simpa using hown, hbel⟩
end Go.Proofs.YtbkafkpnohbccaaDoor
