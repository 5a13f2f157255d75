/-
  A sector's bytes as the statements of layer 19 lay them. No statement is proved here.
-/
import Derived.Test.YtammgingmkdfhaaDk2
namespace Go.Proofs.Ytammgingmkdfhaa.S19
set_option linter.unusedSimpArgs false
set_option linter.unusedVariables false
set_option maxRecDepth 4096
open Go.RowKit

def rowL (c : UInt8) (n : Nat) : List UInt8 := (List.range n).map fun i => UInt8.ofNat (c.toNat + i)
theorem rowL_len (c : UInt8) (n : Nat) : (rowL c n).length = n := by simp [rowL]
theorem rowL_at (c : UInt8) (n i : Nat) (h : i < n) : (rowL c n).getD i 0 = UInt8.ofNat (c.toNat + i) := by simp [rowL, List.getD, h]
theorem rowL_step (c : UInt8) (n k : Nat) (hk : k < n) : ((rowL c n).take k ++ List.replicate (n - k) 0).set k (UInt8.ofNat (c.toNat + k)) = (rowL c n).take (k + 1) ++ List.replicate (n - (k + 1)) 0 := by
  have hl := rowL_len c n
  rw [List.set_append_right _ _ (by simp [hl]; omega)]
  have e1 : k - ((rowL c n).take k).length = 0 := by simp [hl]; omega
  rw [e1, show n - k = (n - (k + 1)) + 1 by omega, List.replicate_succ, List.set_cons_zero, List.take_add_one, List.append_assoc]
  congr 1
  have : (rowL c n)[k]? = some (UInt8.ofNat (c.toNat + k)) := by simp [rowL, hk]
  rw [this]
  rfl
def rowN (s : Bool) : Nat := if s = true then 63 else 64
set_option maxHeartbeats 1000000 in
theorem row_any (c : UInt8) (s : Bool) (w : World) : Calls Try.prog 16 #[.int .u8 (c.toNat : Int), .bool s] w (New w.heap.size w (rowL c (rowN s))) := by
  obtain ⟨i0, hi, hz0, hz1, hz2⟩ := info_parts Try.infoU8
  have hN : rowN s = if s then 63 else 64 := rfl
  obtain ⟨n, hn⟩ : ∃ n, n = rowN s := ⟨_, rfl⟩
  have n1 : n ≤ 64 := by rw [hn, hN]; split <;> omega
  rw [← hn]
  have core : ∀ a : Act, ∀ Q : Exit → Act → World → Prop, True := fun _ _ => trivial
  have hs : s = true ∧ n = 63 ∨ s = false ∧ n = 64 := by cases s <;> simp [hn, hN]
  clear hN hn core
  rcases hs with ⟨rfl, rfl⟩ | ⟨rfl, rfl⟩
  · go_enter Try.func16, Try.ntmps16
    go_wp2_with (at_make; refine wpList_make_full _ rfl _ _ 30 rfl w.heap.size 5 i0 (.int .u8 0) 1 Try.underlying30 hi hz0 hz1 _ _ _ _ _ rfl rfl rfl rfl (by rw [hz2]; decide) (by unfold maxLen; decide) (Nat.le_refl _) ?_)
    intro w0 hown0 hgrow0
    rw [bv_zero] at hown0
    have hb0 : Below w.heap.size w w0 := (Below.refl _ _).grown hgrow0 (Nat.le_refl _) (fun k h => by cases h)
    clear hgrow0
    go_wp2
    go_loopw [7] (fun i wr => ∃ k : Nat, k ≤ 63 ∧ i = .int .i64 (k : Int) ∧ wr.ownsRow w.heap.size 5 1 (.slice (some ⟨w.heap.size, 0, none⟩) 63 63) 63 (bv ((rowL c 63).take k ++ List.replicate (63 - k) 0)) ∧ Below w.heap.size w wr)
      (fun i _ => 63 - (intOf i).toNat)
    case atStart => exact ⟨0, by omega, rfl, by simpa using hown0, hb0⟩
    case round =>
      obtain ⟨k, hk, rfl, hown, hbel⟩ := hrel
      by_cases hk0 : k < 63
      · have hc := hown.cellAt k (by omega)
        have hf := hown.frozenAt k
        have hs := hown.stored k
        rw [bv_at _ _ (by simp [rowL_len]; omega)] at hc
        obtain ⟨u, hu⟩ : ∃ u, u = UInt8.ofNat (c.toNat + k) := ⟨_, rfl⟩
        have e3 : ((c.toNat : Int) + (k : Int)) % 256 = (u.toNat : Int) := by rw [hu]; simp
        have e1 : ((c.toNat : Int) + (k : Int) % 256) % 256 = (u.toNat : Int) := by rw [← e3]; omega
        have e2 : IntKind.u8.wrap ((c.toNat : Int) + (k : Int)) = (u.toNat : Int) := by rw [IntKind.wrap_u8]; exact e3
        have HU := Lib.hid hu
        clear hu
        go_wp2
        go_roundw
        case rel => exact ⟨k + 1, by omega, by go_num, by rw [← rowL_step c 63 k hk0, ← HU.out, ← bv_set]; exact (hs _).1, hbel.setCell (Nat.le_refl _) _⟩
        case measure => simp [intOf]; omega
      · obtain rfl : k = 63 := by omega
        go_wp2
        go_ret
        exact ⟨_, _, _, rfl, by rw [List.take_of_length_le (by rw [rowL_len]; omega)] at hown; simpa using hown, hbel⟩
  · go_enter Try.func16, Try.ntmps16
    go_wp2_with (at_make; refine wpList_make_full _ rfl _ _ 30 rfl w.heap.size 5 i0 (.int .u8 0) 1 Try.underlying30 hi hz0 hz1 _ _ _ _ _ rfl rfl rfl rfl (by rw [hz2]; decide) (by unfold maxLen; decide) (Nat.le_refl _) ?_)
    intro w0 hown0 hgrow0
    rw [bv_zero] at hown0
    have hb0 : Below w.heap.size w w0 := (Below.refl _ _).grown hgrow0 (Nat.le_refl _) (fun k h => by cases h)
    clear hgrow0
    go_wp2
    go_loopw [7] (fun i wr => ∃ k : Nat, k ≤ 64 ∧ i = .int .i64 (k : Int) ∧ wr.ownsRow w.heap.size 5 1 (.slice (some ⟨w.heap.size, 0, none⟩) 64 64) 64 (bv ((rowL c 64).take k ++ List.replicate (64 - k) 0)) ∧ Below w.heap.size w wr)
      (fun i _ => 64 - (intOf i).toNat)
    case atStart => exact ⟨0, by omega, rfl, by simpa using hown0, hb0⟩
    case round =>
      obtain ⟨k, hk, rfl, hown, hbel⟩ := hrel
      by_cases hk0 : k < 64
      · have hc := hown.cellAt k (by omega)
        have hf := hown.frozenAt k
        have hs := hown.stored k
        rw [bv_at _ _ (by simp [rowL_len]; omega)] at hc
        obtain ⟨u, hu⟩ : ∃ u, u = UInt8.ofNat (c.toNat + k) := ⟨_, rfl⟩
        have e3 : ((c.toNat : Int) + (k : Int)) % 256 = (u.toNat : Int) := by rw [hu]; simp
        have e1 : ((c.toNat : Int) + (k : Int) % 256) % 256 = (u.toNat : Int) := by rw [← e3]; omega
        have e2 : IntKind.u8.wrap ((c.toNat : Int) + (k : Int)) = (u.toNat : Int) := by rw [IntKind.wrap_u8]; exact e3
        have HU := Lib.hid hu
        clear hu
        go_wp2
        go_roundw
        case rel => exact ⟨k + 1, by omega, by go_num, by rw [← rowL_step c 64 k hk0, ← HU.out, ← bv_set]; exact (hs _).1, hbel.setCell (Nat.le_refl _) _⟩
        case measure => simp [intOf]; omega
      · obtain rfl : k = 64 := by omega
        go_wp2
        go_ret
        exact ⟨_, _, _, rfl, by rw [List.take_of_length_le (by rw [rowL_len]; omega)] at hown; simpa using hown, hbel⟩
end Go.Proofs.Ytammgingmkdfhaa.S19
