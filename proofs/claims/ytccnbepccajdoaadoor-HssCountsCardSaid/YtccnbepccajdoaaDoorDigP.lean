/-
  Digits by their places, in plain words: the digit k of byte i; a byte raised by one digit's one. No statement is proved here.
-/
import Derived.Test.YtccnbepccajdoaaDoorDig
namespace Go.Proofs.YtccnbepccajdoaaDoor.S7
set_option linter.unusedSimpArgs false
set_option linter.unusedVariables false
set_option maxRecDepth 1024

theorem ofL_pos (w : Nat) (hw : wid w) (xs : List UInt8) (i k : Nat) (hi : i < xs.length) (hk : k < 8 / w) : (ofL w xs)[i * (8 / w) + k]? = some (dg w (xs.getD i 0).toNat k) := by
  have h9 : 0 < 8 / w := by omega
  have hl : i * (8 / w) + k < xs.length * (8 / w) := by
    have : (i + 1) * (8 / w) ≤ xs.length * (8 / w) := Nat.mul_le_mul_right _ hi
    rw [Nat.succ_mul] at this
    omega
  have hc : ∀ q, w * q / 8 = q / (8 / w) ∧ w * q % 8 / w = q % (8 / w) := by
    intro q
    rcases hw with h | h | h | h <;> subst h <;> simp <;> omega
  rw [ofL_at w hw xs _ hl, (hc _).1, (hc _).2]
  have e1 : (i * (8 / w) + k) / (8 / w) = i := by
    rw [Nat.mul_comm, Nat.mul_add_div h9, Nat.div_eq_of_lt hk, Nat.add_zero]
  have e2 : (i * (8 / w) + k) % (8 / w) = k := by
    rw [Nat.mul_comm, Nat.mul_add_mod, Nat.mod_eq_of_lt hk]
  rw [e1, e2]
theorem ofB_take (w x k : Nat) (hk : k < 8 / w) : (ofB w x).take (k + 1) = (ofB w x).take k ++ [dg w x k] := by
  rw [List.take_add_one]
  simp [ofB, hk]
theorem val_le (w x k : Nat) (hw : wid w) (hx : x < 256) (hk : k ≤ 8 / w) : val (2 ^ w) ((ofB w x).take k) ≤ x := by
  have h8 := wid_div hw
  have hwk : w * k ≤ 8 := by
    have := Nat.mul_le_mul_left w hk
    omega
  have e : (ofB w x).take k = (List.range k).map fun i => x / 2 ^ (8 - w * (i + 1)) % 2 ^ w := by
    unfold ofB
    rw [← List.map_take, List.take_range, Nat.min_eq_left hk]
    rfl
  rw [e, val_take w 8 x k hwk hx]
  exact Nat.div_le_self _ _
theorem lk_bound (w : Nat) (hw : wid w) (ds : List Nat) (j : Nat) : lk w (ds.take j) ≤ 255 * ds.length := by
  have h1 := lk_le w (ds.take j)
  have h2 : (2 ^ w - 1) ≤ 255 := by rcases hw with h | h | h | h <;> subst h <;> decide
  exact Nat.le_trans h1 (Nat.mul_le_mul h2 (by rw [List.length_take]; omega))
theorem lk_step (w : Nat) (xs : List Nat) (j d : Nat) (h : xs[j]? = some d) : lk w (xs.take (j + 1)) = lk w (xs.take j) + (2 ^ w - 1 - d) := by
  rw [List.take_add_one, h, lk_append]
  simp [lk]
end Go.Proofs.YtccnbepccajdoaaDoor.S7
