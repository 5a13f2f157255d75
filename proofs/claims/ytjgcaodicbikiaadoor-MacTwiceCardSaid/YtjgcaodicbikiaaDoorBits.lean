/-
  Words of 32 bits as the walk spells them.
-/
import Derived.Test.YtjgcaodicbikiaaDoorSha
namespace Go.Proofs.YtjgcaodicbikiaaDoor.S2
set_option linter.unusedSimpArgs false
set_option linter.unusedVariables false
open Go.RowKit

theorem u32_lt (x : UInt32) : x.toNat < 4294967296 := x.toNat_lt
theorem u32_add (x y : UInt32) : IntKind.u32.wrap ((x.toNat : Int) + (y.toNat : Int)) = ((ad x y).toNat : Int) := by
  rw [IntKind.wrap_u32', ad, UInt32.toNat_add]; omega
theorem u32_sub (x y : UInt32) : IntKind.u32.wrap ((x.toNat : Int) - (y.toNat : Int)) = ((su x y).toNat : Int) := by
  have hx := u32_lt x
  have hy := u32_lt y
  rw [IntKind.wrap_u32', su, UInt32.toNat_sub]; omega
theorem u32_band (x y : UInt32) : bits .and .u32 (x.toNat : Int) (y.toNat : Int) = ((an x y).toNat : Int) := by
  rw [u32_and _ _ (by omega) (by have := u32_lt x; omega) (by omega) (by have := u32_lt y; omega)]; simp [an, xo]
theorem u32_bxor (x y : UInt32) : bits .xor .u32 (x.toNat : Int) (y.toNat : Int) = ((xo x y).toNat : Int) := by
  rw [u32_xor _ _ (by omega) (by have := u32_lt x; omega) (by omega) (by have := u32_lt y; omega)]; simp [an, xo]


theorem rot_nat (x n : Nat) (hx : x < 4294967296) (h0 : 0 < n) (h1 : n < 32) : (x / 2 ^ n) ||| (x * 2 ^ (32 - n) % 4294967296) = (x / 2 ^ n + x * 2 ^ (32 - n)) % 4294967296 := by
  obtain ⟨m, hm⟩ : ∃ m, m = 32 - n := ⟨_, rfl⟩
  have e32 : 2 ^ n * 2 ^ m = 4294967296 := by rw [← Nat.pow_add, show n + m = 32 by omega]
  have hp : 0 < 2 ^ n := Nat.two_pow_pos _
  have hq : 0 < 2 ^ m := Nat.two_pow_pos _
  rw [← hm]
  have e1 : x * 2 ^ m % 4294967296 = 2 ^ m * (x % 2 ^ n) := by rw [← e32, Nat.mul_mod_mul_right, Nat.mul_comm]
  have hlt : x / 2 ^ n < 2 ^ m := by
    rw [Nat.div_lt_iff_lt_mul hp, Nat.mul_comm, e32]; exact hx
  rw [e1, Nat.or_comm, ← Nat.two_pow_add_eq_or_of_lt hlt]
  have e2 : x * 2 ^ m = x / 2 ^ n * 4294967296 + 2 ^ m * (x % 2 ^ n) := by
    conv => lhs; rw [← Nat.div_add_mod x (2 ^ n)]
    rw [Nat.add_mul, ← e32, Nat.mul_comm (2 ^ n) (x / 2 ^ n), Nat.mul_assoc, Nat.mul_comm (x % 2 ^ n)]
  have h2 : 2 ^ m * (x % 2 ^ n) + x / 2 ^ n < 4294967296 := by
    have h3 : 2 ^ m * (x % 2 ^ n + 1) ≤ 2 ^ m * 2 ^ n := Nat.mul_le_mul_left _ (Nat.mod_lt _ hp)
    rw [Nat.mul_comm (2 ^ m) (2 ^ n), e32, Nat.mul_add] at h3
    omega
  rw [e2]
  omega
theorem rotr_toNat (x : UInt32) (n : Nat) : (rotr x n).toNat = (x.toNat / 2 ^ n + x.toNat * 2 ^ (32 - n)) % 4294967296 := by simp [rotr]
theorem rot_or (x : UInt32) (n : Nat) (h0 : 0 < n) (h1 : n < 32) : bits .or .u32 ((x.toNat : Int) / 2 ^ n) ((x.toNat : Int) * 2 ^ (32 - n) % 4294967296) = ((rotr x n).toNat : Int) := by
  have hx := u32_lt x
  have e1 : (x.toNat : Int) / 2 ^ n = ((x.toNat / 2 ^ n : Nat) : Int) := by simp
  have e2 : (x.toNat : Int) * 2 ^ (32 - n) % 4294967296 = ((x.toNat * 2 ^ (32 - n) % 4294967296 : Nat) : Int) := by simp
  have hl : x.toNat / 2 ^ n < 4294967296 := Nat.lt_of_le_of_lt (Nat.div_le_self _ _) hx
  rw [e1, e2, u32_or_nat _ _ hl (by omega), rot_nat _ _ hx h0 h1, rotr_toNat]
theorem rot_or' (x : UInt32) (n : Nat) (h0 : 0 < n) (h1 : n < 32) : bits .or .u32 ((x.toNat : Int) * 2 ^ (32 - n) % 4294967296) ((x.toNat : Int) / 2 ^ n) = ((rotr x n).toNat : Int) := by
  have hx := u32_lt x
  have e1 : (x.toNat : Int) / 2 ^ n = ((x.toNat / 2 ^ n : Nat) : Int) := by simp
  have e2 : (x.toNat : Int) * 2 ^ (32 - n) % 4294967296 = ((x.toNat * 2 ^ (32 - n) % 4294967296 : Nat) : Int) := by simp
  have hl : x.toNat / 2 ^ n < 4294967296 := Nat.lt_of_le_of_lt (Nat.div_le_self _ _) hx
  rw [e1, e2, u32_or_nat _ _ (by omega) hl, Nat.or_comm, rot_nat _ _ hx h0 h1, rotr_toNat]
theorem ret_i {k : IntKind} {a b : Int} (h : a = b) : Ending.returned (.int k a) = .returned (.int k b) := by rw [h]

theorem rrot_any (x : UInt32) (z : Int) (w : World) (h0 : 0 < z) (h1 : z < 32) :
    Calls Tryd.prog 42 #[.int .u32 (x.toNat : Int), .int .u32 z] w fun e w' => e = .returned (.int .u32 ((rotr x z.toNat).toNat : Int)) ∧ w = w' := by
  obtain ⟨n, rfl⟩ := Int.eq_ofNat_of_zero_le (by omega : 0 ≤ z)
  have h0 : 0 < n := by omega
  have h1 : n < 32 := by omega
  go_enter Tryd.func42, Tryd.ntmps42
  go_wp2
  go_ret
  exact ⟨ret_i (rot_or x n h0 h1), rfl⟩
theorem neg_and (n : Nat) (h0 : 0 < n) (h1 : n < 32) : bits .and .u64 (IntKind.u64.wrap (-(n : Int))) 31 = ((32 - n : Nat) : Int) := by
  have e : IntKind.u64.wrap (-(n : Int)) = ((18446744073709551616 - n : Nat) : Int) := by rw [IntKind.wrap_u64]; omega
  rw [e, u64_and _ _ (by omega) (by omega) (by omega) (by omega), Int.toNat_natCast]
  show ((_ &&& (2 ^ 5 - 1) : Nat) : Int) = _
  rw [Nat.and_two_pow_sub_one_eq_mod]
  omega
theorem rol_any (x : UInt32) (n : Nat) (w : World) (h0 : 0 < n) (h1 : n < 32) :
    Calls Tryd.prog 58 #[.int .u32 (x.toNat : Int), .int .i64 (-(n : Int))] w fun e w' => e = .returned (.int .u32 ((rotr x n).toNat : Int)) ∧ w = w' := by
  have hb := neg_and n h0 h1
  have hn : ((32 - n : Nat) : Int) = 32 - (n : Int) := by omega
  have ht : (32 - (n : Int)).toNat = 32 - n := by omega
  have ht2 : (32 - (32 - (n : Int))) = n := by omega
  have i0 : (0 : Int) < n := by omega
  have i1 : (n : Int) < 32 := by omega
  rw [hn] at hb
  clear hn
  go_enter Tryd.func58, Tryd.ntmps58
  go_wp2
  go_ret
  exact ⟨ret_i (rot_or' x n h0 h1), rfl⟩
theorem right_any (x : UInt32) (z : Int) (w : World) (h0 : 0 < z) (h1 : z < 32) :
    Calls Tryd.prog 54 #[.int .u32 (x.toNat : Int), .int .i64 z] w fun e w' => e = .returned (.int .u32 ((rotr x z.toNat).toNat : Int)) ∧ w = w' := by
  obtain ⟨n, rfl⟩ := Int.eq_ofNat_of_zero_le (by omega : 0 ≤ z)
  have g0 : 0 < n := by omega
  have g1 : n < 32 := by omega
  go_enter Tryd.func54, Tryd.ntmps54
  go_wp2_with (go_at_call 58; refine (rol_any x n _ g0 g1).mono ?_; rintro e w' ⟨rfl, rfl⟩)
  go_ret
  exact ⟨rfl, rfl⟩

theorem u32_shr3 (x : UInt32) : (x.toNat : Int) / 8 = ((shr x 3).toNat : Int) := by have := u32_lt x; simp [shr]; omega
theorem u32_shr10 (x : UInt32) : (x.toNat : Int) / 1024 = ((shr x 10).toNat : Int) := by have := u32_lt x; simp [shr]; omega

section
attribute [local go_sem] u32_add u32_sub u32_band u32_bxor u32_shr3 u32_shr10
theorem mixLate_any (x : UInt32) (w : World) :
    Calls Tryd.prog 52 #[.int .u32 (x.toNat : Int)] w fun e w' => e = .returned (.int .u32 ((smL x).toNat : Int)) ∧ w = w' := by
  go_enter Tryd.func52, Tryd.ntmps52
  go_wp2_with (go_at_call 54; refine (right_any x _ _ (by omega) (by omega)).mono ?_; rintro e w' ⟨rfl, rfl⟩)
  go_ret
  exact ⟨rfl, rfl⟩
theorem mixEarly_any (x : UInt32) (w : World) :
    Calls Tryd.prog 53 #[.int .u32 (x.toNat : Int)] w fun e w' => e = .returned (.int .u32 ((smE x).toNat : Int)) ∧ w = w' := by
  go_enter Tryd.func53, Tryd.ntmps53
  go_wp2_with (go_at_call 54; refine (right_any x _ _ (by omega) (by omega)).mono ?_; rintro e w' ⟨rfl, rfl⟩)
  go_ret
  exact ⟨rfl, rfl⟩
theorem mixA_any (x : UInt32) (w : World) :
    Calls Tryd.prog 47 #[.int .u32 (x.toNat : Int)] w fun e w' => e = .returned (.int .u32 ((bgA x).toNat : Int)) ∧ w = w' := by
  go_enter Tryd.func47, Tryd.ntmps47
  go_wp2_with (go_at_call 54; refine (right_any x _ _ (by omega) (by omega)).mono ?_; rintro e w' ⟨rfl, rfl⟩)
  go_ret
  exact ⟨rfl, rfl⟩
theorem mixE_any (x : UInt32) (w : World) :
    Calls Tryd.prog 46 #[.int .u32 (x.toNat : Int)] w fun e w' => e = .returned (.int .u32 ((bgE x).toNat : Int)) ∧ w = w' := by
  go_enter Tryd.func46, Tryd.ntmps46
  go_wp2_with (go_at_call 54; refine (right_any x _ _ (by omega) (by omega)).mono ?_; rintro e w' ⟨rfl, rfl⟩)
  go_ret
  exact ⟨rfl, rfl⟩
end
end Go.Proofs.YtjgcaodicbikiaaDoor.S2
