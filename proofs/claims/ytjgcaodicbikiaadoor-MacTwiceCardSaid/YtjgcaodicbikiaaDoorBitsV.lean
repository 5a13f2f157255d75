/-
  Words of 64 bits as the walk spells them.
-/
import Derived.Test.YtjgcaodicbikiaaDoorShaV
namespace Go.Proofs.YtjgcaodicbikiaaDoor.S5
set_option linter.unusedSimpArgs false
set_option linter.unusedVariables false
open Go.RowKit

theorem u64_lt (x : UInt64) : x.toNat < 18446744073709551616 := x.toNat_lt
theorem u64_add (x y : UInt64) : IntKind.u64.wrap ((x.toNat : Int) + (y.toNat : Int)) = ((ad x y).toNat : Int) := by
  rw [IntKind.wrap_u64, ad, UInt64.toNat_add]; omega
theorem u64_sub (x y : UInt64) : IntKind.u64.wrap ((x.toNat : Int) - (y.toNat : Int)) = ((su x y).toNat : Int) := by
  have hx := u64_lt x
  have hy := u64_lt y
  rw [IntKind.wrap_u64, su, UInt64.toNat_sub]; omega
theorem u64_band (x y : UInt64) : bits .and .u64 (x.toNat : Int) (y.toNat : Int) = ((an x y).toNat : Int) := by
  rw [u64_and _ _ (by omega) (by have := u64_lt x; omega) (by omega) (by have := u64_lt y; omega)]; simp [an, xo]
theorem u64_bxor (x y : UInt64) : bits .xor .u64 (x.toNat : Int) (y.toNat : Int) = ((xo x y).toNat : Int) := by
  rw [u64_xor _ _ (by omega) (by have := u64_lt x; omega) (by omega) (by have := u64_lt y; omega)]; simp [an, xo]


theorem rot_nat (x n : Nat) (hx : x < 18446744073709551616) (h0 : 0 < n) (h1 : n < 64) : (x / 2 ^ n) ||| (x * 2 ^ (64 - n) % 18446744073709551616) = (x / 2 ^ n + x * 2 ^ (64 - n)) % 18446744073709551616 := by
  obtain ⟨m, hm⟩ : ∃ m, m = 64 - n := ⟨_, rfl⟩
  have e64 : 2 ^ n * 2 ^ m = 18446744073709551616 := by rw [← Nat.pow_add, show n + m = 64 by omega]
  have hp : 0 < 2 ^ n := Nat.two_pow_pos _
  have hq : 0 < 2 ^ m := Nat.two_pow_pos _
  rw [← hm]
  have e1 : x * 2 ^ m % 18446744073709551616 = 2 ^ m * (x % 2 ^ n) := by rw [← e64, Nat.mul_mod_mul_right, Nat.mul_comm]
  have hlt : x / 2 ^ n < 2 ^ m := by
    rw [Nat.div_lt_iff_lt_mul hp, Nat.mul_comm, e64]; exact hx
  rw [e1, Nat.or_comm, ← Nat.two_pow_add_eq_or_of_lt hlt]
  have e2 : x * 2 ^ m = x / 2 ^ n * 18446744073709551616 + 2 ^ m * (x % 2 ^ n) := by
    conv => lhs; rw [← Nat.div_add_mod x (2 ^ n)]
    rw [Nat.add_mul, ← e64, Nat.mul_comm (2 ^ n) (x / 2 ^ n), Nat.mul_assoc, Nat.mul_comm (x % 2 ^ n)]
  have h2 : 2 ^ m * (x % 2 ^ n) + x / 2 ^ n < 18446744073709551616 := by
    have h3 : 2 ^ m * (x % 2 ^ n + 1) ≤ 2 ^ m * 2 ^ n := Nat.mul_le_mul_left _ (Nat.mod_lt _ hp)
    rw [Nat.mul_comm (2 ^ m) (2 ^ n), e64, Nat.mul_add] at h3
    omega
  rw [e2]
  omega
theorem rotr_toNat (x : UInt64) (n : Nat) : (rotr x n).toNat = (x.toNat / 2 ^ n + x.toNat * 2 ^ (64 - n)) % 18446744073709551616 := by simp [rotr]
theorem rot_or (x : UInt64) (n : Nat) (h0 : 0 < n) (h1 : n < 64) : bits .or .u64 ((x.toNat : Int) / 2 ^ n) ((x.toNat : Int) * 2 ^ (64 - n) % 18446744073709551616) = ((rotr x n).toNat : Int) := by
  have hx := u64_lt x
  have e1 : (x.toNat : Int) / 2 ^ n = ((x.toNat / 2 ^ n : Nat) : Int) := by simp
  have e2 : (x.toNat : Int) * 2 ^ (64 - n) % 18446744073709551616 = ((x.toNat * 2 ^ (64 - n) % 18446744073709551616 : Nat) : Int) := by simp
  have hl : x.toNat / 2 ^ n < 18446744073709551616 := Nat.lt_of_le_of_lt (Nat.div_le_self _ _) hx
  rw [e1, e2, u64_or_nat _ _ hl (by omega), rot_nat _ _ hx h0 h1, rotr_toNat]
theorem rot_or' (x : UInt64) (n : Nat) (h0 : 0 < n) (h1 : n < 64) : bits .or .u64 ((x.toNat : Int) * 2 ^ (64 - n) % 18446744073709551616) ((x.toNat : Int) / 2 ^ n) = ((rotr x n).toNat : Int) := by
  have hx := u64_lt x
  have e1 : (x.toNat : Int) / 2 ^ n = ((x.toNat / 2 ^ n : Nat) : Int) := by simp
  have e2 : (x.toNat : Int) * 2 ^ (64 - n) % 18446744073709551616 = ((x.toNat * 2 ^ (64 - n) % 18446744073709551616 : Nat) : Int) := by simp
  have hl : x.toNat / 2 ^ n < 18446744073709551616 := Nat.lt_of_le_of_lt (Nat.div_le_self _ _) hx
  rw [e1, e2, u64_or_nat _ _ (by omega) hl, Nat.or_comm, rot_nat _ _ hx h0 h1, rotr_toNat]
theorem ret_i {k : IntKind} {a b : Int} (h : a = b) : Ending.returned (.int k a) = .returned (.int k b) := by rw [h]

theorem rrot_any (x : UInt64) (z : Int) (w : World) (h0 : 0 < z) (h1 : z < 64) :
    Calls Tryd.prog 44 #[.int .u64 (x.toNat : Int), .int .u64 z] w fun e w' => e = .returned (.int .u64 ((rotr x z.toNat).toNat : Int)) ∧ w = w' := by
  obtain ⟨n, rfl⟩ := Int.eq_ofNat_of_zero_le (by omega : 0 ≤ z)
  have h0 : 0 < n := by omega
  have h1 : n < 64 := by omega
  go_enter Tryd.func44, Tryd.ntmps44
  go_wp2
  go_ret
  exact ⟨ret_i (rot_or x n h0 h1), rfl⟩
theorem neg_and (n : Nat) (h0 : 0 < n) (h1 : n < 64) : bits .and .u64 (IntKind.u64.wrap (-(n : Int))) 63 = ((64 - n : Nat) : Int) := by
  have e : IntKind.u64.wrap (-(n : Int)) = ((18446744073709551616 - n : Nat) : Int) := by rw [IntKind.wrap_u64]; omega
  rw [e, u64_and _ _ (by omega) (by omega) (by omega) (by omega), Int.toNat_natCast]
  show ((_ &&& (2 ^ 6 - 1) : Nat) : Int) = _
  rw [Nat.and_two_pow_sub_one_eq_mod]
  omega
theorem rol_any (x : UInt64) (n : Nat) (w : World) (h0 : 0 < n) (h1 : n < 64) :
    Calls Tryd.prog 62 #[.int .u64 (x.toNat : Int), .int .i64 (-(n : Int))] w fun e w' => e = .returned (.int .u64 ((rotr x n).toNat : Int)) ∧ w = w' := by
  have hb := neg_and n h0 h1
  have hn : ((64 - n : Nat) : Int) = 64 - (n : Int) := by omega
  have ht : (64 - (n : Int)).toNat = 64 - n := by omega
  have ht2 : (64 - (64 - (n : Int))) = n := by omega
  have i0 : (0 : Int) < n := by omega
  have i1 : (n : Int) < 64 := by omega
  rw [hn] at hb
  clear hn
  go_enter Tryd.func62, Tryd.ntmps62
  go_wp2
  go_ret
  exact ⟨ret_i (rot_or' x n h0 h1), rfl⟩
theorem right_any (x : UInt64) (z : Int) (w : World) (h0 : 0 < z) (h1 : z < 64) :
    Calls Tryd.prog 61 #[.int .u64 (x.toNat : Int), .int .i64 z] w fun e w' => e = .returned (.int .u64 ((rotr x z.toNat).toNat : Int)) ∧ w = w' := by
  obtain ⟨n, rfl⟩ := Int.eq_ofNat_of_zero_le (by omega : 0 ≤ z)
  have g0 : 0 < n := by omega
  have g1 : n < 64 := by omega
  go_enter Tryd.func61, Tryd.ntmps61
  go_wp2_with (go_at_call 62; refine (rol_any x n _ g0 g1).mono ?_; rintro e w' ⟨rfl, rfl⟩)
  go_ret
  exact ⟨rfl, rfl⟩

theorem u64_shr7 (x : UInt64) : (x.toNat : Int) / 128 = ((shr x 7).toNat : Int) := by have := u64_lt x; simp [shr]; omega
theorem u64_shr6 (x : UInt64) : (x.toNat : Int) / 64 = ((shr x 6).toNat : Int) := by have := u64_lt x; simp [shr]; omega

section
attribute [local go_sem] u64_add u64_sub u64_band u64_bxor u64_shr7 u64_shr6
theorem mixLate_any (x : UInt64) (w : World) :
    Calls Tryd.prog 59 #[.int .u64 (x.toNat : Int)] w fun e w' => e = .returned (.int .u64 ((smL x).toNat : Int)) ∧ w = w' := by
  go_enter Tryd.func59, Tryd.ntmps59
  go_wp2_with (go_at_call 61; refine (right_any x _ _ (by omega) (by omega)).mono ?_; rintro e w' ⟨rfl, rfl⟩)
  go_ret
  exact ⟨rfl, rfl⟩
theorem mixEarly_any (x : UInt64) (w : World) :
    Calls Tryd.prog 60 #[.int .u64 (x.toNat : Int)] w fun e w' => e = .returned (.int .u64 ((smE x).toNat : Int)) ∧ w = w' := by
  go_enter Tryd.func60, Tryd.ntmps60
  go_wp2_with (go_at_call 61; refine (right_any x _ _ (by omega) (by omega)).mono ?_; rintro e w' ⟨rfl, rfl⟩)
  go_ret
  exact ⟨rfl, rfl⟩
theorem mixA_any (x : UInt64) (w : World) :
    Calls Tryd.prog 57 #[.int .u64 (x.toNat : Int)] w fun e w' => e = .returned (.int .u64 ((bgA x).toNat : Int)) ∧ w = w' := by
  go_enter Tryd.func57, Tryd.ntmps57
  go_wp2_with (go_at_call 61; refine (right_any x _ _ (by omega) (by omega)).mono ?_; rintro e w' ⟨rfl, rfl⟩)
  go_ret
  exact ⟨rfl, rfl⟩
theorem mixE_any (x : UInt64) (w : World) :
    Calls Tryd.prog 56 #[.int .u64 (x.toNat : Int)] w fun e w' => e = .returned (.int .u64 ((bgE x).toNat : Int)) ∧ w = w' := by
  go_enter Tryd.func56, Tryd.ntmps56
  go_wp2_with (go_at_call 61; refine (right_any x _ _ (by omega) (by omega)).mono ?_; rintro e w' ⟨rfl, rfl⟩)
  go_ret
  exact ⟨rfl, rfl⟩
end
end Go.Proofs.YtjgcaodicbikiaaDoor.S5
