/-
  What the document's own calls of layer 1 do: Same, Get, Put, Fill.
-/
import Derived.Test.YtgiocloegmpehaaOct5
import Derived.Deep.Draws
namespace Go.Proofs.Ytgiocloegmpehaa
set_option linter.unusedSimpArgs false
set_option linter.unusedVariables false
open Go.RowKit

theorem take_next {xs ys : List UInt8} {k : Nat} (h : xs.take k = ys.take k) (hx : k < xs.length) (hy : k < ys.length) (he : xs[k]?.getD 0 = ys[k]?.getD 0) : xs.take (k + 1) = ys.take (k + 1) := by
  rw [List.take_succ_eq_append_getElem hx, List.take_succ_eq_append_getElem hy, h]
  simp [hx, hy] at he
  rw [he]

set_option maxHeartbeats 1000000 in
theorem rsame_any (A A' : Option Addr) (n c n' c' : Nat) (xs ys : List UInt8) (w : World) (h1 : Rd w A n c xs) (h2 : Rd w A' n' c' ys) :
    Calls Try.prog 12 #[.slice A n c, .slice A' n' c'] w fun e w' => e = .returned (.bool (sameB xs ys)) ∧ ∃ q, w' = w.drewN q := by
  have l1 : n ≤ maxLen := Nat.le_trans h1.cap h1.max
  have l2 : n' ≤ maxLen := Nat.le_trans h2.cap h2.max
  unfold maxLen at l1 l2
  have e1 := h1.len
  have e2 := h2.len
  by_cases hnn : n = n'
  · subst hnn
    have E1 := Lib.hid e1
    have E2 := Lib.hid e2
    clear e1 e2
    go_enter Try.func12, Try.ntmps12
    go_wp2
    go_loopw [5] (fun i wr => ∃ k q : Nat, k ≤ n ∧ i = .int .i64 (k : Int) ∧ wr = w.drewN q ∧ xs.take k = ys.take k) (fun i _ => n - (intOf i).toNat)
    case atStart => exact ⟨0, 0, Nat.zero_le _, rfl, rfl, rfl⟩
    case round =>
      obtain ⟨k, q, hk, rfl, rfl, hpre⟩ := hrel
      have HP := Lib.hid hpre
      clear hpre
      by_cases hlt : k < n
      · obtain ⟨b1, o1, rfl, hb1, hc1⟩ := h1.at_ (by omega)
        obtain ⟨b2, o2, rfl, hb2, hc2⟩ := h2.at_ (by omega)
        have g1 := hc1 k hlt
        have g2 := hc2 k hlt
        have hki : (k : Int) < n := by omega
        simp only [List.getD_eq_getElem?_getD] at g1 g2
        clear hc1 hc2
        by_cases heq : xs[k]?.getD 0 = ys[k]?.getD 0
        · have HE := Lib.hid heq
          have ht : (((xs[k]?.getD 0).toNat : Int) != ((ys[k]?.getD 0).toNat : Int)) = false := by rw [heq]; simp
          clear heq
          go_wp2
          go_region
          go_wp2
          go_roundw
          case rel => exact ⟨k + 1, q + 1, by omega, by go_num, rfl, take_next HP.out (by have := E1.out; omega) (by have := E2.out; omega) HE.out⟩
          case measure => simp [intOf]; omega
        · have hne : sameB xs ys = false := by
            simp only [sameB, beq_eq_false_iff_ne]
            intro e; rw [e] at heq; exact heq rfl
          have ht : (((xs[k]?.getD 0).toNat : Int) != ((ys[k]?.getD 0).toNat : Int)) = true := by
            simp only [bne_iff_ne, ne_eq]
            intro e
            exact heq (UInt8.toNat_inj.1 (by omega))
          have HN := Lib.hid hne
          clear heq hne
          go_wp2
          go_region
          go_wp2
          go_ret
          exact ⟨by rw [HN.out]; rfl, q + 1, rfl⟩
      · obtain rfl : k = n := by omega
        have hs : sameB xs ys = true := by
          have hp := HP.out
          rw [List.take_of_length_le (by have := E1.out; omega), List.take_of_length_le (by have := E2.out; omega)] at hp
          rw [hp]; exact sameB_refl _
        have HN := Lib.hid hs
        clear hs
        go_wp2
        go_ret
        exact ⟨by rw [HN.out]; rfl, q, rfl⟩
  · have hne : sameB xs ys = false := by
      simp only [sameB, beq_eq_false_iff_ne]
      intro e; rw [e] at e1; omega
    have HN := Lib.hid hne
    have ht : ((n : Int) != (n' : Int)) = true := by simp; omega
    clear hne e1 e2 hnn
    go_enter Try.func12, Try.ntmps12
    go_wp2
    go_ret
    exact ⟨by rw [HN.out]; rfl, 0, rfl⟩

theorem rget_long (A : Option Addr) (n c : Nat) (w : World) (hn : 8 < n) (hm : n ≤ maxLen) :
    Calls Try.prog 11 #[.slice A n c] w fun e w' => e = .returned (.tuple #[.int .u64 0, .bool false]) ∧ w = w' := by
  unfold maxLen at hm
  go_enter Try.func11, Try.ntmps11
  go_wp2
  go_ret2
  exact ⟨rfl, rfl⟩

theorem rget_step (xs : List UInt8) (k : Nat) (hk : k < xs.length) (h8 : k < 8) :
    IntKind.u64.wrap (IntKind.u64.wrap ((getL (xs.take k) : Nat) * 256) + IntKind.u64.wrap ((xs[k]?.getD 0).toNat : Int)) = (getL (xs.take (k + 1)) : Nat) := by
  have hg := getL_lt (xs.take k)
  rw [List.length_take, Nat.min_eq_left (by omega)] at hg
  have h7 : 256 ^ k ≤ 256 ^ 7 := Nat.pow_le_pow_right (by omega) (by omega)
  have hc := (xs[k]'hk).toNat_lt
  rw [List.take_succ_eq_append_getElem hk, getL_snoc, List.getElem?_eq_getElem hk, Option.getD_some]
  simp only [IntKind.wrap_u64]
  omega

theorem rget_any (A : Option Addr) (n c : Nat) (xs : List UInt8) (w : World) (hn : n ≤ 8) (h : Rd w A n c xs) :
    Calls Try.prog 11 #[.slice A n c] w fun e w' => e = .returned (.tuple #[.int .u64 (getL xs : Nat), .bool true]) ∧ w = w' := by
  go_enter Try.func11, Try.ntmps11
  go_wp2
  go_loop [4, 5] (fun v i => ∃ k : Nat, k ≤ n ∧ i = .int .i64 k ∧ v = .int .u64 (getL (xs.take k) : Nat)) (fun _ i => n - (intOf i).toNat)
  case atStart => exact ⟨0, Nat.zero_le _, rfl, rfl⟩
  case round =>
    obtain ⟨k, hk, rfl, rfl⟩ := hrel
    by_cases hlt : k < n
    · obtain ⟨b, off, rfl, hb, hcell⟩ := h.at_ (by omega)
      have hc := hcell k hlt
      clear hcell
      go_wp2
      go_round
      case rel =>
        exact ⟨k + 1, by omega, by go_num, by rw [← rget_step xs k (by have := h.len; omega) (by omega)]⟩
      case measure => simp [intOf]; omega
    · obtain rfl : k = n := by omega
      go_wp2
      go_ret2
      have e := h.len
      exact ⟨by rw [List.take_of_length_le (by omega)]; rfl, rfl⟩
end Go.Proofs.Ytgiocloegmpehaa
