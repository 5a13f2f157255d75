/-
  What the calls of package octet do: Cat, first, Cut.
-/
import Derived.Test.YtgiocloegmpehaaOct2
namespace Go.Proofs.Ytgiocloegmpehaa
set_option linter.unusedSimpArgs false
set_option linter.unusedVariables false
open Go.RowKit

/-- The first k rows, one behind the other; how many bytes they have. -/
def cats (xss : List (List UInt8)) (k : Nat) : List UInt8 := (xss.take k).flatten
def tot (xss : List (List UInt8)) (k : Nat) : Nat := (cats xss k).length
theorem cats_succ (xss : List (List UInt8)) (k : Nat) (hk : k < xss.length) : cats xss (k + 1) = cats xss k ++ (xss[k]?.getD []) := by
  unfold cats
  rw [List.take_succ_eq_append_getElem hk, List.getElem?_eq_getElem hk, List.flatten_append, List.flatten_singleton, Option.getD_some]
theorem cats_all (xss : List (List UInt8)) (k : Nat) (hk : xss.length = k) : cats xss k = xss.flatten := by unfold cats; rw [List.take_of_length_le (by omega)]
theorem tot_succ (xss : List (List UInt8)) (k : Nat) (hk : k < xss.length) : tot xss (k + 1) = tot xss k + (xss[k]?.getD []).length := by
  unfold tot; rw [cats_succ xss k hk, List.length_append]
theorem tot_le (xss : List (List UInt8)) (k : Nat) : tot xss k ≤ xss.flatten.length := by
  have h := congrArg List.length (congrArg List.flatten (List.take_append_drop k xss))
  rw [List.flatten_append, List.length_append] at h
  unfold tot cats
  omega

set_option maxHeartbeats 1000000 in
theorem cat_any (A : Option Addr) (n c : Nat) (xss : List (List UInt8)) (w : World) (h : RdBs w A n c xss) (ht : xss.flatten.length ≤ 140737488355328) :
    Calls Try.prog 18 #[.slice A n c] w (New w.heap.size w xss.flatten) := by
  obtain ⟨i0, hi, hz0, hz1, hz2⟩ := info_parts Try.infoU8
  have l1 : n ≤ maxLen := Nat.le_trans h.cap h.max
  unfold maxLen at l1
  go_enter Try.func18, Try.ntmps18
  go_wp2
  go_loop [3, 11] (fun s i => ∃ k : Nat, k ≤ n ∧ i = .int .i64 (k : Int) ∧ s = .int .i64 (tot xss k : Nat)) (fun _ i => n - (intOf i).toNat)
  case atStart => exact ⟨0, Nat.zero_le _, rfl, rfl⟩
  case round =>
    obtain ⟨k, hk, rfl, rfl⟩ := hrel
    by_cases hlt : k < n
    · obtain ⟨b, off, rfl, hb, hcell⟩ := h.at_ (by omega)
      obtain ⟨A', n', c', hc, hr⟩ := hcell k hlt
      have e1 := tot_succ xss k (by have := h.len; omega)
      have e2 := tot_le xss (k + 1)
      have e3 : tot xss k + n' ≤ 140737488355328 := by rw [hr.len] at e1; omega
      have E := Lib.hid e1
      have El := Lib.hid hr.len
      clear hcell e1 e2 hr
      go_wp2
      go_round
      case rel => exact ⟨k + 1, by omega, by go_num, by rw [E.out, El.out]; go_num⟩
      case measure => simp [intOf]; omega
    · obtain rfl : k = n := by omega
      obtain ⟨T, hT⟩ : ∃ T, T = tot xss k := ⟨_, rfl⟩
      rw [← hT]
      have ht' : T ≤ 140737488355328 := by have := tot_le xss k; omega
      have HT := Lib.hid hT
      clear hT
      go_wp2_with (at_make; refine wpList_make_own _ rfl _ _ 23 rfl w.heap.size 5 i0 (.int .u8 0) 1 Try.underlying23 hi hz0 hz1 _ _ _ T rfl rfl (by omega) (by rw [hz2]; omega) (by unfold maxLen; omega) (Nat.le_refl _) ?_)
      intro w0 hown0 hgrow0
      have hb0 : Below w.heap.size w w0 := (Below.refl _ _).grown hgrow0 (Nat.le_refl _) (fun k h => by cases h)
      clear hgrow0
      go_wp2
      go_loopw [6, 24] (fun out i wr => ∃ j m : Nat, j ≤ k ∧ i = .int .i64 (j : Int) ∧ wr.ownsRow w.heap.size 5 1 out m (bv (cats xss j)) ∧ Below w.heap.size w wr) (fun _ i _ => k - (intOf i).toNat)
      case atStart => exact ⟨0, 0, Nat.zero_le _, rfl, by simpa [bv, cats] using hown0, hb0⟩
      case round =>
        obtain ⟨j, m, hj, rfl, hown, hbel⟩ := hrel
        by_cases hlt : j < k
        · obtain ⟨b, off, rfl, hb, hcell⟩ := (h.below hbel).at_ (by omega)
          obtain ⟨A', n', c', hc, hr⟩ := hcell j hlt
          have e1 := cats_succ xss j (by have := h.len; omega)
          have e2 := tot_le xss (j + 1)
          have hm := own_len hown
          have e3 : m + n' ≤ 140737488355328 := by unfold tot at e2; rw [e1, List.length_append, hr.len] at e2; omega
          have E := Lib.hid e1
          clear hcell e1 e2 hm
          go_wp2_with (at_builtin; refine append_rd rfl _ _ rfl w.heap.size _ m _ rfl hown A' n' c' _ rfl hr e3 hbel.size ?_; intro v' w1 hown1 hg1)
          go_roundw
          case rel => exact ⟨j + 1, m + n', by omega, by go_num, by rw [E.out]; exact hown1, hbel.grown hg1 hbel.size (fun g hg => (hown.lt g hg).1)⟩
          case measure => simp [intOf]; omega
        · obtain rfl : j = k := by omega
          have e := cats_all xss j h.len
          rw [e] at hown
          clear e
          go_wp2
          go_ret
          exact New.mk hown hbel
end Go.Proofs.Ytgiocloegmpehaa
