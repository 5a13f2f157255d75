/-
  What the calls of package octet do: Fill, Same, Xor.
-/
import Derived.Test.YtgiocloegmpehaaOct
import Derived.RegionTactic
import Derived.ChangeAlike
namespace Go.Proofs.Ytgiocloegmpehaa
set_option linter.unusedSimpArgs false
set_option linter.unusedVariables false
open Go.RowKit

theorem fill_step (b : UInt8) (k n : Nat) (h : k < n) : (bv (List.replicate k b ++ List.replicate (n - k) 0)).set k (.int .u8 (b.toNat : Int)) = bv (List.replicate (k + 1) b ++ List.replicate (n - (k + 1)) 0) := by
  obtain ⟨m, hm⟩ : ∃ m, n - k = m + 1 := ⟨n - k - 1, by omega⟩
  have hm' : n - (k + 1) = m := by omega
  rw [bv_set, hm, hm', List.set_append_right _ _ (by simp), List.replicate_succ' (n := k), List.append_assoc]
  simp [List.replicate_succ]

theorem fill_any (b : UInt8) (n : Nat) (w : World) (hn : n ≤ 65536) :
    Calls Try.prog 16 #[.int .u8 (b.toNat : Int), .int .i64 (n : Int)] w (New w.heap.size w (List.replicate n b)) := by
  obtain ⟨i0, hi, hz0, hz1, hz2⟩ := info_parts Try.infoU8
  go_enter Try.func16, Try.ntmps16
  go_wp2_with (at_make; refine wpList_make_full _ rfl _ _ 23 rfl w.heap.size 5 i0 (.int .u8 0) 1 Try.underlying23 hi hz0 hz1 _ _ _ _ n rfl rfl rfl rfl ?b2 ?b3 (Nat.le_refl _) ?_)
  case b2 => rw [hz2]; omega
  case b3 => unfold maxLen; omega
  intro w0 hown0 hgrow0
  rw [bv_zero] at hown0
  have hb0 : Below w.heap.size w w0 := (Below.refl _ _).grown hgrow0 (Nat.le_refl _) (fun k h => by cases h)
  clear hgrow0
  go_wp2
  go_loopw [17] (fun i wr => ∃ k : Nat, k ≤ n ∧ i = .int .i64 (k : Int) ∧
      wr.ownsRow w.heap.size 5 1 (.slice (some ⟨w.heap.size, 0, none⟩) n n) n (bv (List.replicate k b ++ List.replicate (n - k) 0)) ∧ Below w.heap.size w wr)
    (fun i _ => n - (intOf i).toNat)
  case atStart => exact ⟨0, Nat.zero_le _, rfl, by simpa using hown0, hb0⟩
  case round =>
    obtain ⟨k, hk, rfl, hown, hbel⟩ := hrel
    by_cases hlt : k < n
    · have hc := hown.cellAt k (by omega)
      have hf := hown.frozenAt k
      have hs := hown.stored k
      rw [bv_at _ _ (by simp; omega)] at hc
      go_wp2
      go_roundw
      case rel =>
        exact ⟨k + 1, by omega, by go_num, by rw [← fill_step b k n hlt]; exact (hs _).1, hbel.setCell (Nat.le_refl _) _⟩
      case measure => simp [intOf]; omega
    · obtain rfl : k = n := by omega
      go_wp2
      go_ret
      exact ⟨_, _, _, rfl, by simpa using hown, hbel⟩

theorem fill_none (b n : Int) (w : World) (hn : n < 0 ∨ 65536 < n) :
    Calls Try.prog 16 #[.int .u8 b, .int .i64 n] w fun e w' => e = .returned (.slice none 0 0) ∧ w = w' := by
  rcases hn with hn | hn
  · go_enter Try.func16, Try.ntmps16
    go_wp2
    go_ret
    exact ⟨rfl, rfl⟩
  · have h0 : ¬ n < 0 := by omega
    go_enter Try.func16, Try.ntmps16
    go_wp2
    go_ret
    exact ⟨rfl, rfl⟩

/-- 'string(b)' of bytes that read. -/
theorem Rd.convert {w : World} {A : Option Addr} {n c : Nat} {xs : List UInt8} (h : Rd w A n c xs) :
    (convert 23 9 (.slice A n c)).run Try.prog w = .ok (.string ⟨xs.toArray⟩) w := by
  rcases Nat.eq_zero_or_pos n with hn | hn
  · subst hn
    obtain rfl : xs = [] := List.eq_nil_of_length_eq_zero h.len
    rw [run_convert_bytes_string w 23 9 5 _ 0 c Try.underlying23 Try.underlying5 Try.underlying9]
    cases A <;> simp [Conv.bytesToString, loadCells]
    all_goals rfl
  · obtain ⟨b, o, rfl, _, hc⟩ := h.at_ hn
    have e := run_convert_bytes_arg (P := Try.prog) w 23 5 Try.underlying23 Try.underlying5 b o n c (xs.map fun x => (x.toNat : Int)) (by simp [h.len])
      (fun i hi => by
        have hl : i < xs.length := by have := h.len; omega
        rw [hc i hi]; simp [List.getD, hl]) 9 Try.underlying9
    rw [e]
    have : strOfNums (xs.map fun x => (x.toNat : Int)) = ⟨xs.toArray⟩ := by
      simp [strOfNums, Function.comp_def]
    rw [this]

def sameB (xs ys : List UInt8) : Bool := xs == ys
theorem sameB_refl (xs : List UInt8) : sameB xs xs = true := by simp [sameB]

theorem equal_any (A A' : Option Addr) (n c n' c' : Nat) (xs ys : List UInt8) (w : World) (h : Rd w A n c xs) (h' : Rd w A' n' c' ys) :
    Calls Try.prog 20 #[.slice A n c, .slice A' n' c'] w fun e w' => e = .returned (.bool (sameB xs ys)) ∧ w = w' := by
  have c1 := h.convert
  have c2 := h'.convert
  go_enter Try.func20, Try.ntmps20
  go_wp2
  go_ret
  exact ⟨rfl, rfl⟩

theorem same_any (A A' : Option Addr) (n c n' c' : Nat) (xs ys : List UInt8) (w : World) (h : Rd w A n c xs) (h' : Rd w A' n' c' ys) :
    Calls Try.prog 15 #[.slice A n c, .slice A' n' c'] w fun e w' => e = .returned (.bool (sameB xs ys)) ∧ w = w' := by
  go_enter Try.func15, Try.ntmps15
  go_wp2_with (go_at_call 20; refine (equal_any A A' n c n' c' xs ys _ h h').mono ?_; rintro e w' ⟨rfl, rfl⟩)
  go_ret
  exact ⟨rfl, rfl⟩

def xorL (xs ys : List UInt8) : List UInt8 := List.zipWith (· ^^^ ·) xs ys
theorem xorL_length (xs ys : List UInt8) : (xorL xs ys).length = min xs.length ys.length := by simp [xorL]

theorem xor_step (xs ys : List UInt8) (k n n' m : Nat) (hx : xs.length = n) (hy : ys.length = n') (hm : m = min n n') (hk : k < m) :
    (bv ((xorL xs ys).take k ++ List.replicate (m - k) 0)).set k (.int .u8 (bits .xor .u8 ((xs[k]?.getD 0).toNat : Int) ((ys[k]?.getD 0).toNat : Int))) = bv ((xorL xs ys).take (k + 1) ++ List.replicate (m - (k + 1)) 0) := by
  have hl := xorL_length xs ys
  have h1 : k < xs.length := by omega
  have h2 : k < ys.length := by omega
  have hv : bits .xor .u8 ((xs[k]?.getD 0).toNat : Int) ((ys[k]?.getD 0).toNat : Int) = (((xs[k] ^^^ ys[k] : UInt8)).toNat : Int) := by
    simp only [List.getElem?_eq_getElem h1, List.getElem?_eq_getElem h2, Option.getD_some]
    rw [u8_xor_nat _ _ (UInt8.toNat_lt _) (UInt8.toNat_lt _), UInt8.toNat_xor]
  have h3 : k < (xorL xs ys).length := by omega
  obtain ⟨q, hq⟩ : ∃ q, m - k = q + 1 := ⟨m - k - 1, by omega⟩
  have hq' : m - (k + 1) = q := by omega
  rw [hv, bv_set, hq, hq', List.set_append_right _ _ (by simp; omega), List.take_succ_eq_append_getElem h3, List.append_assoc]
  have e : k - ((xorL xs ys).take k).length = 0 := by rw [List.length_take]; omega
  rw [e, List.replicate_succ, List.set_cons_zero]
  simp [xorL]

set_option maxHeartbeats 1000000 in
theorem xor_any (A A' : Option Addr) (n c n' c' : Nat) (xs ys : List UInt8) (w : World) (h1 : Rd w A n c xs) (h2 : Rd w A' n' c' ys) (hn : n ≤ 1000000 ∨ n' ≤ 1000000) :
    Calls Try.prog 14 #[.slice A n c, .slice A' n' c'] w (New w.heap.size w (xorL xs ys)) := by
  obtain ⟨i0, hi, hz0, hz1, hz2⟩ := info_parts Try.infoU8
  obtain ⟨m, hm⟩ : ∃ m, m = min n n' := ⟨_, rfl⟩
  have HM := Lib.hid hm
  have hmn : m ≤ n := by omega
  have hmn' : m ≤ n' := by omega
  have hmm : m ≤ 1000000 := by omega
  clear hn
  have l1 : n ≤ maxLen := Nat.le_trans h1.cap h1.max
  have l2 : n' ≤ maxLen := Nat.le_trans h2.cap h2.max
  unfold maxLen at l1 l2
  go_enter Try.func14, Try.ntmps14
  by_cases hle : n ≤ n'
  all_goals
    clear hm
    go_wp2_with (at_make; refine wpList_make_full _ rfl _ _ 23 rfl w.heap.size 5 i0 (.int .u8 0) 1 Try.underlying23 hi hz0 hz1 _ _ _ _ m rfl rfl (by have := HM.out; omega) (by have := HM.out; omega) (by rw [hz2]; omega) (by unfold maxLen; omega) (Nat.le_refl _) ?_)
    intro w0 hown0 hgrow0
    rw [bv_zero] at hown0
    have hb0 : Below w.heap.size w w0 := (Below.refl _ _).grown hgrow0 (Nat.le_refl _) (fun k h => by cases h)
    clear hgrow0
    go_wp2
    go_loopw [15] (fun i wr => ∃ k : Nat, k ≤ m ∧ i = .int .i64 (k : Int) ∧
        wr.ownsRow w.heap.size 5 1 (.slice (some ⟨w.heap.size, 0, none⟩) m m) m (bv ((xorL xs ys).take k ++ List.replicate (m - k) 0)) ∧ Below w.heap.size w wr)
      (fun i _ => m - (intOf i).toNat)
    case atStart => exact ⟨0, Nat.zero_le _, rfl, by simpa using hown0, hb0⟩
    case round =>
      obtain ⟨k, hk, rfl, hown, hbel⟩ := hrel
      by_cases hlt : k < m
      · obtain ⟨b1, o1, rfl, hb1, hc1⟩ := (h1.below hbel).at_ (by omega)
        obtain ⟨b2, o2, rfl, hb2, hc2⟩ := (h2.below hbel).at_ (by omega)
        have g1 := hc1 k (by omega)
        have g2 := hc2 k (by omega)
        have hc := hown.cellAt k (by omega)
        have hf := hown.frozenAt k
        have hs := hown.stored k
        have hin1 : (k : Int) < n := by omega
        have hin2 : (k : Int) < n' := by omega
        rw [bv_at _ _ (by have := HM.out; have e1 := h1.len; have e2 := h2.len; simp [xorL_length]; omega)] at hc
        clear hc1 hc2
        go_wp2
        go_region
        all_goals
          go_wp2
          go_roundw
          case rel => exact ⟨k + 1, by omega, by go_num, by rw [← xor_step xs ys k n n' m h1.len h2.len HM.out hlt]; exact (hs _).1.drew, (hbel.setCell (Nat.le_refl _) _).drew⟩
          case measure => simp [intOf]; omega
      · obtain rfl : k = m := by omega
        have e : (xorL xs ys).take k = xorL xs ys := List.take_of_length_le (by have := HM.out; have e1 := h1.len; have e2 := h2.len; simp [xorL_length]; omega)
        go_wp2
        go_ret
        exact ⟨_, _, _, rfl, by simpa [e] using hown, hbel⟩
end Go.Proofs.Ytgiocloegmpehaa
