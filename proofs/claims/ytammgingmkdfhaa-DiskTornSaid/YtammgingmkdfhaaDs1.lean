/-
  Sectors and pending writes as cells, one behind the other, in plain words. No statement is proved here.
-/
import Derived.Test.YtammgingmkdfhaaDk2
namespace Go.Proofs.Ytammgingmkdfhaa.S19
set_option linter.unusedSimpArgs false
set_option linter.unusedVariables false
open Go.RowKit

/-- The cells of rows, one behind the other. -/
def rowsV (s : List (List UInt8)) : List Value := s.flatMap bv
/-- The cells of what is pending. -/
def pendV (p : List (Nat × List UInt8)) : List Value := p.flatMap fun q => Value.int .i64 (q.1 : Int) :: bv q.2
theorem flat_len {α : Type} (f : α → List Value) (n : Nat) : ∀ (s : List α), (∀ b ∈ s, (f b).length = n) → (s.flatMap f).length = n * s.length
  | [], _ => by simp
  | b :: s, h => by
    rw [List.flatMap_cons, List.length_append, h b (by simp), flat_len f n s fun c hc => h c (by simp [hc]), List.length_cons, Nat.mul_succ]; omega
theorem rowsV_len {s : List (List UInt8)} (h : ∀ b ∈ s, b.length = 64) : (rowsV s).length = 64 * s.length := flat_len bv 64 s fun b hb => by rw [bv_length]; exact h b hb
theorem pendV_len {p : List (Nat × List UInt8)} (h : ∀ q ∈ p, q.2.length = 64) : (pendV p).length = 65 * p.length := flat_len _ 65 p fun q hq => by rw [List.length_cons, bv_length, h q hq]
theorem rowsV_append (s t : List (List UInt8)) : rowsV (s ++ t) = rowsV s ++ rowsV t := by simp [rowsV]
theorem pendV_snoc (p : List (Nat × List UInt8)) (i : Nat) (b : List UInt8) : pendV (p ++ [(i, b)]) = pendV p ++ (Value.int .i64 (i : Int) :: bv b) := by simp [pendV]
theorem rowsV_split {s : List (List UInt8)} {i : Nat} (h : i < s.length) : rowsV s = rowsV (s.take i) ++ bv (s.getD i []) ++ rowsV (s.drop (i + 1)) := by
  have e : s = s.take i ++ [s.getD i []] ++ s.drop (i + 1) := by
    rw [List.getD_eq_getElem?_getD, List.getElem?_eq_getElem h]
    simp
  conv => lhs; rw [e]
  rw [rowsV_append, rowsV_append]
  simp [rowsV]
theorem rowsV_set {s : List (List UInt8)} {i : Nat} (h : i < s.length) (b : List UInt8) : rowsV (s.set i b) = rowsV (s.take i) ++ bv b ++ rowsV (s.drop (i + 1)) := by
  have h' : i < (s.set i b).length := by simpa using h
  have e1 : (s.set i b).take i = s.take i := by rw [List.take_set_of_le (Nat.le_refl i)]
  have e2 : (s.set i b).getD i [] = b := by rw [List.getD_eq_getElem?_getD, List.getElem?_set_self h]; rfl
  have e3 : (s.set i b).drop (i + 1) = s.drop (i + 1) := by rw [List.drop_set_of_lt (by omega)]
  rw [rowsV_split h', e1, e2, e3]
theorem take_rows {s : List (List UInt8)} (h : ∀ b ∈ s, b.length = 64) (i : Nat) (hi : i ≤ s.length) : (rowsV (s.take i)).length = 64 * i := by
  rw [rowsV_len fun b hb => h b (List.mem_of_mem_take hb), List.length_take, Nat.min_eq_left hi]
theorem pend_split {p : List (Nat × List UInt8)} {i : Nat} (h : i < p.length) : pendV p = pendV (p.take i) ++ (Value.int .i64 (p[i].1 : Int) :: bv p[i].2) ++ pendV (p.drop (i + 1)) := by
  have e : p = p.take i ++ [p[i]] ++ p.drop (i + 1) := by simp
  have h3 : ∀ a b c : List (Nat × List UInt8), pendV (a ++ b ++ c) = pendV a ++ pendV b ++ pendV c := by intro a b c; simp [pendV]
  conv => lhs; rw [e]
  rw [h3]
  simp [pendV]
theorem take_pend {p : List (Nat × List UInt8)} (h : ∀ q ∈ p, q.2.length = 64) (i : Nat) (hi : i ≤ p.length) : (pendV (p.take i)).length = 65 * i := by
  rw [pendV_len fun q hq => h q (List.mem_of_mem_take hq), List.length_take, Nat.min_eq_left hi]
theorem getD_mem {s : List (List UInt8)} {i : Nat} (h : i < s.length) : s.getD i [] ∈ s := by
  rw [List.getD_eq_getElem?_getD, List.getElem?_eq_getElem h]
  exact List.getElem_mem h
/-- The cells of a sector, where it lies. -/
theorem rowsV_at {s : List (List UInt8)} (h : ∀ b ∈ s, b.length = 64) {i j : Nat} (hi : i < s.length) (hj : j < 64) : (rowsV s)[64 * i + j]? = some (.int .u8 (((s.getD i []).getD j 0).toNat : Int)) := by
  have hl := take_rows h i (Nat.le_of_lt hi)
  have hb := h _ (getD_mem hi)
  rw [rowsV_split hi, List.append_assoc, List.getElem?_append_right (by omega), hl, Nat.add_sub_cancel_left]
  generalize s.getD i [] = x at hb ⊢
  rw [List.getElem?_append_left (by rw [bv_length]; omega), bv_at _ _ (by omega), List.getD_eq_getElem?_getD, List.getElem?_eq_getElem (show j < x.length by omega)]
  rfl
theorem rowsV_one (s : List (List UInt8)) : ∀ u ∈ rowsV s, u.oneCell' = true := by
  intro u hu
  obtain ⟨b, _, hb⟩ := List.mem_flatMap.1 hu
  exact bv_one b u hb
theorem pendV_one (p : List (Nat × List UInt8)) : ∀ u ∈ pendV p, u.oneCell' = true := by
  intro u hu
  obtain ⟨q, _, hq⟩ := List.mem_flatMap.1 hu
  rcases List.mem_cons.1 hq with rfl | hq
  · rfl
  · exact bv_one q.2 u hq
theorem rowsV_zero (k : Nat) : rowsV (List.replicate k (List.replicate 64 0)) = List.replicate (64 * k) (Value.int .u8 0) := by
  induction k with
  | zero => simp [rowsV]
  | succ k ih =>
    rw [List.replicate_succ, rowsV, List.flatMap_cons]
    have : (List.replicate k (List.replicate 64 (0 : UInt8))).flatMap bv = rowsV (List.replicate k (List.replicate 64 0)) := rfl
    rw [this, ih, Nat.mul_succ, Nat.add_comm, ← List.replicate_append_replicate]
    congr 1
/-- What was written is laid: one more. -/
theorem laid_sn1 : ∀ (p : List (Nat × List UInt8)) (s : List (List UInt8)) (i : Nat) (b : List UInt8), Dk.laid (p ++ [(i, b)]) s = (Dk.laid p s).set i b
  | [], s, i, b => rfl
  | q :: p, s, i, b => by rw [List.cons_append, Dk.laid, laid_sn1 p, Dk.laid]
end Go.Proofs.Ytammgingmkdfhaa.S19
