/-
  What the document's own May of levels answers. No statement is proved here.
-/
import Derived.Test.YtccnbepccajdoaaDoorHs11
import Derived.Test.YtccnbepccajdoaaDoorHs5
namespace Go.Proofs.YtccnbepccajdoaaDoor.S13
set_option linter.unusedSimpArgs false
set_option linter.unusedVariables false
open Go.RowKit S7 S8

theorem otsA_ex (c : Nat) : ∃ o0 o1 o2 o3 o4 o5 : Int, otsA c = .agg #[.int .u32 o0, .int .i64 o1, .int .i64 o2, .int .i64 o3, .int .i64 o4, .int .i64 o5] ∧ (okO c = true → o1 = oK c ∧ o2 = oN c) := by
  cases h : okO c with
  | true => exact ⟨c, oK c, oN c, oW c, oP c, oS c, by rw [otsA, if_pos h]; rfl, fun _ => ⟨rfl, rfl⟩⟩
  | false => exact ⟨0, 0, 0, 0, 0, 0, by rw [otsA, h, if_neg (by simp)]; rfl, fun h => by cases h⟩
theorem treeA_ex (c : Nat) : ∃ t0 t1 t2 t3 : Int, treeA c = .agg #[.int .u32 t0, .int .i64 t1, .int .i64 t2, .int .i64 t3] ∧ (okT c = true → t1 = tK c ∧ t2 = tN c ∧ t3 = tH c) := by
  cases h : okT c with
  | true => exact ⟨c, tK c, tN c, tH c, by rw [treeA, if_pos h]; rfl, fun _ => ⟨rfl, rfl, rfl⟩⟩
  | false => exact ⟨0, 0, 0, 0, by rw [treeA, h, if_neg (by simp)]; rfl, fun h => by cases h⟩
theorem rsets_ex (p : Pr) (l1 : p.1 < 4294967296) (l2 : p.2 < 4294967296) : ∃ o0 o1 o2 o3 o4 o5 t0 t1 t2 t3 : Int, (okP p = true → t1 = tK p.2 ∧ t2 = tN p.2 ∧ t3 = tH p.2) ∧ ∀ w, Calls Tryd.prog 11 #[.agg #[.int .u32 (p.1 : Int), .int .u32 (p.2 : Int)]] w fun e w' =>
    e = .returned (.tuple #[.agg #[.int .u32 o0, .int .i64 o1, .int .i64 o2, .int .i64 o3, .int .i64 o4, .int .i64 o5], .agg #[.int .u32 t0, .int .i64 t1, .int .i64 t2, .int .i64 t3], .bool (okP p)]) ∧ Below w.heap.size w w' := by
  obtain ⟨a, b⟩ := p
  simp only at l1 l2 ⊢
  obtain ⟨o0, o1, o2, o3, o4, o5, ho, ho'⟩ := otsA_ex a
  obtain ⟨t0, t1, t2, t3, ht, ht'⟩ := treeA_ex b
  refine ⟨o0, o1, o2, o3, o4, o5, t0, t1, t2, t3, fun h => ht' (okP_T h), fun w => ?_⟩
  have hO := fun X => rots_any a l1 X
  have hT := fun X => rtree_any b l2 X
  rw [ho] at hO
  rw [ht] at hT
  cases h1 : okO a with
  | false =>
    have hp : okP (a, b) = false := by simp [okP, h1]
    rw [otsE, h1, if_neg (by simp)] at hO
    rw [hp]
    cases h2 : okT b with
    | false =>
      rw [treeE, h2, if_neg (by simp)] at hT
      exact rsets_a a b o0 o1 o2 o3 o4 o5 t0 t1 t2 t3 w (Lib.hid hO) (Lib.hid hT)
    | true =>
      rw [treeE, h2, if_pos rfl] at hT
      exact rsets_e a b o0 o1 o2 o3 o4 o5 t0 t1 t2 t3 w (Lib.hid hO) (Lib.hid hT)
  | true =>
    rw [otsE, h1, if_pos rfl] at hO
    cases h2 : okT b with
    | false =>
      have hp : okP (a, b) = false := by simp [okP, h2]
      rw [treeE, h2, if_neg (by simp)] at hT
      rw [hp]
      exact rsets_b a b o0 o1 o2 o3 o4 o5 t0 t1 t2 t3 w (Lib.hid hO) (Lib.hid hT)
    | true =>
      rw [treeE, h2, if_pos rfl] at hT
      obtain ⟨k1, k2⟩ := ho' h1
      obtain ⟨k3, k4, _⟩ := ht' h2
      cases h3 : (o1 == t1) with
      | false =>
        have hp : okP (a, b) = false := by
          have : oK a ≠ tK b := fun e => by rw [k1, k3, e] at h3; simp at h3
          simp [okP, this]
        rw [hp]
        exact rsets_c a b o0 o1 o2 o3 o4 o5 t0 t1 t2 t3 h3 w (Lib.hid hO) (Lib.hid hT)
      | true =>
        have hp : okP (a, b) = (o2 == t2) := by
          have e3 : oK a = tK b := by have : o1 = t1 := by simpa using h3
                                      omega
          rw [okP, h1, h2]
          simp only [e3, decide_true, Bool.true_and]
          rw [Bool.eq_iff_iff]
          simp only [decide_eq_true_eq, beq_iff_eq]
          omega
        rw [hp]
        exact rsets_d a b o0 o1 o2 o3 o4 o5 t0 t1 t2 t3 h3 _ rfl w (Lib.hid hO) (Lib.hid hT)
end Go.Proofs.YtccnbepccajdoaaDoor.S13
