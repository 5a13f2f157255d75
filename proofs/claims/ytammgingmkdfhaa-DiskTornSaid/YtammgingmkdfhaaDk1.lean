/-
  A disk in plain words: what is sure, what is pending, a plan. No statement is proved here.
-/
import Derived.Test.YtammgingmkdfhaaWords
namespace Go.Proofs.Ytammgingmkdfhaa.S19
set_option linter.unusedSimpArgs false
set_option linter.unusedVariables false

structure Dk where
  sure : List (List UInt8)
  pend : List (Nat × List UInt8)
  fails : List Int
  stop : Int
  cnt : Nat
  off : Bool
namespace Dk
/-- A disk that is up, with a plan by which nothing fails. -/
def new (k : Nat) : Dk := ⟨List.replicate k (List.replicate 64 0), [], [], 0, 0, false⟩
/-- One that is counted: what it comes to, if the disk is up. -/
def step (D : Dk) : Dk := if (D.cnt : Int) + 1 = D.stop then { D with cnt := D.cnt + 1, off := true } else { D with cnt := D.cnt + 1 }
def stepC (D : Dk) : Nat := if D.off = true then 6 else if (D.cnt : Int) + 1 = D.stop then 6 else if ((D.cnt : Int) + 1) ∈ D.fails then 7 else 0
/-- Is there such a sector? -/
def has (D : Dk) (i : Int) : Prop := 0 ≤ i ∧ i < (D.sure.length : Int)
instance (D : Dk) (i : Int) : Decidable (D.has i) := by unfold has; exact inferInstance
def writeC (D : Dk) (i : Int) (b : List UInt8) : Nat := if D.off = true then 6 else if D.has i ∧ b.length = 64 then D.stepC else 1
def write (D : Dk) (i : Int) (b : List UInt8) : Dk :=
  if D.off = true then D else if D.has i ∧ b.length = 64 then (if D.stepC = 0 then { D.step with pend := D.pend ++ [(i.toNat, b)] } else D.step) else D
/-- What was written to a sector last. -/
def lastOf (i : Nat) : List (Nat × List UInt8) → List UInt8 → List UInt8
  | [], b => b
  | p :: ps, b => lastOf i ps (if p.1 = i then p.2 else b)
def atS (D : Dk) (i : Nat) : List UInt8 := lastOf i D.pend (D.sure.getD i [])
def readC (D : Dk) (i : Int) : Nat := if D.off = true then 6 else if D.has i then 0 else 1
def readB (D : Dk) (i : Int) : List UInt8 := if D.readC i = 0 then D.atS i.toNat else []
/-- Rows laid, one behind the other. -/
def laid : List (Nat × List UInt8) → List (List UInt8) → List (List UInt8)
  | [], s => s
  | p :: ps, s => laid ps (s.set p.1 p.2)
def flush (D : Dk) : Dk := if D.off = true then D else if D.stepC = 0 then { D.step with sure := laid D.pend D.sure, pend := [] } else D.step
/-- Of a pending write what is there. -/
def torn (c : Nat) (old now : List UInt8) : List UInt8 :=
  (List.range 64).map fun j => if c % 4 = 1 ∨ (c % 4 = 2 ∧ j < c / 4) ∨ (c % 4 = 3 ∧ c / 4 ≤ j) then now.getD j 0 else old.getD j 0
def choice (ch : List UInt8) (k : Nat) : Nat := if ch = [] then 0 else (ch.getD (k % ch.length) 0).toNat
def tear (ch : List UInt8) : Nat → List (Nat × List UInt8) → List (List UInt8) → List (List UInt8)
  | _, [], s => s
  | k, p :: ps, s => tear ch (k + 1) ps (s.set p.1 (torn (choice ch k) (s.getD p.1 []) p.2))
def up (D : Dk) (ch : List UInt8) (fs : List Int) (st : Int) : Dk := ⟨tear ch 0 D.pend D.sure, [], fs, st, 0, false⟩
def halt (D : Dk) : Dk := { D with off := true }
def plan (D : Dk) (fs : List Int) (st : Int) : Dk := { D with fails := fs, stop := st }
/-- What holds of every disk. -/
structure Ok (D : Dk) : Prop where
  one : 1 ≤ D.sure.length
  most : D.sure.length ≤ 256
  rows : ∀ b ∈ D.sure, b.length = 64
  pend : ∀ p ∈ D.pend, p.1 < D.sure.length ∧ p.2.length = 64
  few : D.pend.length ≤ D.cnt
theorem new_ok {k : Nat} (h1 : 1 ≤ k) (h2 : k ≤ 256) : (new k).Ok := by
  refine ⟨by simpa [new] using h1, by simpa [new] using h2, fun b hb => ?_, fun p hp => by simp [new] at hp, by simp [new]⟩
  simp [new] at hb
  rw [hb.2]; simp
theorem step_sure (D : Dk) : D.step.sure = D.sure := by unfold step; split <;> rfl
theorem step_pend (D : Dk) : D.step.pend = D.pend := by unfold step; split <;> rfl
theorem step_cnt (D : Dk) : D.step.cnt = D.cnt + 1 := by unfold step; split <;> rfl
theorem step_ok {D : Dk} (h : D.Ok) : D.step.Ok :=
  ⟨by rw [step_sure]; exact h.one, by rw [step_sure]; exact h.most, by rw [step_sure]; exact h.rows, by rw [step_sure, step_pend]; exact h.pend, by rw [step_pend, step_cnt]; have := h.few; omega⟩
theorem laid_len : ∀ (ps : List (Nat × List UInt8)) (s : List (List UInt8)), (laid ps s).length = s.length
  | [], s => rfl
  | p :: ps, s => by rw [laid, laid_len ps]; simp
theorem laid_rows {n : Nat} : ∀ (ps : List (Nat × List UInt8)) (s : List (List UInt8)), (∀ p ∈ ps, p.2.length = n) → (∀ b ∈ s, b.length = n) → ∀ b ∈ laid ps s, b.length = n
  | [], s, _, h => h
  | p :: ps, s, hp, h => laid_rows ps _ (fun q hq => hp q (by simp [hq])) fun b hb => by
    rcases List.mem_or_eq_of_mem_set hb with h1 | h1
    · exact h b h1
    · rw [h1]; exact hp p (by simp)
theorem torn_len (c : Nat) (a b : List UInt8) : (torn c a b).length = 64 := by simp [torn]
theorem tear_len (ch : List UInt8) : ∀ (ps : List (Nat × List UInt8)) (k : Nat) (s : List (List UInt8)), (tear ch k ps s).length = s.length
  | [], k, s => rfl
  | p :: ps, k, s => by rw [tear, tear_len ch ps]; simp
theorem tear_rows (ch : List UInt8) : ∀ (ps : List (Nat × List UInt8)) (k : Nat) (s : List (List UInt8)), (∀ b ∈ s, b.length = 64) → ∀ b ∈ tear ch k ps s, b.length = 64
  | [], k, s, h => h
  | p :: ps, k, s, h => tear_rows ch ps _ _ fun b hb => by
    rcases List.mem_or_eq_of_mem_set hb with h1 | h1
    · exact h b h1
    · rw [h1]; exact torn_len _ _ _
theorem has_lt {D : Dk} {i : Int} (h : D.has i) : i.toNat < D.sure.length := by unfold has at h; omega
theorem write_ok {D : Dk} (h : D.Ok) (i : Int) (b : List UInt8) : (D.write i b).Ok := by
  unfold write
  split
  · exact h
  split
  · rename_i h1
    have hs := step_ok h
    split
    · refine ⟨hs.one, hs.most, hs.rows, fun p hp => ?_, ?_⟩
      · simp only [List.mem_append, List.mem_singleton] at hp
        show p.1 < D.step.sure.length ∧ _
        rw [step_sure]
        rcases hp with hp | rfl
        · exact h.pend p hp
        · exact ⟨has_lt h1.1, h1.2⟩
      · show (D.pend ++ _).length ≤ D.step.cnt
        rw [step_cnt]
        have := h.few
        simp; omega
    · exact hs
  · exact h
theorem flush_ok {D : Dk} (h : D.Ok) : D.flush.Ok := by
  unfold flush
  split
  · exact h
  split
  · refine ⟨?_, ?_, ?_, fun p hp => (by cases hp), Nat.zero_le _⟩
    · show 1 ≤ (laid _ _).length
      rw [laid_len]; exact h.one
    · show (laid _ _).length ≤ 256
      rw [laid_len]; exact h.most
    · exact laid_rows _ _ (fun p hp => (h.pend p hp).2) h.rows
  · exact step_ok h
theorem up_ok {D : Dk} (h : D.Ok) (ch : List UInt8) (fs : List Int) (st : Int) : (D.up ch fs st).Ok := by
  refine ⟨?_, ?_, ?_, fun p hp => (by cases hp), Nat.zero_le _⟩
  · show 1 ≤ (tear _ _ _ _).length
    rw [tear_len]; exact h.one
  · show (tear _ _ _ _).length ≤ 256
    rw [tear_len]; exact h.most
  · exact tear_rows _ _ _ _ h.rows
theorem halt_ok {D : Dk} (h : D.Ok) : D.halt.Ok := ⟨h.one, h.most, h.rows, h.pend, h.few⟩
theorem plan_ok {D : Dk} (h : D.Ok) (fs : List Int) (st : Int) : (D.plan fs st).Ok := ⟨h.one, h.most, h.rows, h.pend, h.few⟩
theorem write_cnt (D : Dk) (i : Int) (b : List UInt8) : (D.write i b).cnt ≤ D.cnt + 1 := by
  unfold write
  split
  · omega
  split
  · split
    · show D.step.cnt ≤ _
      rw [step_cnt]; omega
    · rw [step_cnt]; omega
  · omega
theorem flush_cnt (D : Dk) : D.flush.cnt ≤ D.cnt + 1 := by
  unfold flush
  split
  · omega
  split
  · show D.step.cnt ≤ _
    rw [step_cnt]; omega
  · rw [step_cnt]; omega
theorem lastOf_len {i n : Nat} : ∀ (ps : List (Nat × List UInt8)) (b : List UInt8), (∀ p ∈ ps, p.2.length = n) → b.length = n → (lastOf i ps b).length = n
  | [], b, _, h => h
  | p :: ps, b, hp, h => lastOf_len ps _ (fun q hq => hp q (by simp [hq])) (by split; exact hp p (by simp); exact h)
theorem atS_len {D : Dk} (h : D.Ok) {i : Nat} (hi : i < D.sure.length) : (D.atS i).length = 64 :=
  lastOf_len _ _ (fun p hp => (h.pend p hp).2) (h.rows _ (by rw [List.getD_eq_getElem?_getD, List.getElem?_eq_getElem hi]; simp))
theorem lastOf_append (i : Nat) (b' : List UInt8) (j : Nat) : ∀ (ps : List (Nat × List UInt8)) (b : List UInt8), lastOf i (ps ++ [(j, b')]) b = if j = i then b' else lastOf i ps b
  | [], b => by simp [lastOf]
  | p :: ps, b => by rw [List.cons_append, lastOf, lastOf_append i b' j ps, lastOf]
/-- What was written last is what is there, once it is laid. -/
theorem laid_at {i : Nat} : ∀ (ps : List (Nat × List UInt8)) (s : List (List UInt8)), i < s.length → (laid ps s).getD i [] = lastOf i ps (s.getD i [])
  | [], s, _ => rfl
  | p :: ps, s, hi => by
    rw [laid, lastOf, laid_at ps _ (by simpa using hi)]
    congr 1
    by_cases e : p.1 = i
    · subst e
      rw [if_pos rfl, List.getD_eq_getElem?_getD, List.getElem?_set_self hi]; rfl
    · rw [if_neg e, List.getD_eq_getElem?_getD, List.getElem?_set_ne e, ← List.getD_eq_getElem?_getD]
theorem tear_at (ch : List UInt8) {i : Nat} : ∀ (ps : List (Nat × List UInt8)) (k : Nat) (s : List (List UInt8)), (∀ p ∈ ps, p.1 ≠ i) → (tear ch k ps s).getD i [] = s.getD i []
  | [], k, s, _ => rfl
  | p :: ps, k, s, h => by
    rw [tear, tear_at ch ps _ _ fun q hq => h q (by simp [hq])]
    rw [List.getD_eq_getElem?_getD, List.getElem?_set_ne (h p (by simp)), ← List.getD_eq_getElem?_getD]
theorem lastOf_none (i : Nat) : ∀ (ps : List (Nat × List UInt8)) (b : List UInt8), (∀ p ∈ ps, p.1 ≠ i) → lastOf i ps b = b
  | [], b, _ => rfl
  | p :: ps, b, h => by rw [lastOf, if_neg (h p (by simp)), lastOf_none i ps b fun q hq => h q (by simp [hq])]
end Dk
end Go.Proofs.Ytammgingmkdfhaa.S19
