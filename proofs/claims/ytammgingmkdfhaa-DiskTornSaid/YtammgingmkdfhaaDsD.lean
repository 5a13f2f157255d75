/-
  What the landed there, and the closure of its round, do. No statement is proved here.
-/
import Derived.Test.YtammgingmkdfhaaDsC
namespace Go.Proofs.Ytammgingmkdfhaa.S19
set_option linter.unusedSimpArgs false
set_option linter.unusedVariables false
set_option maxRecDepth 8192
open Go.RowKit

/-- From which to which of its bytes a write is there. -/
def thF (c : Nat) : Nat := if c % 4 = 3 then c / 4 else 0
def thT (c : Nat) : Nat := if c % 4 = 1 then 64 else if c % 4 = 2 then c / 4 else if c % 4 = 3 then 64 else 0
theorem th_le {c : Nat} (h : c < 256) : thF c ≤ thT c ∧ thT c ≤ 64 := by
  unfold thF thT
  split <;> split <;> (try split) <;> (try split) <;> omega
theorem tdiv4 (c : Nat) : (c : Int).tdiv 4 = ((c / 4 : Nat) : Int) := by rw [Int.tdiv_eq_ediv_of_nonneg (by omega)]; rfl
theorem tmod4 (c : Nat) : (c : Int).tmod 4 = ((c % 4 : Nat) : Int) := by rw [Int.tmod_eq_emod_of_nonneg (by omega)]; rfl
set_option maxHeartbeats 1000000 in
theorem there_any (c : Nat) (hc : c < 256) (w : World) : Calls Try.prog 37 #[.int .u8 (c : Int)] w fun e w' => e = .returned (.tuple #[.int .i64 (thF c : Int), .int .i64 (thT c : Int)]) ∧ w = w' := by
  have h1 := tdiv4 c
  have h2 := tmod4 c
  obtain ⟨q, hq⟩ : ∃ q, q = c / 4 := ⟨_, rfl⟩
  rw [← hq] at h1
  have hF : thF c = if c % 4 = 3 then q else 0 := by rw [hq]; rfl
  have hT : thT c = if c % 4 = 1 then 64 else if c % 4 = 2 then q else if c % 4 = 3 then 64 else 0 := by rw [hq]; rfl
  have h64 : q < 64 := by omega
  have w1 : IntKind.u8.wrap (q : Int) = (q : Int) := by rw [IntKind.wrap_u8]; omega
  have w2 : IntKind.i64.wrap (q : Int) = (q : Int) := by rw [IntKind.wrap_i64]; omega
  have hr : c % 4 = 0 ∨ c % 4 = 1 ∨ c % 4 = 2 ∨ c % 4 = 3 := by omega
  rw [hF, hT]
  clear hF hT hq
  rcases hr with hr | hr | hr | hr
  all_goals
    rw [hr] at h2 ⊢
    simp only [reduceIte, Nat.reduceEqDiff]
    go_enter Try.func37, Try.ntmps37
    go_wp2
    go_ret2
    exact ⟨rfl, rfl⟩
/-- How far the choices are counted. -/
def cntC (n k : Nat) : Nat := if n = 0 then 0 else k
set_option maxHeartbeats 2000000 in
/-- The next choice. -/
theorem next_any (w : World) (pb ib : Nat) (A : Option Addr) (n c : Nat) (ch : List UInt8) (k : Nat) (hk : k + 1 ≤ 9223372036854775807) (h1 : Bk w pb 30 #[.slice A n c]) (h2 : Bk w ib 3 #[.int .i64 (cntC n k : Int)]) (hr : Rd w A n c ch) :
    Calls Try.prog 43 #[.pointer (some ⟨pb, 0, none⟩), .pointer (some ⟨ib, 0, none⟩)] w fun e w' => e = .returned (.int .u8 (Dk.choice ch k : Int)) ∧ Bk w' ib 3 #[.int .i64 (cntC n (k + 1) : Int)] ∧ w.grownBy w' (some ib) := by
  have a0 : w.cell? ⟨pb, 0, none⟩ = some (.slice A n c) := h1.cell 0
  have hl := hr.len
  rcases Nat.eq_zero_or_pos n with h0 | h0
  · subst h0
    obtain rfl : ch = [] := List.eq_nil_of_length_eq_zero hl
    rw [show Dk.choice [] k = 0 from rfl]
    go_enter Try.func43, Try.ntmps43
    go_wp2
    go_ret
    exact ⟨rfl, h2, World.grownBy.refl _ _⟩
  · have hne : n ≠ 0 := by omega
    have hch : ch ≠ [] := fun e => by rw [e] at hl; simp at hl; omega
    have e1 : cntC n k = k := by simp [cntC, hne]
    have e2 : cntC n (k + 1) = k + 1 := by simp [cntC, hne]
    rw [e1] at h2
    rw [e2]
    obtain ⟨m, hm⟩ : ∃ m, m = k % n := ⟨_, rfl⟩
    have hmn : m < n := by rw [hm]; exact Nat.mod_lt _ h0
    have e3 : Dk.choice ch k = (ch.getD m 0).toNat := by simp [Dk.choice, hch, hl, hm]
    rw [e3]
    obtain ⟨b, off, rfl, hb, hc⟩ := hr.at_ h0
    have hcm := hc m hmn
    have t1 : (k : Int).tmod (n : Int) = (m : Int) := by rw [Int.tmod_eq_emod_of_nonneg (by omega), hm]; rfl
    have q1 : ((n : Int) == 0) = false := by simp; omega
    have m1 : (m : Int) < (n : Int) := by omega
    have w0 : wrap64 (m : Int) = (m : Int) := by unfold wrap64; have := hr.cap; have := hr.max; simp only [maxLen] at this; omega
    have w1 : wrap64 ((k : Int) + 1) = ((k + 1 : Nat) : Int) := by unfold wrap64; omega
    have H1 := Lib.hid h1
    have H2 := Lib.hid h2
    have HR := Lib.hid hr
    have A0 := Lib.hid (show w.drew.cell? ⟨pb, 0, none⟩ = some (.slice (some ⟨b, off, none⟩) n c) from a0)
    have A1 := Lib.hid (show w.drew.cell? ⟨ib, 0, none⟩ = some (.int .i64 (k : Int)) from h2.cell 0)
    have A2 := Lib.hid (show w.drew.cell? ⟨b, off + m, none⟩ = some (.int .u8 ((ch.getD m 0).toNat : Int)) from hcm)
    obtain ⟨cv, hcv⟩ : ∃ cv : Int, cv = ((ch.getD m 0).toNat : Int) := ⟨_, rfl⟩
    rw [← hcv] at A2 ⊢
    have k2 : w.drew.cell? ⟨ib, 0, none⟩ = some (.int .i64 (k : Int)) := h2.cell 0
    have z2 : w.drew.frozen? ⟨ib, 0, none⟩ = false := h2.frozen 0
    clear h1 h2 hr hl hc hcm hm hch e1 e2 e3 hcv hk
    have h0' : ¬ (n : Int) = 0 := by omega
    go_enter Try.func43, Try.ntmps43
    go_upto_region 3 with (fail)
    (go_region_held3 (fun X => X.cell? ⟨pb, 0, none⟩ = some (.slice (some ⟨b, off, none⟩) n c) ∧ X.cell? ⟨ib, 0, none⟩ = some (.int .i64 (k : Int)) ∧ X.cell? ⟨b, off + m, none⟩ = some (.int .u8 cv)) (exact ⟨A0.out, A1.out, A2.out⟩) (fail))
    go_wp2_with (fail)
    go_ret
    refine ⟨rfl, H2.out.drew.put 0 _, ?_⟩
    exact only_put (show w.grownBy w.drew (some ib) from ⟨rfl, rfl, rfl, Nat.le_refl _, fun _ _ _ => rfl⟩) (.inl rfl) _
set_option maxHeartbeats 1000000 in
theorem round_any (w : World) (A : Option Addr) (n c : Nat) : Calls Try.prog 36 #[.slice A n c] w fun e w' => e = .returned (.func (.func 43) #[] #[.pointer (some ⟨w.heap.size, 0, none⟩), .pointer (some ⟨w.heap.size + 1, 0, none⟩)]) ∧
    Bk w' w.heap.size 30 #[.slice A n c] ∧ Bk w' (w.heap.size + 1) 3 #[.int .i64 0] ∧ Below w.heap.size w w' ∧ w'.heap.size = w.heap.size + 2 := by
  have hmf : ∀ (fn : Fn) (first cap : Array Value) (w : World), (Instr.makeFunc fn first cap).run Try.prog w = .ok (.func fn first cap) w := fun _ _ _ _ => rfl
  have k1 : ((w.alloc (.cells #[.slice A n c] 30)).alloc (.cells #[.int .i64 0] 3)).cell? ⟨w.heap.size + 1, 0, none⟩ = some (.int .i64 0) := (Bk.newAt (w.alloc (.cells #[.slice A n c] 30)) 3 #[.int .i64 0] (w.heap.size + 1) (by simp)).cell 0
  have z1 := (Bk.newAt (w.alloc (.cells #[.slice A n c] 30)) 3 #[.int .i64 0] (w.heap.size + 1) (by simp)).frozen 0
  go_enter Try.func36, Try.ntmps36
  go_wp2
  go_ret
  refine ⟨rfl, (Bk.newAt w _ _ w.heap.size rfl).alloc _, Bk.newAt _ _ _ (w.heap.size + 1) (by simp), ((Below.refl _ _).alloc (Nat.le_refl _) _).alloc (by simp) _, by simp⟩
end Go.Proofs.Ytammgingmkdfhaa.S19
