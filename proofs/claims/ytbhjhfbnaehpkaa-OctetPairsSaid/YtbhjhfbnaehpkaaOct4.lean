/-
  What the calls of package octet do: first, Cut.
-/
import Derived.Test.YtbhjhfbnaehpkaaOct3
import Derived.Recover
import Derived.Laws.Panics
import Derived.Laws.PanicsMore
namespace Go.Proofs.Ytbhjhfbnaehpkaa
set_option linter.unusedSimpArgs false
set_option linter.unusedVariables false
open Go.RowKit

theorem first_ok (A : Option Addr) (m c n : Nat) (xs : List UInt8) (w : World) (h : Rd w A m c xs) (hn : n ≤ m) (hm : n ≤ 140737488355328) :
    Calls Try.prog 22 #[.slice A m c, .int .i64 (n : Int)] w (New w.heap.size w (xs.take n)) := by
  have hcap := h.cap
  have hmax := h.max
  unfold maxLen at hmax
  have hr := RdBs.built1 w 23 (h.take hn)
  have ht : [xs.take n].flatten.length ≤ 140737488355328 := by simp; omega
  go_enter Try.func22, Try.ntmps22
  go_wp2_with (go_at_call 18; refine (cat_any _ 1 1 _ _ hr ht).mono ?_; rintro e w' ⟨A1, n1, c1, rfl, ho, hb⟩)
  go_ret
  exact New.from ((Below.refl _ _).alloc (Nat.le_refl _) _) ⟨A1, n1, c1, rfl, by simpa using ho, hb⟩

theorem first_neg (A : Option Addr) (m c : Nat) (n : Int) (w : World) (hn : n < 0) :
    Calls Try.prog 22 #[.slice A m c, .int .i64 n] w fun e w' => e = .panicked [{ v := .iface 47 (.agg #[.int .i64 1]), recovered := false }] ∧ w = w' := by
  go_enter Try.func22, Try.ntmps22
  go_wp2
  exact ⟨rfl, rfl, rfl⟩

theorem first_short (A : Option Addr) (m c n : Nat) (w : World) (hn : m < n) (hm : n ≤ maxLen) :
    Calls Try.prog 22 #[.slice A m c, .int .i64 n] w fun e w' => e = .panicked [{ v := .iface 47 (.agg #[.int .i64 2]), recovered := false }] ∧ w = w' := by
  unfold maxLen at hm
  go_enter Try.func22, Try.ntmps22
  go_wp2
  exact ⟨rfl, rfl, rfl⟩

set_option maxHeartbeats 1000000 in
theorem cut_caught (B p q : Nat) (x : Value) (y k : Int) (older : List PanicEntry) (w : World) (hp : w.heap[p]? = some (.cells #[x] 37 (0, 0))) (hq : w.heap[q]? = some (.cells #[.int .i64 y] 38 (0, 0))) (hBp : B ≤ p) (hBq : B ≤ q) (hpq : p ≠ q) :
    CallsD Try.prog 21 #[.pointer (some ⟨p, 0, none⟩), .pointer (some ⟨q, 0, none⟩)] (.panicking ({ v := .iface 47 (.agg #[.int .i64 k]), recovered := false } :: older)) w fun e u' w' =>
      e = .returned (.tuple #[]) ∧ u' = .panicking ({ v := .iface 47 (.agg #[.int .i64 k]), recovered := true } :: older) ∧ w'.cell? ⟨p, 0, none⟩ = some (.slice none 0 0) ∧ w'.cell? ⟨q, 0, none⟩ = some (.int .i64 k) ∧ Below B w w' := by
  have lp := lt_of_block hp
  have lq := lt_of_block hq
  have c1 := cell_of_one hp
  have c2 := cell_of_one hq
  have f1 := free_of_one hp
  have f2 := free_of_one hq
  refine callsD_of_wpS Try.func21 rfl fun c₀ cs hu => ?_
  apply wpS_seq
  apply wpS_region
  simp [wpOpsS, go_sem, recoverD, hu, Try.ntmps21, Exit.thenS, Array.replicate, List.replicate]
  refine wpS_of_wp ?_
  have ta : ∀ w, (Instr.typeAssert (.iface 47 (.agg #[.int .i64 k])) 20 47 true).run Try.prog w = .ok (.tuple #[.agg #[.int .i64 k], .bool true]) w := fun _ => by kernel_rfl
  go_wp2
  go_region
  have hsz : B ≤ w.heap.size := by omega
  refine ⟨rfl, _, rfl, .tuple #[], by simp [results, Try.results21], rfl, rfl, ?_, ?_, ((((Below.refl _ _).setCell hBp _).setCell hBq _).alloc (by simpa [World.setCell] using hsz) _).drew⟩
  · go_simp
  · go_simp

theorem cut_idle (p q : Addr) (w : World) :
    CallsD Try.prog 21 #[.pointer (some p), .pointer (some q)] .returning w fun e u' w' => e = .returned (.tuple #[]) ∧ u' = .returning ∧ w' = w := by
  refine callsD_of_wpS Try.func21 rfl fun c₀ cs hu => ?_
  apply wpS_seq
  apply wpS_region
  simp [wpOpsS, go_sem, recoverD, hu, Try.ntmps21, Exit.thenS, Array.replicate, List.replicate]
  refine wpS_of_wp ?_
  go_wp2
  cases c₀
  cases hu
  exact ⟨rfl, _, rfl, .tuple #[], by simp [results, Try.results21], rfl, rfl, rfl⟩
end Go.Proofs.Ytbhjhfbnaehpkaa
