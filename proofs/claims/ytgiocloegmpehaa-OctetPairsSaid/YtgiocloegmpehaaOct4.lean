/-
  What the calls of package octet do: first, and Cut's deferred call.
-/
import Derived.Test.YtgiocloegmpehaaOct3
import Derived.Test.YtgiocloegmpehaaLv
namespace Go.Proofs.Ytgiocloegmpehaa
set_option linter.unusedSimpArgs false
set_option linter.unusedVariables false
open Go.RowKit

theorem first_ok (A : Option Addr) (m c n : Nat) (xs : List UInt8) (w : World) (h : Rd w A m c xs) (hn : n ≤ m) (hm : n ≤ 140737488355328) :
    Calls Try.prog 23 #[.slice A m c, .int .i64 (n : Int)] w (New w.heap.size w (xs.take n)) := by
  have hcap := h.cap
  have hmax := h.max
  unfold maxLen at hmax
  have hr := RdBs.built1 w 23 (h.take hn)
  have ht : [xs.take n].flatten.length ≤ 140737488355328 := by simp; omega
  have HY := Lib.hid (fun k X => LV.need_yes k X)
  have q1 : decide (n ≤ m) = true := by simpa using hn
  go_enter Try.func23, Try.ntmps23
  go_wp2_with (first
    | (go_at_call 24; ((with_reducible refine (HY.out _ _).mono ?_); rintro e w1 ⟨rfl, rfl⟩))
    | (go_at_call 18; refine (cat_any _ 1 1 _ _ hr ht).mono ?_; rintro e w' ⟨A1, n1, c1, rfl, ho, hb⟩))
  go_ret
  exact New.from ((Below.refl _ _).alloc (Nat.le_refl _) _) ⟨A1, n1, c1, rfl, by simpa using ho, hb⟩
theorem first_neg (A : Option Addr) (m c : Nat) (n : Int) (w : World) (hn : n < 0) :
    Calls Try.prog 23 #[.slice A m c, .int .i64 n] w fun e w' => e = .panicked [LV.wrg 1] ∧ w = w' := by
  have HN := Lib.hid (fun k X => LV.need_no k X)
  have q1 : decide (0 ≤ n) = false := by simpa using hn
  clear hn
  go_enter Try.func23, Try.ntmps23
  go_wp2_with (go_at_call 24; ((with_reducible refine (HN.out _ _).mono ?_); rintro e w1 ⟨rfl, rfl⟩))
  exact ⟨rfl, rfl, rfl⟩
theorem first_short (A : Option Addr) (m c n : Nat) (w : World) (hn : m < n) (hm : n ≤ maxLen) :
    Calls Try.prog 23 #[.slice A m c, .int .i64 n] w fun e w' => e = .panicked [LV.wrg 2] ∧ w = w' := by
  unfold maxLen at hm
  have HY := Lib.hid (fun X => LV.need_yes 1 X)
  have HN := Lib.hid (fun X => LV.need_no 2 X)
  have q1 : decide (n ≤ m) = false := by simpa using hn
  clear hn
  go_enter Try.func23, Try.ntmps23
  go_wp2_with (first
    | (go_at_call 24; ((with_reducible refine (HY.out _).mono ?_); rintro e w1 ⟨rfl, rfl⟩))
    | (go_at_call 24; ((with_reducible refine (HN.out _).mono ?_); rintro e w1 ⟨rfl, rfl⟩)))
  exact ⟨rfl, rfl, rfl⟩
theorem cut_caught (q : Nat) (y k : Int) (older : List PanicEntry) (w : World) (hq : Bk w q 38 #[.int .i64 y]) :
    CallsD Try.prog 21 #[.pointer (some ⟨q, 0, none⟩)] (.panicking (LV.wrg k :: older)) w fun e u' w' =>
      e = .returned (.tuple #[]) ∧ u' = .panicking ({ v := .iface 50 (.agg #[.int .i64 k]), recovered := true } :: older) ∧ ∃ w1, Below w.heap.size w w1 ∧ w' = w1.setCell ⟨q, 0, none⟩ (.int .i64 k) := by
  have c1 := cell_of_one hq
  have f1 := free_of_one hq
  refine callsD_of_wpS Try.func21 rfl fun c₀ cs hu => ?_
  apply wpS_region
  simp [wpOpsS, go_sem, recoverD, hu, LV.wrg, Try.ntmps21, Exit.thenS, Array.replicate, List.replicate]
  refine (LV.told_wrong k w).mono ?_
  rintro e w' ⟨rfl, hb⟩
  have c2 := cell_of_one (hq.below hb hq.lt)
  have f2 := free_of_one (hq.below hb hq.lt)
  simp [go_sem, c2, f2, Oper.upon, bodyPostS, results, Try.results21]
  exact ⟨w', hb, rfl⟩
theorem cut_idle (q : Nat) (y : Int) (w : World) (hq : Bk w q 38 #[.int .i64 y]) :
    CallsD Try.prog 21 #[.pointer (some ⟨q, 0, none⟩)] .returning w fun e u' w' => e = .returned (.tuple #[]) ∧ u' = .returning ∧ w' = w.setCell ⟨q, 0, none⟩ (.int .i64 0) := by
  have c1 := cell_of_one hq
  have f1 := free_of_one hq
  refine callsD_of_wpS Try.func21 rfl fun c₀ cs hu => ?_
  apply wpS_region
  simp [wpOpsS, go_sem, recoverD, hu, Try.ntmps21, Exit.thenS, Array.replicate, List.replicate]
  refine (LV.told_nil w).mono ?_
  rintro e w' ⟨rfl, rfl⟩
  simp [go_sem, c1, f1, Oper.upon, bodyPostS, results, Try.results21]
  cases c₀
  cases hu
  rfl
end Go.Proofs.Ytgiocloegmpehaa
