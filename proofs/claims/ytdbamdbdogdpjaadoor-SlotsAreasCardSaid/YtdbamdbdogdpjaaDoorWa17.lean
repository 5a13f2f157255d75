/-
  Texts put together: Sk8, OctS, OctX, DsS, Ds4, Ds5. No statement is proved here.
-/
import Derived.Test.YtdbamdbdogdpjaaDoorWa16
import Derived.Test.YtdbamdbdogdpjaaDoorWa02
import Derived.Test.YtdbamdbdogdpjaaDoorWa06
import Derived.RegionTactic
import Derived.ChangeAlike
import Derived.Shelf.Sort.Plain
import Derived.Shelf.Slices.SearchI
import Derived.Shelf.Slices.In.SortNone
import Derived.Shelf.Slices.Empties
import Derived.Test.YtdbamdbdogdpjaaDoorWa01
import Derived.Test.YtdbamdbdogdpjaaDoorWa07
import Derived.Sort.OwnSortedInts
import Derived.Deep.RegionHeld3

/-
  What the deferred calls of the landed slots do, and how the calls that defer them end. No statement is proved here. (Written by gensk8.py.)
-/
namespace Go.Proofs.YtdbamdbdogdpjaaDoor.S20
set_option linter.unusedSimpArgs false
set_option linter.unusedVariables false
set_option maxRecDepth 4096
open Go.RowKit S19

theorem results_tmp2_cell {fn : Func} {p p2 q : Tmp} (h : fn.results = #[.tmp p, .tmp p2, .cell q 24]) (tmps : Array Value) (w : World) (g' : Nat) (n : Int) (v v2 : Value)
    (hp : tmps.getD p undef = v) (hp2 : tmps.getD p2 undef = v2) (hq : tmps.getD q undef = .pointer (some ⟨g', 0, none⟩)) (hc : w.cell? ⟨g', 0, none⟩ = some (.int .i64 n)) : (results fn tmps).run Tryd.prog w = .ok (.tuple #[v, v2, .int .i64 n]) w := by
  have hp' : tmps[p]?.getD undef = v := by simpa using hp
  have hp2' : tmps[p2]?.getD undef = v2 := by simpa using hp2
  have hq' : tmps[q]?.getD undef = .pointer (some ⟨g', 0, none⟩) := by simpa using hq
  simp [results, h, hp', hp2', hq', asAddr, load_codeD g' n w hc]
theorem snew1_idle (q : Nat) (y : Int) (w : World) (hq : Bk w q 24 #[.int .i64 y]) :
    CallsD Tryd.prog 26 #[.pointer (some ⟨q, 0, none⟩)] .returning w fun e u' w' => e = .returned (.tuple #[]) ∧ u' = .returning ∧ w' = w.setCell ⟨q, 0, none⟩ (.int .i64 0) := by
  have c1 := cell_of_one hq
  have f1 := free_of_one hq
  refine callsD_of_wpS Tryd.func26 rfl fun c₀ cs hu => ?_
  apply wpS_region
  simp [wpOpsS, go_sem, recoverD, hu, LV.wrg, Tryd.ntmps26, Exit.thenS, Array.replicate, List.replicate]
  refine (LV.told_nil w).mono ?_
  rintro e w' ⟨rfl, rfl⟩
  simp [go_sem, c1, f1, Oper.upon, bodyPostS, results, Tryd.results26]
  cases c₀
  cases hu
  rfl
theorem snew1_caught (q : Nat) (y k : Int) (older : List PanicEntry) (w : World) (hq : Bk w q 24 #[.int .i64 y]) :
    CallsD Tryd.prog 26 #[.pointer (some ⟨q, 0, none⟩)] (.panicking (LV.wrg k :: older)) w fun e u' w' =>
      e = .returned (.tuple #[]) ∧ u' = .panicking ({ v := .iface 89 (.agg #[.int .i64 k]), recovered := true } :: older) ∧ ∃ w1, Below w.heap.size w w1 ∧ w' = w1.setCell ⟨q, 0, none⟩ (.int .i64 k) := by
  have c1 := cell_of_one hq
  have f1 := free_of_one hq
  refine callsD_of_wpS Tryd.func26 rfl fun c₀ cs hu => ?_
  apply wpS_region
  simp [wpOpsS, go_sem, recoverD, hu, LV.wrg, Tryd.ntmps26, Exit.thenS, Array.replicate, List.replicate]
  refine (LV.told_wrong k w).mono ?_
  rintro e w' ⟨rfl, hb⟩
  have c2 := cell_of_one (hq.below hb hq.lt)
  have f2 := free_of_one (hq.below hb hq.lt)
  simp [go_sem, c2, f2, Oper.upon, bodyPostS, results, Tryd.results26]
  exact ⟨w', hb, rfl⟩
theorem snew_ret {Q : Ending → World → Prop} {w' : World} {g3 : Nat} {y : Int} {tmps : Array Value} {v : Value} (hv : tmps.getD 6 undef = v) (h3 : Bk w' g3 24 #[.int .i64 y]) (k3 : tmps.getD 7 undef = .pointer (some ⟨g3, 0, none⟩))
    (post : Q (.returned (.tuple #[v, .int .i64 0])) (w'.setCell ⟨g3, 0, none⟩ (.int .i64 0))) :
    bodyPostD Tryd.prog Tryd.f9 Q Exit.ret { tmps := tmps, defers := [{ target := Target.fn (Fn.func 26) #[.pointer (some ⟨g3, 0, none⟩)], args := #[] }] } w' := by
  refine leaves_cons (f := 26) (args := #[.pointer (some ⟨g3, 0, none⟩)]) (by simp) (by simp [go_sem]) ?_
  refine (snew1_idle g3 y w' h3).mono ?_
  rintro e1 u' w'' ⟨rfl, rfl, rfl⟩
  have hr := results_tmp_cell (fn := Tryd.f9) rfl tmps (w'.setCell ⟨g3, 0, none⟩ (.int .i64 0)) g3 0 v hv k3 (cell_of_one (h3.put 0 _))
  simp [Leaves, settle, hr]
  exact post
theorem snew_bad {Q : Ending → World → Prop} {w' : World} {g3 : Nat} {y k : Int} {tmps : Array Value} {v : Value} (hv : tmps.getD 6 undef = v) (h3 : Bk w' g3 24 #[.int .i64 y]) (k3 : tmps.getD 7 undef = .pointer (some ⟨g3, 0, none⟩))
    (post : ∀ w1, Below w'.heap.size w' w1 → Q (.returned (.tuple #[v, .int .i64 k])) (w1.setCell ⟨g3, 0, none⟩ (.int .i64 k))) :
    bodyPostD Tryd.prog Tryd.f9 Q (Exit.panic [LV.wrg k]) { tmps := tmps, defers := [{ target := Target.fn (Fn.func 26) #[.pointer (some ⟨g3, 0, none⟩)], args := #[] }] } w' := by
  refine leaves_cons (f := 26) (args := #[.pointer (some ⟨g3, 0, none⟩)]) (by simp) (by simp [go_sem]) ?_
  refine (snew1_caught g3 y k [] w' h3).mono ?_
  rintro e1 u' w'' ⟨rfl, rfl, w1, hb1, rfl⟩
  have h3' := h3.below hb1 h3.lt
  have hr := results_tmp_cell (fn := Tryd.f9) rfl tmps (w1.setCell ⟨g3, 0, none⟩ (.int .i64 k)) g3 k v hv k3 (cell_of_one (h3'.put 0 _))
  simp [Leaves, settle, hr]
  exact post w1 hb1
theorem sload1_idle (q : Nat) (y : Int) (w : World) (hq : Bk w q 24 #[.int .i64 y]) :
    CallsD Tryd.prog 36 #[.pointer (some ⟨q, 0, none⟩)] .returning w fun e u' w' => e = .returned (.tuple #[]) ∧ u' = .returning ∧ w' = w.setCell ⟨q, 0, none⟩ (.int .i64 0) := by
  have c1 := cell_of_one hq
  have f1 := free_of_one hq
  refine callsD_of_wpS Tryd.func36 rfl fun c₀ cs hu => ?_
  apply wpS_region
  simp [wpOpsS, go_sem, recoverD, hu, LV.wrg, Tryd.ntmps36, Exit.thenS, Array.replicate, List.replicate]
  refine (LV.told_nil w).mono ?_
  rintro e w' ⟨rfl, rfl⟩
  simp [go_sem, c1, f1, Oper.upon, bodyPostS, results, Tryd.results36]
  cases c₀
  cases hu
  rfl
theorem sload1_caught (q : Nat) (y k : Int) (older : List PanicEntry) (w : World) (hq : Bk w q 24 #[.int .i64 y]) :
    CallsD Tryd.prog 36 #[.pointer (some ⟨q, 0, none⟩)] (.panicking (LV.wrg k :: older)) w fun e u' w' =>
      e = .returned (.tuple #[]) ∧ u' = .panicking ({ v := .iface 89 (.agg #[.int .i64 k]), recovered := true } :: older) ∧ ∃ w1, Below w.heap.size w w1 ∧ w' = w1.setCell ⟨q, 0, none⟩ (.int .i64 k) := by
  have c1 := cell_of_one hq
  have f1 := free_of_one hq
  refine callsD_of_wpS Tryd.func36 rfl fun c₀ cs hu => ?_
  apply wpS_region
  simp [wpOpsS, go_sem, recoverD, hu, LV.wrg, Tryd.ntmps36, Exit.thenS, Array.replicate, List.replicate]
  refine (LV.told_wrong k w).mono ?_
  rintro e w' ⟨rfl, hb⟩
  have c2 := cell_of_one (hq.below hb hq.lt)
  have f2 := free_of_one (hq.below hb hq.lt)
  simp [go_sem, c2, f2, Oper.upon, bodyPostS, results, Tryd.results36]
  exact ⟨w', hb, rfl⟩
theorem sload_ret {Q : Ending → World → Prop} {w' : World} {g3 : Nat} {y : Int} {tmps : Array Value} {v v2 : Value} (hv : tmps.getD 2 undef = v) (hv2 : tmps.getD 3 undef = v2) (h3 : Bk w' g3 24 #[.int .i64 y]) (k3 : tmps.getD 4 undef = .pointer (some ⟨g3, 0, none⟩))
    (post : Q (.returned (.tuple #[v, v2, .int .i64 0])) (w'.setCell ⟨g3, 0, none⟩ (.int .i64 0))) :
    bodyPostD Tryd.prog Tryd.f17 Q Exit.ret { tmps := tmps, defers := [{ target := Target.fn (Fn.func 36) #[.pointer (some ⟨g3, 0, none⟩)], args := #[] }] } w' := by
  refine leaves_cons (f := 36) (args := #[.pointer (some ⟨g3, 0, none⟩)]) (by simp) (by simp [go_sem]) ?_
  refine (sload1_idle g3 y w' h3).mono ?_
  rintro e1 u' w'' ⟨rfl, rfl, rfl⟩
  have hr := results_tmp2_cell (fn := Tryd.f17) rfl tmps (w'.setCell ⟨g3, 0, none⟩ (.int .i64 0)) g3 0 v v2 hv hv2 k3 (cell_of_one (h3.put 0 _))
  simp [Leaves, settle, hr]
  exact post
theorem sload_bad {Q : Ending → World → Prop} {w' : World} {g3 : Nat} {y k : Int} {tmps : Array Value} {v v2 : Value} (hv : tmps.getD 2 undef = v) (hv2 : tmps.getD 3 undef = v2) (h3 : Bk w' g3 24 #[.int .i64 y]) (k3 : tmps.getD 4 undef = .pointer (some ⟨g3, 0, none⟩))
    (post : ∀ w1, Below w'.heap.size w' w1 → Q (.returned (.tuple #[v, v2, .int .i64 k])) (w1.setCell ⟨g3, 0, none⟩ (.int .i64 k))) :
    bodyPostD Tryd.prog Tryd.f17 Q (Exit.panic [LV.wrg k]) { tmps := tmps, defers := [{ target := Target.fn (Fn.func 36) #[.pointer (some ⟨g3, 0, none⟩)], args := #[] }] } w' := by
  refine leaves_cons (f := 36) (args := #[.pointer (some ⟨g3, 0, none⟩)]) (by simp) (by simp [go_sem]) ?_
  refine (sload1_caught g3 y k [] w' h3).mono ?_
  rintro e1 u' w'' ⟨rfl, rfl, w1, hb1, rfl⟩
  have h3' := h3.below hb1 h3.lt
  have hr := results_tmp2_cell (fn := Tryd.f17) rfl tmps (w1.setCell ⟨g3, 0, none⟩ (.int .i64 k)) g3 k v v2 hv hv2 k3 (cell_of_one (h3'.put 0 _))
  simp [Leaves, settle, hr]
  exact post w1 hb1
theorem ssave1_idle (q : Nat) (y : Int) (w : World) (hq : Bk w q 24 #[.int .i64 y]) :
    CallsD Tryd.prog 28 #[.pointer (some ⟨q, 0, none⟩)] .returning w fun e u' w' => e = .returned (.tuple #[]) ∧ u' = .returning ∧ w' = w.setCell ⟨q, 0, none⟩ (.int .i64 0) := by
  have c1 := cell_of_one hq
  have f1 := free_of_one hq
  refine callsD_of_wpS Tryd.func28 rfl fun c₀ cs hu => ?_
  apply wpS_region
  simp [wpOpsS, go_sem, recoverD, hu, LV.wrg, Tryd.ntmps28, Exit.thenS, Array.replicate, List.replicate]
  refine (LV.told_nil w).mono ?_
  rintro e w' ⟨rfl, rfl⟩
  simp [go_sem, c1, f1, Oper.upon, bodyPostS, results, Tryd.results28]
  cases c₀
  cases hu
  rfl
theorem ssave1_caught (q : Nat) (y k : Int) (older : List PanicEntry) (w : World) (hq : Bk w q 24 #[.int .i64 y]) :
    CallsD Tryd.prog 28 #[.pointer (some ⟨q, 0, none⟩)] (.panicking (LV.wrg k :: older)) w fun e u' w' =>
      e = .returned (.tuple #[]) ∧ u' = .panicking ({ v := .iface 89 (.agg #[.int .i64 k]), recovered := true } :: older) ∧ ∃ w1, Below w.heap.size w w1 ∧ w' = w1.setCell ⟨q, 0, none⟩ (.int .i64 k) := by
  have c1 := cell_of_one hq
  have f1 := free_of_one hq
  refine callsD_of_wpS Tryd.func28 rfl fun c₀ cs hu => ?_
  apply wpS_region
  simp [wpOpsS, go_sem, recoverD, hu, LV.wrg, Tryd.ntmps28, Exit.thenS, Array.replicate, List.replicate]
  refine (LV.told_wrong k w).mono ?_
  rintro e w' ⟨rfl, hb⟩
  have c2 := cell_of_one (hq.below hb hq.lt)
  have f2 := free_of_one (hq.below hb hq.lt)
  simp [go_sem, c2, f2, Oper.upon, bodyPostS, results, Tryd.results28]
  exact ⟨w', hb, rfl⟩
theorem ssave_ret {Q : Ending → World → Prop} {w' : World} {g3 : Nat} {y : Int} {tmps : Array Value} (h3 : Bk w' g3 24 #[.int .i64 y]) (k3 : tmps.getD 4 undef = .pointer (some ⟨g3, 0, none⟩))
    (post : Q (.returned (.int .i64 0)) (w'.setCell ⟨g3, 0, none⟩ (.int .i64 0))) :
    bodyPostD Tryd.prog Tryd.f14 Q Exit.ret { tmps := tmps, defers := [{ target := Target.fn (Fn.func 28) #[.pointer (some ⟨g3, 0, none⟩)], args := #[] }] } w' := by
  refine leaves_cons (f := 28) (args := #[.pointer (some ⟨g3, 0, none⟩)]) (by simp) (by simp [go_sem]) ?_
  refine (ssave1_idle g3 y w' h3).mono ?_
  rintro e1 u' w'' ⟨rfl, rfl, rfl⟩
  have hr := results_one_cell (fn := Tryd.f14) rfl tmps (w'.setCell ⟨g3, 0, none⟩ (.int .i64 0)) g3 0 k3 (cell_of_one (h3.put 0 _))
  simp [Leaves, settle, hr]
  exact post
theorem ssave_bad {Q : Ending → World → Prop} {w' : World} {g3 : Nat} {y k : Int} {tmps : Array Value} (h3 : Bk w' g3 24 #[.int .i64 y]) (k3 : tmps.getD 4 undef = .pointer (some ⟨g3, 0, none⟩))
    (post : ∀ w1, Below w'.heap.size w' w1 → Q (.returned (.int .i64 k)) (w1.setCell ⟨g3, 0, none⟩ (.int .i64 k))) :
    bodyPostD Tryd.prog Tryd.f14 Q (Exit.panic [LV.wrg k]) { tmps := tmps, defers := [{ target := Target.fn (Fn.func 28) #[.pointer (some ⟨g3, 0, none⟩)], args := #[] }] } w' := by
  refine leaves_cons (f := 28) (args := #[.pointer (some ⟨g3, 0, none⟩)]) (by simp) (by simp [go_sem]) ?_
  refine (ssave1_caught g3 y k [] w' h3).mono ?_
  rintro e1 u' w'' ⟨rfl, rfl, w1, hb1, rfl⟩
  have h3' := h3.below hb1 h3.lt
  have hr := results_one_cell (fn := Tryd.f14) rfl tmps (w1.setCell ⟨g3, 0, none⟩ (.int .i64 k)) g3 k k3 (cell_of_one (h3'.put 0 _))
  simp [Leaves, settle, hr]
  exact post w1 hb1
end Go.Proofs.YtdbamdbdogdpjaaDoor.S20

/-
  What the landed octet.Same does. No statement is proved here.
-/
namespace Go.Proofs.YtdbamdbdogdpjaaDoor
set_option linter.unusedSimpArgs false
set_option linter.unusedVariables false
set_option maxRecDepth 1024
open Go.RowKit

/-- 'string(b)' of bytes that read. -/
theorem Rd.convert {w : World} {A : Option Addr} {n c : Nat} {xs : List UInt8} (h : Rd w A n c xs) :
    (convert 36 9 (.slice A n c)).run Tryd.prog w = .ok (.string ⟨xs.toArray⟩) w := by
  rcases Nat.eq_zero_or_pos n with hn | hn
  · subst hn
    obtain rfl : xs = [] := List.eq_nil_of_length_eq_zero h.len
    rw [run_convert_bytes_string w 36 9 5 _ 0 c Tryd.underlying36 Tryd.underlying5 Tryd.underlying9]
    cases A <;> simp [Conv.bytesToString, loadCells]
    all_goals rfl
  · obtain ⟨b, o, rfl, _, hc⟩ := h.at_ hn
    have e := run_convert_bytes_arg (P := Tryd.prog) w 36 5 Tryd.underlying36 Tryd.underlying5 b o n c (xs.map fun x => (x.toNat : Int)) (by simp [h.len])
      (fun i hi => by
        have hl : i < xs.length := by have := h.len; omega
        rw [hc i hi]; simp [List.getD, hl]) 9 Tryd.underlying9
    rw [e]
    have : strOfNums (xs.map fun x => (x.toNat : Int)) = ⟨xs.toArray⟩ := by
      simp [strOfNums, Function.comp_def]
    rw [this]

theorem equal_any (A A' : Option Addr) (n c n' c' : Nat) (xs ys : List UInt8) (w : World) (h : Rd w A n c xs) (h' : Rd w A' n' c' ys) :
    Calls Tryd.prog 62 #[.slice A n c, .slice A' n' c'] w fun e w' => e = .returned (.bool (sameB xs ys)) ∧ w = w' := by
  have c1 := h.convert
  have c2 := h'.convert
  go_enter Tryd.func62, Tryd.ntmps62
  go_wp2
  go_ret
  exact ⟨rfl, rfl⟩

theorem same_any (A A' : Option Addr) (n c n' c' : Nat) (xs ys : List UInt8) (w : World) (h : Rd w A n c xs) (h' : Rd w A' n' c' ys) :
    Calls Tryd.prog 54 #[.slice A n c, .slice A' n' c'] w fun e w' => e = .returned (.bool (sameB xs ys)) ∧ w = w' := by
  go_enter Tryd.func54, Tryd.ntmps54
  go_wp2_with (go_at_call 62; refine (equal_any A A' n c n' c' xs ys _ h h').mono ?_; rintro e w' ⟨rfl, rfl⟩)
  go_ret
  exact ⟨rfl, rfl⟩
end Go.Proofs.YtdbamdbdogdpjaaDoor

/-
  What the calls of package octet do: Fill and Xor.
-/
namespace Go.Proofs.YtdbamdbdogdpjaaDoor
set_option linter.unusedSimpArgs false
set_option linter.unusedVariables false
set_option maxRecDepth 1024
open Go.RowKit

theorem fill_step (b : UInt8) (k n : Nat) (h : k < n) : (bv (List.replicate k b ++ List.replicate (n - k) 0)).set k (.int .u8 (b.toNat : Int)) = bv (List.replicate (k + 1) b ++ List.replicate (n - (k + 1)) 0) := by
  obtain ⟨m, hm⟩ : ∃ m, n - k = m + 1 := ⟨n - k - 1, by omega⟩
  have hm' : n - (k + 1) = m := by omega
  rw [bv_set, hm, hm', List.set_append_right _ _ (by simp), List.replicate_succ' (n := k), List.append_assoc]
  simp [List.replicate_succ]

theorem fill_any (b : UInt8) (n : Nat) (w : World) (hn : n ≤ 65536) :
    Calls Tryd.prog 48 #[.int .u8 (b.toNat : Int), .int .i64 (n : Int)] w (New w.heap.size w (List.replicate n b)) := by
  obtain ⟨i0, hi, hz0, hz1, hz2⟩ := info_parts Tryd.infoU8
  go_enter Tryd.func48, Tryd.ntmps48
  go_wp2_with (at_make; refine wpList_make_full _ rfl _ _ 36 rfl w.heap.size 5 i0 (.int .u8 0) 1 Tryd.underlying36 hi hz0 hz1 _ _ _ _ n rfl rfl rfl rfl ?b2 ?b3 (Nat.le_refl _) ?_)
  case b2 => rw [hz2]; omega
  case b3 => unfold maxLen; omega
  intro w0 hown0 hgrow0
  rw [bv_zero] at hown0
  have hb0 : Below w.heap.size w w0 := (Below.refl _ _).grown hgrow0 (Nat.le_refl _) (fun k h => by cases h)
  clear hgrow0
  go_wp2
  go_loopw [17] (fun i wr => ∃ k : Nat, k ≤ n ∧ i = .int .i64 (k : Int) ∧
      wr.ownsRow w.heap.size 5 1 (.slice (some ⟨w.heap.size, 0, none⟩) n n) n (bv (List.replicate k b ++ List.replicate (n - k) 0)) ∧ Below w.heap.size w wr)
    (fun i _ => n - (intOf i).toNat)
  case atStart => exact ⟨0, Nat.zero_le _, rfl, by simpa using hown0, hb0⟩
  case round =>
    obtain ⟨k, hk, rfl, hown, hbel⟩ := hrel
    by_cases hlt : k < n
    · have hc := hown.cellAt k (by omega)
      have hf := hown.frozenAt k
      have hs := hown.stored k
      rw [bv_at _ _ (by simp; omega)] at hc
      go_wp2
      go_roundw
      case rel =>
        exact ⟨k + 1, by omega, by go_num, by rw [← fill_step b k n hlt]; exact (hs _).1, hbel.setCell (Nat.le_refl _) _⟩
      case measure => simp [intOf]; omega
    · obtain rfl : k = n := by omega
      go_wp2
      go_ret
      exact ⟨_, _, _, rfl, by simpa using hown, hbel⟩

theorem fill_none (b n : Int) (w : World) (hn : n < 0 ∨ 65536 < n) :
    Calls Tryd.prog 48 #[.int .u8 b, .int .i64 n] w fun e w' => e = .returned (.slice none 0 0) ∧ w = w' := by
  rcases hn with hn | hn
  · go_enter Tryd.func48, Tryd.ntmps48
    go_wp2
    go_ret
    exact ⟨rfl, rfl⟩
  · have h0 : ¬ n < 0 := by omega
    go_enter Tryd.func48, Tryd.ntmps48
    go_wp2
    go_ret
    exact ⟨rfl, rfl⟩

/-- 'string(b)' of bytes that read. -/
def xorL (xs ys : List UInt8) : List UInt8 := List.zipWith (· ^^^ ·) xs ys
theorem xorL_length (xs ys : List UInt8) : (xorL xs ys).length = min xs.length ys.length := by simp [xorL]

theorem xor_step (xs ys : List UInt8) (k n n' m : Nat) (hx : xs.length = n) (hy : ys.length = n') (hm : m = min n n') (hk : k < m) :
    (bv ((xorL xs ys).take k ++ List.replicate (m - k) 0)).set k (.int .u8 (bits .xor .u8 ((xs[k]?.getD 0).toNat : Int) ((ys[k]?.getD 0).toNat : Int))) = bv ((xorL xs ys).take (k + 1) ++ List.replicate (m - (k + 1)) 0) := by
  have hl := xorL_length xs ys
  have h1 : k < xs.length := by omega
  have h2 : k < ys.length := by omega
  have hv : bits .xor .u8 ((xs[k]?.getD 0).toNat : Int) ((ys[k]?.getD 0).toNat : Int) = (((xs[k] ^^^ ys[k] : UInt8)).toNat : Int) := by
    simp only [List.getElem?_eq_getElem h1, List.getElem?_eq_getElem h2, Option.getD_some]
    rw [u8_xor_nat _ _ (UInt8.toNat_lt _) (UInt8.toNat_lt _), UInt8.toNat_xor]
  have h3 : k < (xorL xs ys).length := by omega
  obtain ⟨q, hq⟩ : ∃ q, m - k = q + 1 := ⟨m - k - 1, by omega⟩
  have hq' : m - (k + 1) = q := by omega
  rw [hv, bv_set, hq, hq', List.set_append_right _ _ (by simp; omega), List.take_succ_eq_append_getElem h3, List.append_assoc]
  have e : k - ((xorL xs ys).take k).length = 0 := by rw [List.length_take]; omega
  rw [e, List.replicate_succ, List.set_cons_zero]
  simp [xorL]

end Go.Proofs.YtdbamdbdogdpjaaDoor

/-
  The library's sort and search of rows of whole numbers, at this program: the numbers of what they call, and each of their bodies. No statement is proved here.
-/
namespace Go.Proofs
open Go.Shelf
def Tryd.laysB25_ren : Go.Shelf.Ren := ⟨fun | 25 => 56 | 31 => 63 | 32 => 64 | 37 => 67 | n => n, fun | 22 => 57 | 3 => 3 | 4 => 4 | 40 => 100 | 0 => 0 | n => n, fun | n => n⟩
theorem Tryd.laysB25 : Go.Proofs.Lays2.n25 Tryd.prog Tryd.laysB25_ren := {
  mixed := by kernel_rfl
  f25 := Tryd.func56.trans (congrArg some (by kernel_rfl))
  f31 := Tryd.func63.trans (congrArg some (by kernel_rfl))
  f32 := Tryd.func64.trans (congrArg some (by kernel_rfl))
  f37 := Tryd.func67.trans (congrArg some (by kernel_rfl))
  t0 := Tryd.underlying0
  a0 := Tryd.isAgg0
  z0 := Tryd.sizeOf0
  v0 := Tryd.zeroValue0
  t3 := Tryd.underlying3
  a3 := Tryd.isAgg3
  z3 := Tryd.sizeOf3
  v3 := Tryd.zeroValue3
  t4 := Tryd.underlying4
  a4 := Tryd.isAgg4
  z4 := Tryd.sizeOf4
  v4 := Tryd.zeroValue4
  t22 := Tryd.underlying57
  a22 := Tryd.isAgg57
  z22 := Tryd.sizeOf57
  v22 := Tryd.zeroValue57
  t40 := Tryd.underlying100
  a40 := Tryd.isAgg100
  z40 := Tryd.sizeOf100
  v40 := Tryd.zeroValue100 }
end Go.Proofs

/-
  What the library's Clone, Sort and BinarySearch do to rows. No statement is proved here.
-/
namespace Go.Proofs.YtdbamdbdogdpjaaDoor.S19
set_option linter.unusedSimpArgs false
set_option linter.unusedVariables false
set_option maxRecDepth 4096
open Go.RowKit

set_option maxHeartbeats 1000000 in
/-- slices.Clone of bytes: a row of the call's own. -/
theorem clone_bs (A : Option Addr) (n c : Nat) (xs : List UInt8) (w : World) (hr : Rd w A n c xs) (hn : n ≤ 140737488355328) :
    Calls Tryd.prog 35 #[.slice A n c] w fun e w' => ∃ A' c', e = .returned (.slice A' n c') ∧ w'.ownsRow w.heap.size 5 1 (.slice A' n c') n (bv xs) ∧ Below w.heap.size w w' := by
  have q : ∀ (w : World) (a : Option Addr) (n c n' c' : Nat), (binOp .eql 36 (.slice a n c) (.slice none n' c')).run Tryd.prog w = .ok (.bool a.isNone) w := fun w a n c n' c' => Lib.run_eql_slice_nil w _ _ a n c n' c' Tryd.underlying36
  rcases A with _ | ad
  · have hc := hr.nil rfl
    have hm : n = 0 := by have := hr.cap; omega
    subst hc hm
    obtain rfl : xs = [] := List.eq_nil_of_length_eq_zero hr.len
    go_enter Tryd.func35, Tryd.ntmps35
    go_wp2
    go_ret
    exact ⟨none, 0, rfl, ⟨rfl, .inl ⟨rfl, rfl⟩⟩, Below.refl _ _⟩
  · have R := Lib.hid hr
    have HN := Lib.hid hn
    clear hr hn
    go_enter Tryd.func35, Tryd.ntmps35
    go_wp2_with (at_builtin; refine append_rd rfl (.tmp 5) (.tmp 6) rfl w.heap.size _ 0 [] rfl (World.ownsRow_lit (base := w.heap.size) (e := 5) (size := 1) w #[] 0 (Nat.le_refl _) (by simp [maxLen]) rfl) (some ad) n c _ rfl (R.out.alloc _) (by have := HN.out; omega) (by simp) ?_; intro v5 w5 o5 g5; obtain ⟨A5, c5, rfl⟩ := own_form o5; have O5 := Lib.hid (own_n o5); have B5 := Lib.hid (((Below.refl w.heap.size w).alloc (Nat.le_refl _) _).grown g5 (by simp) (fun q hq => Nat.le_of_eq (Option.some.inj hq))); clear o5 g5)
    go_ret
    exact ⟨A5, c5, by simp, by simpa using O5.out, B5.out⟩
/-- append to a row of whole numbers. -/
theorem append_zr {w : World} {ops : Array Oper} {rest : List Oper} {o : Oper} {a : Act} {Q : Exit → Act → World → Prop} (hgd : o.guard = none) (s x : Operand)
    (ho : o.op = .call { callee := .builtin .append, args := #[s, x], argTypes := #[57, 57] })
    (base : Nat) (v : Value) (n : Nat) (xs : List Int) (hs : a.eval s = v) (hown : w.ownsRow base 3 1 v n (zv xs))
    (ad : Addr) (m c : Nat) (ys : List Int) (hx : a.eval x = .slice (some ad) m c) (hr : RI w .i64 (some ad) m c ys) (hb : n + m ≤ 2000000000000) (hbase : base ≤ w.heap.size)
    (h : ∀ v' w', w'.ownsRow base 3 1 v' (n + m) (zv (xs ++ ys)) → w.grownBy w' v.ownBlock → wpList Tryd.prog ops Q rest (a.put o.dst v') w') : wpList Tryd.prog ops Q (o :: rest) a w := by
  obtain ⟨i0, hi, hz0, hz1, hz2⟩ := info_parts Tryd.infoZ
  exact wpList_append_own w hgd s x _ ho base 3 i0 (.int .i64 0) 1 8 Tryd.underlying57 hi hz0 hz1 hz2 rfl (by omega) v n (zv xs) hs hown ad m c (zv ys) hx (by simp [zv_length, hr.len]) (news_zi hr) (zv_one _)
      (by simp only [maxLen]; omega) (by omega) hbase fun v' w' h1 h2 _ => h v' w' (by rw [zv_append]; exact h1) h2
/-- slices.BinarySearch in a row of whole numbers that is sorted. -/
theorem search_zi (A : Option Addr) (n c : Nat) (xs : List Int) (x : Int) (w : World) (hr : RI w .i64 A n c xs) (hn : n ≤ 1099511627776) (hs : xs.Pairwise (· ≤ ·)) :
    Calls Tryd.prog 56 #[.slice A n c, .int .i64 x] w fun e w' => ∃ p, e = .returned (.tuple #[.int .i64 p, .bool (decide (x ∈ xs))]) ∧ Below w.heap.size w w' := by
  rcases Nat.eq_zero_or_pos n with rfl | h0
  · obtain rfl : xs = [] := List.eq_nil_of_length_eq_zero hr.len
    have h := Any.slices_BinarySearch_int_empty Tryd.laysB25 A c x w
    exact Calls.mono h fun e w' ⟨h1, h2⟩ => ⟨0, h1.trans (by simp), by rw [h2]; exact Below.refl _ _⟩
  · obtain ⟨b, off, rfl, hb, hc⟩ := hr.at_ h0
    have hl := hr.len
    have h := Any.slices_BinarySearch_int Tryd.laysB25 b off n c xs x w (by omega) (by omega) (fun j hj => hc j (by omega)) (by rw [List.take_of_length_le (by omega)]; exact hs)
    rw [List.take_of_length_le (show xs.length ≤ n by omega)] at h
    exact Calls.mono h fun e w' ⟨h1, q, h2⟩ => ⟨((xs.countP (· < x) : Nat) : Int), h1.trans (by rw [List.contains_eq_mem]), by rw [h2]; exact below_drewN (Below.refl _ _) q⟩
def sorted (xs : List Int) : List Int := xs.mergeSort fun x y => decide (x ≤ y)
theorem sorted_mem (xs : List Int) (z : Int) : z ∈ sorted xs ↔ z ∈ xs := by simp [sorted, List.mem_mergeSort]
theorem sorted_len (xs : List Int) : (sorted xs).length = xs.length := by simp [sorted]
theorem sorted_srt (xs : List Int) : (sorted xs).Pairwise (· ≤ ·) := by
  have h := List.pairwise_mergeSort (le := fun x y : Int => decide (x ≤ y)) (fun a b c h1 h2 => by simp at h1 h2 ⊢; omega) (fun a b => by simp; omega) xs
  exact h.imp fun h => by simpa using h
end Go.Proofs.YtdbamdbdogdpjaaDoor.S19

/-
  What the landed disk's step does: it counts, and leaves where by the plan the power goes or nothing is done. No statement is proved here.
-/
namespace Go.Proofs.YtdbamdbdogdpjaaDoor.S19
set_option linter.unusedSimpArgs false
set_option linter.unusedVariables false
set_option maxRecDepth 4096
open Go.RowKit

/-- How a step ends. -/
def stepE (c : Nat) : Ending := if c = 0 then .returned (.tuple #[]) else .panicked [LV.wrg (c : Int)]
set_option maxHeartbeats 4000000 in
theorem step_any (N : Nat) (w : World) (g : Nat) (D : Dk) (F : Nat → Prop) (t : Kn N w g D F) (hoff : D.off = false) (hc : D.cnt < 1099511627776) :
    Calls Tryd.prog 44 #[.pointer (some ⟨g, 0, none⟩)] w fun e w' => e = stepE D.stepC ∧ Kn N w' g D.step F ∧ Mv N F w w' := by
  obtain ⟨ok, V, hb, r⟩ := t
  rw [hoff] at hb
  obtain ⟨q, hq⟩ : ∃ q, q = D.cnt + 1 := ⟨_, rfl⟩
  have e1 : wrap64 ((D.cnt : Int) + 1) = (q : Int) := by rw [hq]; unfold wrap64; omega
  have hqi : (D.cnt : Int) + 1 = (q : Int) := by omega
  have c3 : w.cell? ⟨g, 3, none⟩ = some (.int .i64 (D.cnt : Int)) := hb.cell 3
  have f3 := hb.frozen 3
  obtain ⟨w1, hw1⟩ : ∃ w1, w1 = w.setCell ⟨g, 3, none⟩ (.int .i64 (q : Int)) := ⟨_, rfl⟩
  have B1 : Bk w1 g 61 (knA V D.sure.length q D.stop false) := by rw [hw1]; exact hb.put 3 _
  have r1 : In N w1 g D.sure (Dk.laid D.pend D.sure) D.pend D.fails F V := by rw [hw1]; exact r.poke 3 _
  have M1 : Mv N F w w1 := by rw [hw1]; exact Mv.pokeK r.fg (r.gN g r.fg).1 3 _
  have hN1 : N ≤ w1.heap.size := by have := (r1.gN g r1.fg); omega
  have HE := Lib.hid (show D.stepC = if (q : Int) = D.stop then 6 else if (q : Int) ∈ D.fails then 7 else 0 by unfold Dk.stepC; rw [hoff, hqi]; simp)
  have HS := Lib.hid (show D.step = if (q : Int) = D.stop then { D with cnt := q, off := true } else { D with cnt := q } by unfold Dk.step; rw [hqi, ← hq])
  have OK' := Lib.hid (Dk.step_ok ok)
  have k3 : w1.drew.cell? ⟨g, 3, none⟩ = some (.int .i64 (q : Int)) := B1.drew.cell 3
  have k5 : w1.drew.cell? ⟨g, 5, none⟩ = some (.int .i64 D.stop) := B1.drew.cell 5
  obtain ⟨st, hst⟩ : ∃ st, st = D.stop := ⟨_, rfl⟩
  rw [← hst] at k5 B1 HE HS
  have B1H := Lib.hid B1
  have R1 := Lib.hid r1
  have M1H := Lib.hid M1
  have N1 := Lib.hid hN1
  have HST := Lib.hid hst
  clear hb r hq hqi B1 r1 M1 hN1 ok hc hst
  have HW1 := Lib.hid hw1
  clear hw1
  have HOFF := Lib.hid hoff
  clear hoff
  go_enter Tryd.func44, Tryd.ntmps44
  go_upto_region 1 with (fail)
  rw [← HW1.out]
  clear c3 f3 e1
  (go_region_held3 (fun X => X.cell? ⟨g, 3, none⟩ = some (.int .i64 (q : Int)) ∧ X.cell? ⟨g, 5, none⟩ = some (.int .i64 st)) (exact ⟨B1H.out.drew.cell 3, B1H.out.drew.cell 5⟩) (fail))
  by_cases hs : (q : Int) = st
  · rw [if_pos hs] at HE HS
    have y1 : ((q : Int) == st) = true := by simpa using hs
    have C1 := Lib.hid (fun X h => stopL g V D.sure.length q st false X h)
    have C2 := Lib.hid (fun X h => power_no g V D.sure.length q st X h)
    clear hs
    go_wp2_with (first
      | (go_at_call 55; ((with_reducible refine (C1.out _ B1H.out.drew).mono ?_); rintro e w3 ⟨rfl, rfl⟩))
      | (go_at_call 42; ((with_reducible refine (C2.out _ (B1H.out.drew.put 6 (.bool true))).mono ?_); rintro e w4 ⟨rfl, rfl⟩)))
    refine ⟨rfl, by rw [HE.out]; rfl, ⟨OK'.out, V, ?_, ?_⟩, ?_⟩
    · rw [HS.out]
      simp only
      exact B1H.out.drew.put 6 (.bool true)
    · rw [HS.out]
      exact R1.out.drew.poke 6 _
    · exact M1H.out.trans ((Mv.of N1.out (Below.refl _ _).drew).trans (Mv.pokeK R1.out.fg (R1.out.gN g R1.out.fg).1 6 _) (fun b h => .inl h)) (fun b h => .inl h)
  · rw [if_neg hs] at HE HS
    have y1 : ((q : Int) == st) = false := by simpa using hs
    have C2 := Lib.hid (fun X h => power_ok g V D.sure.length q st X h)
    have C3 := Lib.hid (fun X h => search_zi V.fa V.fn V.fc V.zs (q : Int) X h R1.out.few R1.out.srt)
    have C4 := Lib.hid (fun X => LV.need_yes 7 X)
    have C5 := Lib.hid (fun X => LV.need_no 7 X)
    have B2 := Lib.hid (B1H.out.drew)
    clear hs k3 k5
    go_upto_region 4 with (first
      | (go_at_call 42; ((with_reducible refine (C2.out _ B2.out).mono ?_); rintro e w4 ⟨rfl, rfl⟩)))
    (go_region_held3 (fun X => X.cell? ⟨g, 3, none⟩ = some (.int .i64 (q : Int)) ∧ X.cell? ⟨g, 4, none⟩ = some (.slice V.fa V.fn V.fc)) (first
      | exact ⟨(B2.out.drew.below B5.out B2.out.lt).cell 3, (B2.out.drew.below B5.out B2.out.lt).cell 4⟩
      | exact ⟨B2.out.drew.cell 3, B2.out.drew.cell 4⟩) (first
      | (go_at_call 56; ((with_reducible refine (C3.out _ (R1.out.fl.below (Below.refl _ _).drew.drew)).mono ?_); rintro e w5 ⟨p5, rfl, b5⟩; have B5 := Lib.hid b5; clear b5))))
    have G5 := Lib.hid (show Below w1.heap.size w1 w5 from (Below.refl _ _).drew.drew.trans B5.out)
    by_cases hm : (q : Int) ∈ V.zs
    · have hm' : (q : Int) ∈ D.fails := (R1.out.mem _).1 hm
      rw [if_pos hm'] at HE
      rw [show decide ((q : Int) ∈ V.zs) = true from decide_eq_true hm]
      clear hm hm'
      go_wp2_with (first
        | (go_at_call 25; ((with_reducible refine (C5.out _).mono ?_); rintro e w6 ⟨rfl, rfl⟩)))
      refine ⟨rfl, by rw [HE.out]; rfl, ⟨OK'.out, V, ?_, ?_⟩, ?_⟩
      · rw [HS.out]
        simp only
        rw [HOFF.out]
        exact B1H.out.below G5.out B1H.out.lt
      · rw [HS.out]
        exact R1.out.below G5.out
      · exact M1H.out.trans (Mv.of (F := F) N1.out G5.out) (fun b h => .inl h)
    · have hm' : ¬ (q : Int) ∈ D.fails := fun h => hm ((R1.out.mem _).2 h)
      rw [if_neg hm'] at HE
      rw [show decide ((q : Int) ∈ V.zs) = false from decide_eq_false hm]
      clear hm hm'
      go_wp2_with (first
        | (go_at_call 25; ((with_reducible refine (C4.out _).mono ?_); rintro e w6 ⟨rfl, rfl⟩)))
      go_end0
      refine ⟨by rw [HE.out]; rfl, ⟨OK'.out, V, ?_, ?_⟩, ?_⟩
      · rw [HS.out]
        simp only
        rw [HOFF.out]
        exact B1H.out.below G5.out B1H.out.lt
      · rw [HS.out]
        exact R1.out.below G5.out
      · exact M1H.out.trans (Mv.of (F := F) N1.out G5.out) (fun b h => .inl h)
end Go.Proofs.YtdbamdbdogdpjaaDoor.S19
