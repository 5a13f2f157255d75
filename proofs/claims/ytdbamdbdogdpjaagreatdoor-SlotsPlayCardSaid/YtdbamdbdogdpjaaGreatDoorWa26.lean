/-
  Texts put together: Sk8, OctS, OctX, DsS, Ds4. No statement is proved here.
-/
import Derived.Test.YtdbamdbdogdpjaaGreatDoorWa25
import Derived.Test.YtdbamdbdogdpjaaGreatDoorWa02
import Derived.Test.YtdbamdbdogdpjaaGreatDoorWa06
import Derived.RegionTactic
import Derived.ChangeAlike
import Derived.Shelf.Sort.Plain
import Derived.Shelf.Slices.SearchI
import Derived.Shelf.Slices.In.SortNone
import Derived.Shelf.Slices.Empties
import Derived.Test.YtdbamdbdogdpjaaGreatDoorWa01
import Derived.Test.YtdbamdbdogdpjaaGreatDoorWa08
import Derived.Sort.OwnSortedInts

/-
  What the deferred calls of the landed slots do, and how the calls that defer them end. No statement is proved here. (Written by gensk8.py.)
-/
namespace Go.Proofs.YtdbamdbdogdpjaaGreatDoor.S20
set_option linter.unusedSimpArgs false
set_option linter.unusedVariables false
set_option maxRecDepth 4096
open Go.RowKit S19

theorem results_tmp2_cell {fn : Func} {p p2 q : Tmp} (h : fn.results = #[.tmp p, .tmp p2, .cell q 25]) (tmps : Array Value) (w : World) (g' : Nat) (n : Int) (v v2 : Value)
    (hp : tmps.getD p undef = v) (hp2 : tmps.getD p2 undef = v2) (hq : tmps.getD q undef = .pointer (some ⟨g', 0, none⟩)) (hc : w.cell? ⟨g', 0, none⟩ = some (.int .i64 n)) : (results fn tmps).run Tryz.prog w = .ok (.tuple #[v, v2, .int .i64 n]) w := by
  have hp' : tmps[p]?.getD undef = v := by simpa using hp
  have hp2' : tmps[p2]?.getD undef = v2 := by simpa using hp2
  have hq' : tmps[q]?.getD undef = .pointer (some ⟨g', 0, none⟩) := by simpa using hq
  simp [results, h, hp', hp2', hq', asAddr, load_codeD g' n w hc]
theorem snew1_idle (q : Nat) (y : Int) (w : World) (hq : Bk w q 25 #[.int .i64 y]) :
    CallsD Tryz.prog 29 #[.pointer (some ⟨q, 0, none⟩)] .returning w fun e u' w' => e = .returned (.tuple #[]) ∧ u' = .returning ∧ w' = w.setCell ⟨q, 0, none⟩ (.int .i64 0) := by
  have c1 := cell_of_one hq
  have f1 := free_of_one hq
  refine callsD_of_wpS Tryz.func29 rfl fun c₀ cs hu => ?_
  apply wpS_region
  simp [wpOpsS, go_sem, recoverD, hu, LV.wrg, Tryz.ntmps29, Exit.thenS, Array.replicate, List.replicate]
  refine (LV.told_nil w).mono ?_
  rintro e w' ⟨rfl, rfl⟩
  simp [go_sem, c1, f1, Oper.upon, bodyPostS, results, Tryz.results29]
  cases c₀
  cases hu
  rfl
theorem snew1_caught (q : Nat) (y k : Int) (older : List PanicEntry) (w : World) (hq : Bk w q 25 #[.int .i64 y]) :
    CallsD Tryz.prog 29 #[.pointer (some ⟨q, 0, none⟩)] (.panicking (LV.wrg k :: older)) w fun e u' w' =>
      e = .returned (.tuple #[]) ∧ u' = .panicking ({ v := .iface 105 (.agg #[.int .i64 k]), recovered := true } :: older) ∧ ∃ w1, Below w.heap.size w w1 ∧ w' = w1.setCell ⟨q, 0, none⟩ (.int .i64 k) := by
  have c1 := cell_of_one hq
  have f1 := free_of_one hq
  refine callsD_of_wpS Tryz.func29 rfl fun c₀ cs hu => ?_
  apply wpS_region
  simp [wpOpsS, go_sem, recoverD, hu, LV.wrg, Tryz.ntmps29, Exit.thenS, Array.replicate, List.replicate]
  refine (LV.told_wrong k w).mono ?_
  rintro e w' ⟨rfl, hb⟩
  have c2 := cell_of_one (hq.below hb hq.lt)
  have f2 := free_of_one (hq.below hb hq.lt)
  simp [go_sem, c2, f2, Oper.upon, bodyPostS, results, Tryz.results29]
  exact ⟨w', hb, rfl⟩
theorem snew_ret {Q : Ending → World → Prop} {w' : World} {g3 : Nat} {y : Int} {tmps : Array Value} {v : Value} (hv : tmps.getD 6 undef = v) (h3 : Bk w' g3 25 #[.int .i64 y]) (k3 : tmps.getD 7 undef = .pointer (some ⟨g3, 0, none⟩))
    (post : Q (.returned (.tuple #[v, .int .i64 0])) (w'.setCell ⟨g3, 0, none⟩ (.int .i64 0))) :
    bodyPostD Tryz.prog Tryz.f7 Q Exit.ret { tmps := tmps, defers := [{ target := Target.fn (Fn.func 29) #[.pointer (some ⟨g3, 0, none⟩)], args := #[] }] } w' := by
  refine leaves_cons (f := 29) (args := #[.pointer (some ⟨g3, 0, none⟩)]) (by simp) (by simp [go_sem]) ?_
  refine (snew1_idle g3 y w' h3).mono ?_
  rintro e1 u' w'' ⟨rfl, rfl, rfl⟩
  have hr := results_tmp_cell (fn := Tryz.f7) rfl tmps (w'.setCell ⟨g3, 0, none⟩ (.int .i64 0)) g3 0 v hv k3 (cell_of_one (h3.put 0 _))
  simp [Leaves, settle, hr]
  exact post
theorem snew_bad {Q : Ending → World → Prop} {w' : World} {g3 : Nat} {y k : Int} {tmps : Array Value} {v : Value} (hv : tmps.getD 6 undef = v) (h3 : Bk w' g3 25 #[.int .i64 y]) (k3 : tmps.getD 7 undef = .pointer (some ⟨g3, 0, none⟩))
    (post : ∀ w1, Below w'.heap.size w' w1 → Q (.returned (.tuple #[v, .int .i64 k])) (w1.setCell ⟨g3, 0, none⟩ (.int .i64 k))) :
    bodyPostD Tryz.prog Tryz.f7 Q (Exit.panic [LV.wrg k]) { tmps := tmps, defers := [{ target := Target.fn (Fn.func 29) #[.pointer (some ⟨g3, 0, none⟩)], args := #[] }] } w' := by
  refine leaves_cons (f := 29) (args := #[.pointer (some ⟨g3, 0, none⟩)]) (by simp) (by simp [go_sem]) ?_
  refine (snew1_caught g3 y k [] w' h3).mono ?_
  rintro e1 u' w'' ⟨rfl, rfl, w1, hb1, rfl⟩
  have h3' := h3.below hb1 h3.lt
  have hr := results_tmp_cell (fn := Tryz.f7) rfl tmps (w1.setCell ⟨g3, 0, none⟩ (.int .i64 k)) g3 k v hv k3 (cell_of_one (h3'.put 0 _))
  simp [Leaves, settle, hr]
  exact post w1 hb1
theorem sload1_idle (q : Nat) (y : Int) (w : World) (hq : Bk w q 25 #[.int .i64 y]) :
    CallsD Tryz.prog 40 #[.pointer (some ⟨q, 0, none⟩)] .returning w fun e u' w' => e = .returned (.tuple #[]) ∧ u' = .returning ∧ w' = w.setCell ⟨q, 0, none⟩ (.int .i64 0) := by
  have c1 := cell_of_one hq
  have f1 := free_of_one hq
  refine callsD_of_wpS Tryz.func40 rfl fun c₀ cs hu => ?_
  apply wpS_region
  simp [wpOpsS, go_sem, recoverD, hu, LV.wrg, Tryz.ntmps40, Exit.thenS, Array.replicate, List.replicate]
  refine (LV.told_nil w).mono ?_
  rintro e w' ⟨rfl, rfl⟩
  simp [go_sem, c1, f1, Oper.upon, bodyPostS, results, Tryz.results40]
  cases c₀
  cases hu
  rfl
theorem sload1_caught (q : Nat) (y k : Int) (older : List PanicEntry) (w : World) (hq : Bk w q 25 #[.int .i64 y]) :
    CallsD Tryz.prog 40 #[.pointer (some ⟨q, 0, none⟩)] (.panicking (LV.wrg k :: older)) w fun e u' w' =>
      e = .returned (.tuple #[]) ∧ u' = .panicking ({ v := .iface 105 (.agg #[.int .i64 k]), recovered := true } :: older) ∧ ∃ w1, Below w.heap.size w w1 ∧ w' = w1.setCell ⟨q, 0, none⟩ (.int .i64 k) := by
  have c1 := cell_of_one hq
  have f1 := free_of_one hq
  refine callsD_of_wpS Tryz.func40 rfl fun c₀ cs hu => ?_
  apply wpS_region
  simp [wpOpsS, go_sem, recoverD, hu, LV.wrg, Tryz.ntmps40, Exit.thenS, Array.replicate, List.replicate]
  refine (LV.told_wrong k w).mono ?_
  rintro e w' ⟨rfl, hb⟩
  have c2 := cell_of_one (hq.below hb hq.lt)
  have f2 := free_of_one (hq.below hb hq.lt)
  simp [go_sem, c2, f2, Oper.upon, bodyPostS, results, Tryz.results40]
  exact ⟨w', hb, rfl⟩
theorem sload_ret {Q : Ending → World → Prop} {w' : World} {g3 : Nat} {y : Int} {tmps : Array Value} {v v2 : Value} (hv : tmps.getD 2 undef = v) (hv2 : tmps.getD 3 undef = v2) (h3 : Bk w' g3 25 #[.int .i64 y]) (k3 : tmps.getD 4 undef = .pointer (some ⟨g3, 0, none⟩))
    (post : Q (.returned (.tuple #[v, v2, .int .i64 0])) (w'.setCell ⟨g3, 0, none⟩ (.int .i64 0))) :
    bodyPostD Tryz.prog Tryz.f12 Q Exit.ret { tmps := tmps, defers := [{ target := Target.fn (Fn.func 40) #[.pointer (some ⟨g3, 0, none⟩)], args := #[] }] } w' := by
  refine leaves_cons (f := 40) (args := #[.pointer (some ⟨g3, 0, none⟩)]) (by simp) (by simp [go_sem]) ?_
  refine (sload1_idle g3 y w' h3).mono ?_
  rintro e1 u' w'' ⟨rfl, rfl, rfl⟩
  have hr := results_tmp2_cell (fn := Tryz.f12) rfl tmps (w'.setCell ⟨g3, 0, none⟩ (.int .i64 0)) g3 0 v v2 hv hv2 k3 (cell_of_one (h3.put 0 _))
  simp [Leaves, settle, hr]
  exact post
theorem sload_bad {Q : Ending → World → Prop} {w' : World} {g3 : Nat} {y k : Int} {tmps : Array Value} {v v2 : Value} (hv : tmps.getD 2 undef = v) (hv2 : tmps.getD 3 undef = v2) (h3 : Bk w' g3 25 #[.int .i64 y]) (k3 : tmps.getD 4 undef = .pointer (some ⟨g3, 0, none⟩))
    (post : ∀ w1, Below w'.heap.size w' w1 → Q (.returned (.tuple #[v, v2, .int .i64 k])) (w1.setCell ⟨g3, 0, none⟩ (.int .i64 k))) :
    bodyPostD Tryz.prog Tryz.f12 Q (Exit.panic [LV.wrg k]) { tmps := tmps, defers := [{ target := Target.fn (Fn.func 40) #[.pointer (some ⟨g3, 0, none⟩)], args := #[] }] } w' := by
  refine leaves_cons (f := 40) (args := #[.pointer (some ⟨g3, 0, none⟩)]) (by simp) (by simp [go_sem]) ?_
  refine (sload1_caught g3 y k [] w' h3).mono ?_
  rintro e1 u' w'' ⟨rfl, rfl, w1, hb1, rfl⟩
  have h3' := h3.below hb1 h3.lt
  have hr := results_tmp2_cell (fn := Tryz.f12) rfl tmps (w1.setCell ⟨g3, 0, none⟩ (.int .i64 k)) g3 k v v2 hv hv2 k3 (cell_of_one (h3'.put 0 _))
  simp [Leaves, settle, hr]
  exact post w1 hb1
theorem ssave1_idle (q : Nat) (y : Int) (w : World) (hq : Bk w q 25 #[.int .i64 y]) :
    CallsD Tryz.prog 30 #[.pointer (some ⟨q, 0, none⟩)] .returning w fun e u' w' => e = .returned (.tuple #[]) ∧ u' = .returning ∧ w' = w.setCell ⟨q, 0, none⟩ (.int .i64 0) := by
  have c1 := cell_of_one hq
  have f1 := free_of_one hq
  refine callsD_of_wpS Tryz.func30 rfl fun c₀ cs hu => ?_
  apply wpS_region
  simp [wpOpsS, go_sem, recoverD, hu, LV.wrg, Tryz.ntmps30, Exit.thenS, Array.replicate, List.replicate]
  refine (LV.told_nil w).mono ?_
  rintro e w' ⟨rfl, rfl⟩
  simp [go_sem, c1, f1, Oper.upon, bodyPostS, results, Tryz.results30]
  cases c₀
  cases hu
  rfl
theorem ssave1_caught (q : Nat) (y k : Int) (older : List PanicEntry) (w : World) (hq : Bk w q 25 #[.int .i64 y]) :
    CallsD Tryz.prog 30 #[.pointer (some ⟨q, 0, none⟩)] (.panicking (LV.wrg k :: older)) w fun e u' w' =>
      e = .returned (.tuple #[]) ∧ u' = .panicking ({ v := .iface 105 (.agg #[.int .i64 k]), recovered := true } :: older) ∧ ∃ w1, Below w.heap.size w w1 ∧ w' = w1.setCell ⟨q, 0, none⟩ (.int .i64 k) := by
  have c1 := cell_of_one hq
  have f1 := free_of_one hq
  refine callsD_of_wpS Tryz.func30 rfl fun c₀ cs hu => ?_
  apply wpS_region
  simp [wpOpsS, go_sem, recoverD, hu, LV.wrg, Tryz.ntmps30, Exit.thenS, Array.replicate, List.replicate]
  refine (LV.told_wrong k w).mono ?_
  rintro e w' ⟨rfl, hb⟩
  have c2 := cell_of_one (hq.below hb hq.lt)
  have f2 := free_of_one (hq.below hb hq.lt)
  simp [go_sem, c2, f2, Oper.upon, bodyPostS, results, Tryz.results30]
  exact ⟨w', hb, rfl⟩
theorem ssave_ret {Q : Ending → World → Prop} {w' : World} {g3 : Nat} {y : Int} {tmps : Array Value} (h3 : Bk w' g3 25 #[.int .i64 y]) (k3 : tmps.getD 4 undef = .pointer (some ⟨g3, 0, none⟩))
    (post : Q (.returned (.int .i64 0)) (w'.setCell ⟨g3, 0, none⟩ (.int .i64 0))) :
    bodyPostD Tryz.prog Tryz.f10 Q Exit.ret { tmps := tmps, defers := [{ target := Target.fn (Fn.func 30) #[.pointer (some ⟨g3, 0, none⟩)], args := #[] }] } w' := by
  refine leaves_cons (f := 30) (args := #[.pointer (some ⟨g3, 0, none⟩)]) (by simp) (by simp [go_sem]) ?_
  refine (ssave1_idle g3 y w' h3).mono ?_
  rintro e1 u' w'' ⟨rfl, rfl, rfl⟩
  have hr := results_one_cell (fn := Tryz.f10) rfl tmps (w'.setCell ⟨g3, 0, none⟩ (.int .i64 0)) g3 0 k3 (cell_of_one (h3.put 0 _))
  simp [Leaves, settle, hr]
  exact post
theorem ssave_bad {Q : Ending → World → Prop} {w' : World} {g3 : Nat} {y k : Int} {tmps : Array Value} (h3 : Bk w' g3 25 #[.int .i64 y]) (k3 : tmps.getD 4 undef = .pointer (some ⟨g3, 0, none⟩))
    (post : ∀ w1, Below w'.heap.size w' w1 → Q (.returned (.int .i64 k)) (w1.setCell ⟨g3, 0, none⟩ (.int .i64 k))) :
    bodyPostD Tryz.prog Tryz.f10 Q (Exit.panic [LV.wrg k]) { tmps := tmps, defers := [{ target := Target.fn (Fn.func 30) #[.pointer (some ⟨g3, 0, none⟩)], args := #[] }] } w' := by
  refine leaves_cons (f := 30) (args := #[.pointer (some ⟨g3, 0, none⟩)]) (by simp) (by simp [go_sem]) ?_
  refine (ssave1_caught g3 y k [] w' h3).mono ?_
  rintro e1 u' w'' ⟨rfl, rfl, w1, hb1, rfl⟩
  have h3' := h3.below hb1 h3.lt
  have hr := results_one_cell (fn := Tryz.f10) rfl tmps (w1.setCell ⟨g3, 0, none⟩ (.int .i64 k)) g3 k k3 (cell_of_one (h3'.put 0 _))
  simp [Leaves, settle, hr]
  exact post w1 hb1
end Go.Proofs.YtdbamdbdogdpjaaGreatDoor.S20

/-
  What the landed octet.Same does. No statement is proved here.
-/
namespace Go.Proofs.YtdbamdbdogdpjaaGreatDoor
set_option linter.unusedSimpArgs false
set_option linter.unusedVariables false
set_option maxRecDepth 1024
open Go.RowKit

/-- 'string(b)' of bytes that read. -/
theorem Rd.convert {w : World} {A : Option Addr} {n c : Nat} {xs : List UInt8} (h : Rd w A n c xs) :
    (convert 35 9 (.slice A n c)).run Tryz.prog w = .ok (.string ⟨xs.toArray⟩) w := by
  rcases Nat.eq_zero_or_pos n with hn | hn
  · subst hn
    obtain rfl : xs = [] := List.eq_nil_of_length_eq_zero h.len
    rw [run_convert_bytes_string w 35 9 5 _ 0 c Tryz.underlying35 Tryz.underlying5 Tryz.underlying9]
    cases A <;> simp [Conv.bytesToString, loadCells]
    all_goals rfl
  · obtain ⟨b, o, rfl, _, hc⟩ := h.at_ hn
    have e := run_convert_bytes_arg (P := Tryz.prog) w 35 5 Tryz.underlying35 Tryz.underlying5 b o n c (xs.map fun x => (x.toNat : Int)) (by simp [h.len])
      (fun i hi => by
        have hl : i < xs.length := by have := h.len; omega
        rw [hc i hi]; simp [List.getD, hl]) 9 Tryz.underlying9
    rw [e]
    have : strOfNums (xs.map fun x => (x.toNat : Int)) = ⟨xs.toArray⟩ := by
      simp [strOfNums, Function.comp_def]
    rw [this]

theorem equal_any (A A' : Option Addr) (n c n' c' : Nat) (xs ys : List UInt8) (w : World) (h : Rd w A n c xs) (h' : Rd w A' n' c' ys) :
    Calls Tryz.prog 82 #[.slice A n c, .slice A' n' c'] w fun e w' => e = .returned (.bool (sameB xs ys)) ∧ w = w' := by
  have c1 := h.convert
  have c2 := h'.convert
  go_enter Tryz.func82, Tryz.ntmps82
  go_wp2
  go_ret
  exact ⟨rfl, rfl⟩

theorem same_any (A A' : Option Addr) (n c n' c' : Nat) (xs ys : List UInt8) (w : World) (h : Rd w A n c xs) (h' : Rd w A' n' c' ys) :
    Calls Tryz.prog 70 #[.slice A n c, .slice A' n' c'] w fun e w' => e = .returned (.bool (sameB xs ys)) ∧ w = w' := by
  go_enter Tryz.func70, Tryz.ntmps70
  go_wp2_with (go_at_call 82; refine (equal_any A A' n c n' c' xs ys _ h h').mono ?_; rintro e w' ⟨rfl, rfl⟩)
  go_ret
  exact ⟨rfl, rfl⟩
end Go.Proofs.YtdbamdbdogdpjaaGreatDoor

/-
  What the calls of package octet do: Fill and Xor.
-/
namespace Go.Proofs.YtdbamdbdogdpjaaGreatDoor
set_option linter.unusedSimpArgs false
set_option linter.unusedVariables false
set_option maxRecDepth 1024
open Go.RowKit

theorem fill_step (b : UInt8) (k n : Nat) (h : k < n) : (bv (List.replicate k b ++ List.replicate (n - k) 0)).set k (.int .u8 (b.toNat : Int)) = bv (List.replicate (k + 1) b ++ List.replicate (n - (k + 1)) 0) := by
  obtain ⟨m, hm⟩ : ∃ m, n - k = m + 1 := ⟨n - k - 1, by omega⟩
  have hm' : n - (k + 1) = m := by omega
  rw [bv_set, hm, hm', List.set_append_right _ _ (by simp), List.replicate_succ' (n := k), List.append_assoc]
  simp [List.replicate_succ]

theorem fill_any (b : UInt8) (n : Nat) (w : World) (hn : n ≤ 65536) :
    Calls Tryz.prog 61 #[.int .u8 (b.toNat : Int), .int .i64 (n : Int)] w (New w.heap.size w (List.replicate n b)) := by
  obtain ⟨i0, hi, hz0, hz1, hz2⟩ := info_parts Tryz.infoU8
  go_enter Tryz.func61, Tryz.ntmps61
  go_wp2_with (at_make; refine wpList_make_full _ rfl _ _ 35 rfl w.heap.size 5 i0 (.int .u8 0) 1 Tryz.underlying35 hi hz0 hz1 _ _ _ _ n rfl rfl rfl rfl ?b2 ?b3 (Nat.le_refl _) ?_)
  case b2 => rw [hz2]; omega
  case b3 => unfold maxLen; omega
  intro w0 hown0 hgrow0
  rw [bv_zero] at hown0
  have hb0 : Below w.heap.size w w0 := (Below.refl _ _).grown hgrow0 (Nat.le_refl _) (fun k h => by cases h)
  clear hgrow0
  go_wp2
  go_loopw [17] (fun i wr => ∃ k : Nat, k ≤ n ∧ i = .int .i64 (k : Int) ∧
      wr.ownsRow w.heap.size 5 1 (.slice (some ⟨w.heap.size, 0, none⟩) n n) n (bv (List.replicate k b ++ List.replicate (n - k) 0)) ∧ Below w.heap.size w wr)
    (fun i _ => n - (intOf i).toNat)
  case atStart => exact ⟨0, Nat.zero_le _, rfl, by simpa using hown0, hb0⟩
  case round =>
    obtain ⟨k, hk, rfl, hown, hbel⟩ := hrel
    by_cases hlt : k < n
    · have hc := hown.cellAt k (by omega)
      have hf := hown.frozenAt k
      have hs := hown.stored k
      rw [bv_at _ _ (by simp; omega)] at hc
      go_wp2
      go_roundw
      case rel =>
        exact ⟨k + 1, by omega, by go_num, by rw [← fill_step b k n hlt]; exact (hs _).1, hbel.setCell (Nat.le_refl _) _⟩
      case measure => simp [intOf]; omega
    · obtain rfl : k = n := by omega
      go_wp2
      go_ret
      exact ⟨_, _, _, rfl, by simpa using hown, hbel⟩

theorem fill_none (b n : Int) (w : World) (hn : n < 0 ∨ 65536 < n) :
    Calls Tryz.prog 61 #[.int .u8 b, .int .i64 n] w fun e w' => e = .returned (.slice none 0 0) ∧ w = w' := by
  rcases hn with hn | hn
  · go_enter Tryz.func61, Tryz.ntmps61
    go_wp2
    go_ret
    exact ⟨rfl, rfl⟩
  · have h0 : ¬ n < 0 := by omega
    go_enter Tryz.func61, Tryz.ntmps61
    go_wp2
    go_ret
    exact ⟨rfl, rfl⟩

/-- 'string(b)' of bytes that read. -/
def xorL (xs ys : List UInt8) : List UInt8 := List.zipWith (· ^^^ ·) xs ys
theorem xorL_length (xs ys : List UInt8) : (xorL xs ys).length = min xs.length ys.length := by simp [xorL]

theorem xor_step (xs ys : List UInt8) (k n n' m : Nat) (hx : xs.length = n) (hy : ys.length = n') (hm : m = min n n') (hk : k < m) :
    (bv ((xorL xs ys).take k ++ List.replicate (m - k) 0)).set k (.int .u8 (bits .xor .u8 ((xs[k]?.getD 0).toNat : Int) ((ys[k]?.getD 0).toNat : Int))) = bv ((xorL xs ys).take (k + 1) ++ List.replicate (m - (k + 1)) 0) := by
  have hl := xorL_length xs ys
  have h1 : k < xs.length := by omega
  have h2 : k < ys.length := by omega
  have hv : bits .xor .u8 ((xs[k]?.getD 0).toNat : Int) ((ys[k]?.getD 0).toNat : Int) = (((xs[k] ^^^ ys[k] : UInt8)).toNat : Int) := by
    simp only [List.getElem?_eq_getElem h1, List.getElem?_eq_getElem h2, Option.getD_some]
    rw [u8_xor_nat _ _ (UInt8.toNat_lt _) (UInt8.toNat_lt _), UInt8.toNat_xor]
  have h3 : k < (xorL xs ys).length := by omega
  obtain ⟨q, hq⟩ : ∃ q, m - k = q + 1 := ⟨m - k - 1, by omega⟩
  have hq' : m - (k + 1) = q := by omega
  rw [hv, bv_set, hq, hq', List.set_append_right _ _ (by simp; omega), List.take_succ_eq_append_getElem h3, List.append_assoc]
  have e : k - ((xorL xs ys).take k).length = 0 := by rw [List.length_take]; omega
  rw [e, List.replicate_succ, List.set_cons_zero]
  simp [xorL]

end Go.Proofs.YtdbamdbdogdpjaaGreatDoor

/-
  The library's sort and search of rows of whole numbers, at this program: the numbers of what they call, and each of their bodies. No statement is proved here.
-/
namespace Go.Proofs
open Go.Shelf
def Tryz.lays189_ren : Go.Shelf.Ren := ⟨fun | 189 => 50 | 125 => 74 | 257 => 73 | 128 => 92 | 129 => 93 | 294 => 83 | 295 => 84 | 296 => 85 | 297 => 86 | 298 => 87 | 299 => 88 | 216 => 89 | 300 => 90 | 301 => 91 | 328 => 99 | 329 => 100 | 330 => 101 | 331 => 102 | 332 => 103 | 215 => 104 | 343 => 108 | n => n, fun | 28 => 36 | 3 => 3 | 46 => 117 | 0 => 0 | 51 => 124 | 53 => 43 | 4 => 4 | 183 => 129 | 182 => 128 | 131 => 118 | 5 => 5 | 9 => 9 | 218 => 144 | 222 => 148 | 228 => 153 | 229 => 99 | n => n, fun | n => n⟩
theorem Tryz.lays189 : Go.Proofs.Lays.n189 Tryz.prog Tryz.lays189_ren := {
  mixed := by kernel_rfl
  f125 := Tryz.func74.trans (congrArg some (by kernel_rfl))
  f128 := Tryz.func92.trans (congrArg some (by kernel_rfl))
  f129 := Tryz.func93.trans (congrArg some (by kernel_rfl))
  f189 := Tryz.func50.trans (congrArg some (by kernel_rfl))
  f215 := Tryz.func104.trans (congrArg some (by kernel_rfl))
  f216 := Tryz.func89.trans (congrArg some (by kernel_rfl))
  f257 := Tryz.func73.trans (congrArg some (by kernel_rfl))
  f294 := Tryz.func83.trans (congrArg some (by kernel_rfl))
  f295 := Tryz.func84.trans (congrArg some (by kernel_rfl))
  f296 := Tryz.func85.trans (congrArg some (by kernel_rfl))
  f297 := Tryz.func86.trans (congrArg some (by kernel_rfl))
  f298 := Tryz.func87.trans (congrArg some (by kernel_rfl))
  f299 := Tryz.func88.trans (congrArg some (by kernel_rfl))
  f300 := Tryz.func90.trans (congrArg some (by kernel_rfl))
  f301 := Tryz.func91.trans (congrArg some (by kernel_rfl))
  f328 := Tryz.func99.trans (congrArg some (by kernel_rfl))
  f329 := Tryz.func100.trans (congrArg some (by kernel_rfl))
  f330 := Tryz.func101.trans (congrArg some (by kernel_rfl))
  f331 := Tryz.func102.trans (congrArg some (by kernel_rfl))
  f332 := Tryz.func103.trans (congrArg some (by kernel_rfl))
  f343 := Tryz.func108.trans (congrArg some (by kernel_rfl))
  t0 := Tryz.underlying0
  a0 := Tryz.isAgg0
  z0 := Tryz.sizeOf0
  v0 := Tryz.zeroValue0
  t3 := Tryz.underlying3
  a3 := Tryz.isAgg3
  z3 := Tryz.sizeOf3
  v3 := Tryz.zeroValue3
  t4 := Tryz.underlying4
  a4 := Tryz.isAgg4
  z4 := Tryz.sizeOf4
  v4 := Tryz.zeroValue4
  t5 := Tryz.underlying5
  a5 := Tryz.isAgg5
  z5 := Tryz.sizeOf5
  v5 := Tryz.zeroValue5
  t9 := Tryz.underlying9
  a9 := Tryz.isAgg9
  z9 := Tryz.sizeOf9
  v9 := Tryz.zeroValue9
  t28 := Tryz.underlying36
  a28 := Tryz.isAgg36
  z28 := Tryz.sizeOf36
  v28 := Tryz.zeroValue36
  t46 := Tryz.underlying117
  a46 := Tryz.isAgg117
  z46 := Tryz.sizeOf117
  v46 := Tryz.zeroValue117
  t51 := Tryz.underlying124
  a51 := Tryz.isAgg124
  z51 := Tryz.sizeOf124
  v51 := Tryz.zeroValue124
  t53 := Tryz.underlying43
  a53 := Tryz.isAgg43
  z53 := Tryz.sizeOf43
  v53 := Tryz.zeroValue43
  t131 := Tryz.underlying118
  a131 := Tryz.isAgg118
  z131 := Tryz.sizeOf118
  v131 := Tryz.zeroValue118
  t182 := Tryz.underlying128
  a182 := Tryz.isAgg128
  z182 := Tryz.sizeOf128
  v182 := Tryz.zeroValue128
  t183 := Tryz.underlying129
  a183 := Tryz.isAgg129
  z183 := Tryz.sizeOf129
  v183 := Tryz.zeroValue129
  t218 := Tryz.underlying144
  a218 := Tryz.isAgg144
  z218 := Tryz.sizeOf144
  v218 := Tryz.zeroValue144
  t222 := Tryz.underlying148
  a222 := Tryz.isAgg148
  z222 := Tryz.sizeOf148
  v222 := Tryz.zeroValue148
  t228 := Tryz.underlying153
  a228 := Tryz.isAgg153
  z228 := Tryz.sizeOf153
  v228 := Tryz.zeroValue153
  t229 := Tryz.underlying99
  a229 := Tryz.isAgg99
  z229 := Tryz.sizeOf99
  v229 := Tryz.zeroValue99 }
def Tryz.laysB25_ren : Go.Shelf.Ren := ⟨fun | 25 => 75 | 31 => 89 | 32 => 94 | 37 => 104 | n => n, fun | 22 => 36 | 3 => 3 | 4 => 4 | 40 => 117 | 0 => 0 | n => n, fun | n => n⟩
theorem Tryz.laysB25 : Go.Proofs.Lays2.n25 Tryz.prog Tryz.laysB25_ren := {
  mixed := by kernel_rfl
  f25 := Tryz.func75.trans (congrArg some (by kernel_rfl))
  f31 := Tryz.func89.trans (congrArg some (by kernel_rfl))
  f32 := Tryz.func94.trans (congrArg some (by kernel_rfl))
  f37 := Tryz.func104.trans (congrArg some (by kernel_rfl))
  t0 := Tryz.underlying0
  a0 := Tryz.isAgg0
  z0 := Tryz.sizeOf0
  v0 := Tryz.zeroValue0
  t3 := Tryz.underlying3
  a3 := Tryz.isAgg3
  z3 := Tryz.sizeOf3
  v3 := Tryz.zeroValue3
  t4 := Tryz.underlying4
  a4 := Tryz.isAgg4
  z4 := Tryz.sizeOf4
  v4 := Tryz.zeroValue4
  t22 := Tryz.underlying36
  a22 := Tryz.isAgg36
  z22 := Tryz.sizeOf36
  v22 := Tryz.zeroValue36
  t40 := Tryz.underlying117
  a40 := Tryz.isAgg117
  z40 := Tryz.sizeOf117
  v40 := Tryz.zeroValue117 }
end Go.Proofs

/-
  What the library's Clone, Sort and BinarySearch do to rows. No statement is proved here.
-/
namespace Go.Proofs.YtdbamdbdogdpjaaGreatDoor.S19
set_option linter.unusedSimpArgs false
set_option linter.unusedVariables false
set_option maxRecDepth 4096
open Go.RowKit

set_option maxHeartbeats 1000000 in
/-- slices.Clone of bytes: a row of the call's own. -/
theorem clone_bs (A : Option Addr) (n c : Nat) (xs : List UInt8) (w : World) (hr : Rd w A n c xs) (hn : n ≤ 140737488355328) :
    Calls Tryz.prog 56 #[.slice A n c] w fun e w' => ∃ A' c', e = .returned (.slice A' n c') ∧ w'.ownsRow w.heap.size 5 1 (.slice A' n c') n (bv xs) ∧ Below w.heap.size w w' := by
  have q : ∀ (w : World) (a : Option Addr) (n c n' c' : Nat), (binOp .eql 35 (.slice a n c) (.slice none n' c')).run Tryz.prog w = .ok (.bool a.isNone) w := fun w a n c n' c' => Lib.run_eql_slice_nil w _ _ a n c n' c' Tryz.underlying35
  rcases A with _ | ad
  · have hc := hr.nil rfl
    have hm : n = 0 := by have := hr.cap; omega
    subst hc hm
    obtain rfl : xs = [] := List.eq_nil_of_length_eq_zero hr.len
    go_enter Tryz.func56, Tryz.ntmps56
    go_wp2
    go_ret
    exact ⟨none, 0, rfl, ⟨rfl, .inl ⟨rfl, rfl⟩⟩, Below.refl _ _⟩
  · have R := Lib.hid hr
    have HN := Lib.hid hn
    clear hr hn
    go_enter Tryz.func56, Tryz.ntmps56
    go_wp2_with (at_builtin; refine append_rd rfl (.tmp 5) (.tmp 6) rfl w.heap.size _ 0 [] rfl (World.ownsRow_lit (base := w.heap.size) (e := 5) (size := 1) w #[] 0 (Nat.le_refl _) (by simp [maxLen]) rfl) (some ad) n c _ rfl (R.out.alloc _) (by have := HN.out; omega) (by simp) ?_; intro v5 w5 o5 g5; obtain ⟨A5, c5, rfl⟩ := own_form o5; have O5 := Lib.hid (own_n o5); have B5 := Lib.hid (((Below.refl w.heap.size w).alloc (Nat.le_refl _) _).grown g5 (by simp) (fun q hq => Nat.le_of_eq (Option.some.inj hq))); clear o5 g5)
    go_ret
    exact ⟨A5, c5, by simp, by simpa using O5.out, B5.out⟩
/-- append to a row of whole numbers. -/
theorem append_zr {w : World} {ops : Array Oper} {rest : List Oper} {o : Oper} {a : Act} {Q : Exit → Act → World → Prop} (hgd : o.guard = none) (s x : Operand)
    (ho : o.op = .call { callee := .builtin .append, args := #[s, x], argTypes := #[36, 36] })
    (base : Nat) (v : Value) (n : Nat) (xs : List Int) (hs : a.eval s = v) (hown : w.ownsRow base 3 1 v n (zv xs))
    (ad : Addr) (m c : Nat) (ys : List Int) (hx : a.eval x = .slice (some ad) m c) (hr : RI w .i64 (some ad) m c ys) (hb : n + m ≤ 2000000000000) (hbase : base ≤ w.heap.size)
    (h : ∀ v' w', w'.ownsRow base 3 1 v' (n + m) (zv (xs ++ ys)) → w.grownBy w' v.ownBlock → wpList Tryz.prog ops Q rest (a.put o.dst v') w') : wpList Tryz.prog ops Q (o :: rest) a w := by
  obtain ⟨i0, hi, hz0, hz1, hz2⟩ := info_parts Tryz.infoZ
  exact wpList_append_own w hgd s x _ ho base 3 i0 (.int .i64 0) 1 8 Tryz.underlying36 hi hz0 hz1 hz2 rfl (by omega) v n (zv xs) hs hown ad m c (zv ys) hx (by simp [zv_length, hr.len]) (news_zi hr) (zv_one _)
      (by simp only [maxLen]; omega) (by omega) hbase fun v' w' h1 h2 _ => h v' w' (by rw [zv_append]; exact h1) h2
set_option maxHeartbeats 1000000 in
/-- slices.Clone of whole numbers: a row of the call's own. -/
theorem clone_zi (A : Option Addr) (n c : Nat) (xs : List Int) (w : World) (hr : RI w .i64 A n c xs) (hn : n ≤ 1099511627776) :
    Calls Tryz.prog 49 #[.slice A n c] w fun e w' => ∃ A' c', e = .returned (.slice A' n c') ∧ w'.ownsRow w.heap.size 3 1 (.slice A' n c') n (zv xs) ∧ Below w.heap.size w w' := by
  obtain ⟨i0, hi, hz0, hz1, hz2⟩ := info_parts Tryz.infoZ
  have q : ∀ (w : World) (a : Option Addr) (n c n' c' : Nat), (binOp .eql 36 (.slice a n c) (.slice none n' c')).run Tryz.prog w = .ok (.bool a.isNone) w := fun w a n c n' c' => Lib.run_eql_slice_nil w _ _ a n c n' c' Tryz.underlying36
  rcases A with _ | ad
  · have hc := hr.nil rfl
    have hm : n = 0 := by have := hr.cap; omega
    subst hc hm
    obtain rfl : xs = [] := List.eq_nil_of_length_eq_zero hr.len
    go_enter Tryz.func49, Tryz.ntmps49
    go_wp2
    go_ret
    exact ⟨none, 0, rfl, ⟨rfl, .inl ⟨rfl, rfl⟩⟩, Below.refl _ _⟩
  · have R := Lib.hid hr
    have HN := Lib.hid hn
    clear hr hn
    go_enter Tryz.func49, Tryz.ntmps49
    go_wp2_with (at_builtin; refine append_zr rfl (.tmp 5) (.tmp 6) rfl w.heap.size _ 0 [] rfl (World.ownsRow_lit (base := w.heap.size) (e := 3) (size := 1) w #[] 0 (Nat.le_refl _) (by simp [maxLen]) rfl) ad n c _ rfl (R.out.below ((Below.refl _ _).alloc (Nat.le_refl _) _)) (by have := HN.out; omega) (by simp) ?_; intro v5 w5 o5 g5; obtain ⟨A5, c5, rfl⟩ := own_form o5; have O5 := Lib.hid o5; have B5 := Lib.hid (((Below.refl w.heap.size w).alloc (Nat.le_refl _) _).grown g5 (by simp) (fun q hq => Nat.le_of_eq (Option.some.inj hq))); clear o5 g5)
    go_ret
    exact ⟨A5, c5, by simp, by simpa using O5.out, B5.out⟩
/-- slices.BinarySearch in a row of whole numbers that is sorted. -/
theorem search_zi (A : Option Addr) (n c : Nat) (xs : List Int) (x : Int) (w : World) (hr : RI w .i64 A n c xs) (hn : n ≤ 1099511627776) (hs : xs.Pairwise (· ≤ ·)) :
    Calls Tryz.prog 75 #[.slice A n c, .int .i64 x] w fun e w' => ∃ p, e = .returned (.tuple #[.int .i64 p, .bool (decide (x ∈ xs))]) ∧ Below w.heap.size w w' := by
  rcases Nat.eq_zero_or_pos n with rfl | h0
  · obtain rfl : xs = [] := List.eq_nil_of_length_eq_zero hr.len
    have h := Any.slices_BinarySearch_int_empty Tryz.laysB25 A c x w
    exact Calls.mono h fun e w' ⟨h1, h2⟩ => ⟨0, h1.trans (by simp), by rw [h2]; exact Below.refl _ _⟩
  · obtain ⟨b, off, rfl, hb, hc⟩ := hr.at_ h0
    have hl := hr.len
    have h := Any.slices_BinarySearch_int Tryz.laysB25 b off n c xs x w (by omega) (by omega) (fun j hj => hc j (by omega)) (by rw [List.take_of_length_le (by omega)]; exact hs)
    rw [List.take_of_length_le (show xs.length ≤ n by omega)] at h
    exact Calls.mono h fun e w' ⟨h1, q, h2⟩ => ⟨((xs.countP (· < x) : Nat) : Int), h1.trans (by rw [List.contains_eq_mem]), by rw [h2]; exact below_drewN (Below.refl _ _) q⟩
def sorted (xs : List Int) : List Int := xs.mergeSort fun x y => decide (x ≤ y)
theorem sorted_mem (xs : List Int) (z : Int) : z ∈ sorted xs ↔ z ∈ xs := by simp [sorted, List.mem_mergeSort]
theorem sorted_len (xs : List Int) : (sorted xs).length = xs.length := by simp [sorted]
theorem sorted_srt (xs : List Int) : (sorted xs).Pairwise (· ≤ ·) := by
  have h := List.pairwise_mergeSort (le := fun x y : Int => decide (x ≤ y)) (fun a b c h1 h2 => by simp at h1 h2 ⊢; omega) (fun a b => by simp; omega) xs
  exact h.imp fun h => by simpa using h
/-- slices.Sort of a row of the caller's own. -/
theorem sort_zi (B : Nat) (A : Option Addr) (n c : Nat) (xs : List Int) (w : World) (ho : w.ownsRow B 3 1 (.slice A n c) n (zv xs)) (hn : n ≤ 1099511627776) (hB : B ≤ w.heap.size) :
    Calls Tryz.prog 50 #[.slice A n c] w fun e w' => e = .returned (.tuple #[]) ∧ w'.ownsRow B 3 1 (.slice A n c) n (zv (sorted xs)) ∧ w.grownBy w' (A.map (·.block)) := by
  have hl : xs.length = n := by have := ho.1; simp [zv_length] at this; exact this
  rcases Nat.eq_zero_or_pos n with rfl | h0
  · obtain rfl : xs = [] := List.eq_nil_of_length_eq_zero hl
    have h := Any.slices_Sort_int_none Tryz.lays189 A c w
    exact Calls.mono h fun e w' ⟨h1, h2⟩ => ⟨h1, by rw [h2]; simpa [sorted] using ho, by rw [h2]; exact World.grownBy.refl _ _⟩
  · rcases ho.2 with ⟨hv, h00⟩ | ⟨g, cap, cur, hv, hbase, hb, h1, h2, h3, h4⟩
    · omega
    · injection hv with e1 e2 e3
      subst e1 e3
      have hH : Sort.Holds (Value.int .i64) w g 0 xs.toArray := holds_of_blockI hb (by rw [hl]; simpa [zv] using h4)
      have h := Any.slices_Sort_int Tryz.lays189 g 0 c xs w hH (Array.getElem?_eq_some_iff.1 hb).1 (by omega)
      rw [hl] at h
      refine Calls.mono h ?_
      rintro e w' ⟨q1, k, os, rfl⟩
      refine ⟨q1, ?_, grownBy_sortedI _⟩
      have := ownsRow_sortedI (w := w) (base := B) (n := k) (os := os) (ss := xs) (ts := sorted xs) (sorted_len xs) hbase hb (by omega) h2 (by simpa using h3)
      rw [hl] at this
      exact this
end Go.Proofs.YtdbamdbdogdpjaaGreatDoor.S19
