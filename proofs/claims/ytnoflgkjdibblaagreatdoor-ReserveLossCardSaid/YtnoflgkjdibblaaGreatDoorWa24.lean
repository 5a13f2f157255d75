/-
  Texts put together: Sk8, DsS, Ds4, Ds5, SlG. No statement is proved here.
-/
import Derived.Test.YtnoflgkjdibblaaGreatDoorWa23
import Derived.Shelf.Sort.Plain
import Derived.Shelf.Slices.SearchI
import Derived.Shelf.Slices.In.SortNone
import Derived.Shelf.Slices.Empties
import Derived.Test.YtnoflgkjdibblaaGreatDoorWa01
import Derived.Test.YtnoflgkjdibblaaGreatDoorWa06
import Derived.Test.YtnoflgkjdibblaaGreatDoorWa07
import Derived.Sort.OwnSortedInts
import Derived.Deep.RegionHeld3
import Derived.Test.YtnoflgkjdibblaaGreatDoorWa16
import Derived.Test.YtnoflgkjdibblaaGreatDoorWa08

/-
  What the deferred calls of the landed slots do, and how the calls that defer them end. No statement is proved here. (Written by gensk8.py.)
-/
namespace Go.Proofs.YtnoflgkjdibblaaGreatDoor.S20
set_option linter.unusedSimpArgs false
set_option linter.unusedVariables false
set_option maxRecDepth 4096
open Go.RowKit S19

theorem results_tmp2_cell {fn : Func} {p p2 q : Tmp} (h : fn.results = #[.tmp p, .tmp p2, .cell q 29]) (tmps : Array Value) (w : World) (g' : Nat) (n : Int) (v v2 : Value)
    (hp : tmps.getD p undef = v) (hp2 : tmps.getD p2 undef = v2) (hq : tmps.getD q undef = .pointer (some ⟨g', 0, none⟩)) (hc : w.cell? ⟨g', 0, none⟩ = some (.int .i64 n)) : (results fn tmps).run Tryz.prog w = .ok (.tuple #[v, v2, .int .i64 n]) w := by
  have hp' : tmps[p]?.getD undef = v := by simpa using hp
  have hp2' : tmps[p2]?.getD undef = v2 := by simpa using hp2
  have hq' : tmps[q]?.getD undef = .pointer (some ⟨g', 0, none⟩) := by simpa using hq
  simp [results, h, hp', hp2', hq', asAddr, load_codeD g' n w hc]
theorem snew1_idle (q : Nat) (y : Int) (w : World) (hq : Bk w q 29 #[.int .i64 y]) :
    CallsD Tryz.prog 31 #[.pointer (some ⟨q, 0, none⟩)] .returning w fun e u' w' => e = .returned (.tuple #[]) ∧ u' = .returning ∧ w' = w.setCell ⟨q, 0, none⟩ (.int .i64 0) := by
  have c1 := cell_of_one hq
  have f1 := free_of_one hq
  refine callsD_of_wpS Tryz.func31 rfl fun c₀ cs hu => ?_
  apply wpS_region
  simp [wpOpsS, go_sem, recoverD, hu, LV.wrg, Tryz.ntmps31, Exit.thenS, Array.replicate, List.replicate]
  refine (LV.told_nil w).mono ?_
  rintro e w' ⟨rfl, rfl⟩
  simp [go_sem, c1, f1, Oper.upon, bodyPostS, results, Tryz.results31]
  cases c₀
  cases hu
  rfl
theorem snew1_caught (q : Nat) (y k : Int) (older : List PanicEntry) (w : World) (hq : Bk w q 29 #[.int .i64 y]) :
    CallsD Tryz.prog 31 #[.pointer (some ⟨q, 0, none⟩)] (.panicking (LV.wrg k :: older)) w fun e u' w' =>
      e = .returned (.tuple #[]) ∧ u' = .panicking ({ v := .iface 114 (.agg #[.int .i64 k]), recovered := true } :: older) ∧ ∃ w1, Below w.heap.size w w1 ∧ w' = w1.setCell ⟨q, 0, none⟩ (.int .i64 k) := by
  have c1 := cell_of_one hq
  have f1 := free_of_one hq
  refine callsD_of_wpS Tryz.func31 rfl fun c₀ cs hu => ?_
  apply wpS_region
  simp [wpOpsS, go_sem, recoverD, hu, LV.wrg, Tryz.ntmps31, Exit.thenS, Array.replicate, List.replicate]
  refine (LV.told_wrong k w).mono ?_
  rintro e w' ⟨rfl, hb⟩
  have c2 := cell_of_one (hq.below hb hq.lt)
  have f2 := free_of_one (hq.below hb hq.lt)
  simp [go_sem, c2, f2, Oper.upon, bodyPostS, results, Tryz.results31]
  exact ⟨w', hb, rfl⟩
theorem snew_ret {Q : Ending → World → Prop} {w' : World} {g3 : Nat} {y : Int} {tmps : Array Value} {v : Value} (hv : tmps.getD 6 undef = v) (h3 : Bk w' g3 29 #[.int .i64 y]) (k3 : tmps.getD 7 undef = .pointer (some ⟨g3, 0, none⟩))
    (post : Q (.returned (.tuple #[v, .int .i64 0])) (w'.setCell ⟨g3, 0, none⟩ (.int .i64 0))) :
    bodyPostD Tryz.prog Tryz.f8 Q Exit.ret { tmps := tmps, defers := [{ target := Target.fn (Fn.func 31) #[.pointer (some ⟨g3, 0, none⟩)], args := #[] }] } w' := by
  refine leaves_cons (f := 31) (args := #[.pointer (some ⟨g3, 0, none⟩)]) (by simp) (by simp [go_sem]) ?_
  refine (snew1_idle g3 y w' h3).mono ?_
  rintro e1 u' w'' ⟨rfl, rfl, rfl⟩
  have hr := results_tmp_cell (fn := Tryz.f8) rfl tmps (w'.setCell ⟨g3, 0, none⟩ (.int .i64 0)) g3 0 v hv k3 (cell_of_one (h3.put 0 _))
  simp [Leaves, settle, hr]
  exact post
theorem snew_bad {Q : Ending → World → Prop} {w' : World} {g3 : Nat} {y k : Int} {tmps : Array Value} {v : Value} (hv : tmps.getD 6 undef = v) (h3 : Bk w' g3 29 #[.int .i64 y]) (k3 : tmps.getD 7 undef = .pointer (some ⟨g3, 0, none⟩))
    (post : ∀ w1, Below w'.heap.size w' w1 → Q (.returned (.tuple #[v, .int .i64 k])) (w1.setCell ⟨g3, 0, none⟩ (.int .i64 k))) :
    bodyPostD Tryz.prog Tryz.f8 Q (Exit.panic [LV.wrg k]) { tmps := tmps, defers := [{ target := Target.fn (Fn.func 31) #[.pointer (some ⟨g3, 0, none⟩)], args := #[] }] } w' := by
  refine leaves_cons (f := 31) (args := #[.pointer (some ⟨g3, 0, none⟩)]) (by simp) (by simp [go_sem]) ?_
  refine (snew1_caught g3 y k [] w' h3).mono ?_
  rintro e1 u' w'' ⟨rfl, rfl, w1, hb1, rfl⟩
  have h3' := h3.below hb1 h3.lt
  have hr := results_tmp_cell (fn := Tryz.f8) rfl tmps (w1.setCell ⟨g3, 0, none⟩ (.int .i64 k)) g3 k v hv k3 (cell_of_one (h3'.put 0 _))
  simp [Leaves, settle, hr]
  exact post w1 hb1
theorem sload1_idle (q : Nat) (y : Int) (w : World) (hq : Bk w q 29 #[.int .i64 y]) :
    CallsD Tryz.prog 49 #[.pointer (some ⟨q, 0, none⟩)] .returning w fun e u' w' => e = .returned (.tuple #[]) ∧ u' = .returning ∧ w' = w.setCell ⟨q, 0, none⟩ (.int .i64 0) := by
  have c1 := cell_of_one hq
  have f1 := free_of_one hq
  refine callsD_of_wpS Tryz.func49 rfl fun c₀ cs hu => ?_
  apply wpS_region
  simp [wpOpsS, go_sem, recoverD, hu, LV.wrg, Tryz.ntmps49, Exit.thenS, Array.replicate, List.replicate]
  refine (LV.told_nil w).mono ?_
  rintro e w' ⟨rfl, rfl⟩
  simp [go_sem, c1, f1, Oper.upon, bodyPostS, results, Tryz.results49]
  cases c₀
  cases hu
  rfl
theorem sload1_caught (q : Nat) (y k : Int) (older : List PanicEntry) (w : World) (hq : Bk w q 29 #[.int .i64 y]) :
    CallsD Tryz.prog 49 #[.pointer (some ⟨q, 0, none⟩)] (.panicking (LV.wrg k :: older)) w fun e u' w' =>
      e = .returned (.tuple #[]) ∧ u' = .panicking ({ v := .iface 114 (.agg #[.int .i64 k]), recovered := true } :: older) ∧ ∃ w1, Below w.heap.size w w1 ∧ w' = w1.setCell ⟨q, 0, none⟩ (.int .i64 k) := by
  have c1 := cell_of_one hq
  have f1 := free_of_one hq
  refine callsD_of_wpS Tryz.func49 rfl fun c₀ cs hu => ?_
  apply wpS_region
  simp [wpOpsS, go_sem, recoverD, hu, LV.wrg, Tryz.ntmps49, Exit.thenS, Array.replicate, List.replicate]
  refine (LV.told_wrong k w).mono ?_
  rintro e w' ⟨rfl, hb⟩
  have c2 := cell_of_one (hq.below hb hq.lt)
  have f2 := free_of_one (hq.below hb hq.lt)
  simp [go_sem, c2, f2, Oper.upon, bodyPostS, results, Tryz.results49]
  exact ⟨w', hb, rfl⟩
theorem sload_ret {Q : Ending → World → Prop} {w' : World} {g3 : Nat} {y : Int} {tmps : Array Value} {v v2 : Value} (hv : tmps.getD 2 undef = v) (hv2 : tmps.getD 3 undef = v2) (h3 : Bk w' g3 29 #[.int .i64 y]) (k3 : tmps.getD 4 undef = .pointer (some ⟨g3, 0, none⟩))
    (post : Q (.returned (.tuple #[v, v2, .int .i64 0])) (w'.setCell ⟨g3, 0, none⟩ (.int .i64 0))) :
    bodyPostD Tryz.prog Tryz.f34 Q Exit.ret { tmps := tmps, defers := [{ target := Target.fn (Fn.func 49) #[.pointer (some ⟨g3, 0, none⟩)], args := #[] }] } w' := by
  refine leaves_cons (f := 49) (args := #[.pointer (some ⟨g3, 0, none⟩)]) (by simp) (by simp [go_sem]) ?_
  refine (sload1_idle g3 y w' h3).mono ?_
  rintro e1 u' w'' ⟨rfl, rfl, rfl⟩
  have hr := results_tmp2_cell (fn := Tryz.f34) rfl tmps (w'.setCell ⟨g3, 0, none⟩ (.int .i64 0)) g3 0 v v2 hv hv2 k3 (cell_of_one (h3.put 0 _))
  simp [Leaves, settle, hr]
  exact post
theorem sload_bad {Q : Ending → World → Prop} {w' : World} {g3 : Nat} {y k : Int} {tmps : Array Value} {v v2 : Value} (hv : tmps.getD 2 undef = v) (hv2 : tmps.getD 3 undef = v2) (h3 : Bk w' g3 29 #[.int .i64 y]) (k3 : tmps.getD 4 undef = .pointer (some ⟨g3, 0, none⟩))
    (post : ∀ w1, Below w'.heap.size w' w1 → Q (.returned (.tuple #[v, v2, .int .i64 k])) (w1.setCell ⟨g3, 0, none⟩ (.int .i64 k))) :
    bodyPostD Tryz.prog Tryz.f34 Q (Exit.panic [LV.wrg k]) { tmps := tmps, defers := [{ target := Target.fn (Fn.func 49) #[.pointer (some ⟨g3, 0, none⟩)], args := #[] }] } w' := by
  refine leaves_cons (f := 49) (args := #[.pointer (some ⟨g3, 0, none⟩)]) (by simp) (by simp [go_sem]) ?_
  refine (sload1_caught g3 y k [] w' h3).mono ?_
  rintro e1 u' w'' ⟨rfl, rfl, w1, hb1, rfl⟩
  have h3' := h3.below hb1 h3.lt
  have hr := results_tmp2_cell (fn := Tryz.f34) rfl tmps (w1.setCell ⟨g3, 0, none⟩ (.int .i64 k)) g3 k v v2 hv hv2 k3 (cell_of_one (h3'.put 0 _))
  simp [Leaves, settle, hr]
  exact post w1 hb1
theorem ssave1_idle (q : Nat) (y : Int) (w : World) (hq : Bk w q 29 #[.int .i64 y]) :
    CallsD Tryz.prog 55 #[.pointer (some ⟨q, 0, none⟩)] .returning w fun e u' w' => e = .returned (.tuple #[]) ∧ u' = .returning ∧ w' = w.setCell ⟨q, 0, none⟩ (.int .i64 0) := by
  have c1 := cell_of_one hq
  have f1 := free_of_one hq
  refine callsD_of_wpS Tryz.func55 rfl fun c₀ cs hu => ?_
  apply wpS_region
  simp [wpOpsS, go_sem, recoverD, hu, LV.wrg, Tryz.ntmps55, Exit.thenS, Array.replicate, List.replicate]
  refine (LV.told_nil w).mono ?_
  rintro e w' ⟨rfl, rfl⟩
  simp [go_sem, c1, f1, Oper.upon, bodyPostS, results, Tryz.results55]
  cases c₀
  cases hu
  rfl
theorem ssave1_caught (q : Nat) (y k : Int) (older : List PanicEntry) (w : World) (hq : Bk w q 29 #[.int .i64 y]) :
    CallsD Tryz.prog 55 #[.pointer (some ⟨q, 0, none⟩)] (.panicking (LV.wrg k :: older)) w fun e u' w' =>
      e = .returned (.tuple #[]) ∧ u' = .panicking ({ v := .iface 114 (.agg #[.int .i64 k]), recovered := true } :: older) ∧ ∃ w1, Below w.heap.size w w1 ∧ w' = w1.setCell ⟨q, 0, none⟩ (.int .i64 k) := by
  have c1 := cell_of_one hq
  have f1 := free_of_one hq
  refine callsD_of_wpS Tryz.func55 rfl fun c₀ cs hu => ?_
  apply wpS_region
  simp [wpOpsS, go_sem, recoverD, hu, LV.wrg, Tryz.ntmps55, Exit.thenS, Array.replicate, List.replicate]
  refine (LV.told_wrong k w).mono ?_
  rintro e w' ⟨rfl, hb⟩
  have c2 := cell_of_one (hq.below hb hq.lt)
  have f2 := free_of_one (hq.below hb hq.lt)
  simp [go_sem, c2, f2, Oper.upon, bodyPostS, results, Tryz.results55]
  exact ⟨w', hb, rfl⟩
theorem ssave_ret {Q : Ending → World → Prop} {w' : World} {g3 : Nat} {y : Int} {tmps : Array Value} (h3 : Bk w' g3 29 #[.int .i64 y]) (k3 : tmps.getD 4 undef = .pointer (some ⟨g3, 0, none⟩))
    (post : Q (.returned (.int .i64 0)) (w'.setCell ⟨g3, 0, none⟩ (.int .i64 0))) :
    bodyPostD Tryz.prog Tryz.f35 Q Exit.ret { tmps := tmps, defers := [{ target := Target.fn (Fn.func 55) #[.pointer (some ⟨g3, 0, none⟩)], args := #[] }] } w' := by
  refine leaves_cons (f := 55) (args := #[.pointer (some ⟨g3, 0, none⟩)]) (by simp) (by simp [go_sem]) ?_
  refine (ssave1_idle g3 y w' h3).mono ?_
  rintro e1 u' w'' ⟨rfl, rfl, rfl⟩
  have hr := results_one_cell (fn := Tryz.f35) rfl tmps (w'.setCell ⟨g3, 0, none⟩ (.int .i64 0)) g3 0 k3 (cell_of_one (h3.put 0 _))
  simp [Leaves, settle, hr]
  exact post
theorem ssave_bad {Q : Ending → World → Prop} {w' : World} {g3 : Nat} {y k : Int} {tmps : Array Value} (h3 : Bk w' g3 29 #[.int .i64 y]) (k3 : tmps.getD 4 undef = .pointer (some ⟨g3, 0, none⟩))
    (post : ∀ w1, Below w'.heap.size w' w1 → Q (.returned (.int .i64 k)) (w1.setCell ⟨g3, 0, none⟩ (.int .i64 k))) :
    bodyPostD Tryz.prog Tryz.f35 Q (Exit.panic [LV.wrg k]) { tmps := tmps, defers := [{ target := Target.fn (Fn.func 55) #[.pointer (some ⟨g3, 0, none⟩)], args := #[] }] } w' := by
  refine leaves_cons (f := 55) (args := #[.pointer (some ⟨g3, 0, none⟩)]) (by simp) (by simp [go_sem]) ?_
  refine (ssave1_caught g3 y k [] w' h3).mono ?_
  rintro e1 u' w'' ⟨rfl, rfl, w1, hb1, rfl⟩
  have h3' := h3.below hb1 h3.lt
  have hr := results_one_cell (fn := Tryz.f35) rfl tmps (w1.setCell ⟨g3, 0, none⟩ (.int .i64 k)) g3 k k3 (cell_of_one (h3'.put 0 _))
  simp [Leaves, settle, hr]
  exact post w1 hb1
end Go.Proofs.YtnoflgkjdibblaaGreatDoor.S20

/-
  The library's sort and search of rows of whole numbers, at this program: the numbers of what they call, and each of their bodies. No statement is proved here.
-/
namespace Go.Proofs
open Go.Shelf
def Tryz.lays189_ren : Go.Shelf.Ren := ⟨fun | 189 => 43 | 125 => 74 | 257 => 73 | 128 => 102 | 129 => 103 | 294 => 93 | 295 => 94 | 296 => 95 | 297 => 96 | 298 => 97 | 299 => 98 | 216 => 99 | 300 => 100 | 301 => 101 | 328 => 116 | 329 => 117 | 330 => 118 | 331 => 119 | 332 => 120 | 215 => 121 | 343 => 129 | n => n, fun | 28 => 49 | 3 => 3 | 46 => 139 | 0 => 0 | 51 => 158 | 53 => 22 | 4 => 4 | 183 => 150 | 182 => 149 | 131 => 155 | 5 => 5 | 9 => 9 | 218 => 170 | 222 => 174 | 228 => 184 | 229 => 108 | n => n, fun | n => n⟩
theorem Tryz.lays189 : Go.Proofs.Lays.n189 Tryz.prog Tryz.lays189_ren := {
  mixed := by kernel_rfl
  f125 := Tryz.func74.trans (congrArg some (by kernel_rfl))
  f128 := Tryz.func102.trans (congrArg some (by kernel_rfl))
  f129 := Tryz.func103.trans (congrArg some (by kernel_rfl))
  f189 := Tryz.func43.trans (congrArg some (by kernel_rfl))
  f215 := Tryz.func121.trans (congrArg some (by kernel_rfl))
  f216 := Tryz.func99.trans (congrArg some (by kernel_rfl))
  f257 := Tryz.func73.trans (congrArg some (by kernel_rfl))
  f294 := Tryz.func93.trans (congrArg some (by kernel_rfl))
  f295 := Tryz.func94.trans (congrArg some (by kernel_rfl))
  f296 := Tryz.func95.trans (congrArg some (by kernel_rfl))
  f297 := Tryz.func96.trans (congrArg some (by kernel_rfl))
  f298 := Tryz.func97.trans (congrArg some (by kernel_rfl))
  f299 := Tryz.func98.trans (congrArg some (by kernel_rfl))
  f300 := Tryz.func100.trans (congrArg some (by kernel_rfl))
  f301 := Tryz.func101.trans (congrArg some (by kernel_rfl))
  f328 := Tryz.func116.trans (congrArg some (by kernel_rfl))
  f329 := Tryz.func117.trans (congrArg some (by kernel_rfl))
  f330 := Tryz.func118.trans (congrArg some (by kernel_rfl))
  f331 := Tryz.func119.trans (congrArg some (by kernel_rfl))
  f332 := Tryz.func120.trans (congrArg some (by kernel_rfl))
  f343 := Tryz.func129.trans (congrArg some (by kernel_rfl))
  t0 := Tryz.underlying0
  a0 := Tryz.isAgg0
  z0 := Tryz.sizeOf0
  v0 := Tryz.zeroValue0
  t3 := Tryz.underlying3
  a3 := Tryz.isAgg3
  z3 := Tryz.sizeOf3
  v3 := Tryz.zeroValue3
  t4 := Tryz.underlying4
  a4 := Tryz.isAgg4
  z4 := Tryz.sizeOf4
  v4 := Tryz.zeroValue4
  t5 := Tryz.underlying5
  a5 := Tryz.isAgg5
  z5 := Tryz.sizeOf5
  v5 := Tryz.zeroValue5
  t9 := Tryz.underlying9
  a9 := Tryz.isAgg9
  z9 := Tryz.sizeOf9
  v9 := Tryz.zeroValue9
  t28 := Tryz.underlying49
  a28 := Tryz.isAgg49
  z28 := Tryz.sizeOf49
  v28 := Tryz.zeroValue49
  t46 := Tryz.underlying139
  a46 := Tryz.isAgg139
  z46 := Tryz.sizeOf139
  v46 := Tryz.zeroValue139
  t51 := Tryz.underlying158
  a51 := Tryz.isAgg158
  z51 := Tryz.sizeOf158
  v51 := Tryz.zeroValue158
  t53 := Tryz.underlying22
  a53 := Tryz.isAgg22
  z53 := Tryz.sizeOf22
  v53 := Tryz.zeroValue22
  t131 := Tryz.underlying155
  a131 := Tryz.isAgg155
  z131 := Tryz.sizeOf155
  v131 := Tryz.zeroValue155
  t182 := Tryz.underlying149
  a182 := Tryz.isAgg149
  z182 := Tryz.sizeOf149
  v182 := Tryz.zeroValue149
  t183 := Tryz.underlying150
  a183 := Tryz.isAgg150
  z183 := Tryz.sizeOf150
  v183 := Tryz.zeroValue150
  t218 := Tryz.underlying170
  a218 := Tryz.isAgg170
  z218 := Tryz.sizeOf170
  v218 := Tryz.zeroValue170
  t222 := Tryz.underlying174
  a222 := Tryz.isAgg174
  z222 := Tryz.sizeOf174
  v222 := Tryz.zeroValue174
  t228 := Tryz.underlying184
  a228 := Tryz.isAgg184
  z228 := Tryz.sizeOf184
  v228 := Tryz.zeroValue184
  t229 := Tryz.underlying108
  a229 := Tryz.isAgg108
  z229 := Tryz.sizeOf108
  v229 := Tryz.zeroValue108 }
def Tryz.laysB25_ren : Go.Shelf.Ren := ⟨fun | 25 => 114 | 31 => 99 | 32 => 126 | 37 => 121 | n => n, fun | 22 => 49 | 3 => 3 | 4 => 4 | 40 => 139 | 0 => 0 | n => n, fun | n => n⟩
theorem Tryz.laysB25 : Go.Proofs.Lays2.n25 Tryz.prog Tryz.laysB25_ren := {
  mixed := by kernel_rfl
  f25 := Tryz.func114.trans (congrArg some (by kernel_rfl))
  f31 := Tryz.func99.trans (congrArg some (by kernel_rfl))
  f32 := Tryz.func126.trans (congrArg some (by kernel_rfl))
  f37 := Tryz.func121.trans (congrArg some (by kernel_rfl))
  t0 := Tryz.underlying0
  a0 := Tryz.isAgg0
  z0 := Tryz.sizeOf0
  v0 := Tryz.zeroValue0
  t3 := Tryz.underlying3
  a3 := Tryz.isAgg3
  z3 := Tryz.sizeOf3
  v3 := Tryz.zeroValue3
  t4 := Tryz.underlying4
  a4 := Tryz.isAgg4
  z4 := Tryz.sizeOf4
  v4 := Tryz.zeroValue4
  t22 := Tryz.underlying49
  a22 := Tryz.isAgg49
  z22 := Tryz.sizeOf49
  v22 := Tryz.zeroValue49
  t40 := Tryz.underlying139
  a40 := Tryz.isAgg139
  z40 := Tryz.sizeOf139
  v40 := Tryz.zeroValue139 }
end Go.Proofs

/-
  What the library's Clone, Sort and BinarySearch do to rows. No statement is proved here.
-/
namespace Go.Proofs.YtnoflgkjdibblaaGreatDoor.S19
set_option linter.unusedSimpArgs false
set_option linter.unusedVariables false
set_option maxRecDepth 4096
open Go.RowKit

set_option maxHeartbeats 1000000 in
/-- slices.Clone of bytes: a row of the call's own. -/
theorem clone_bs (A : Option Addr) (n c : Nat) (xs : List UInt8) (w : World) (hr : Rd w A n c xs) (hn : n ≤ 140737488355328) :
    Calls Tryz.prog 48 #[.slice A n c] w fun e w' => ∃ A' c', e = .returned (.slice A' n c') ∧ w'.ownsRow w.heap.size 5 1 (.slice A' n c') n (bv xs) ∧ Below w.heap.size w w' := by
  have q : ∀ (w : World) (a : Option Addr) (n c n' c' : Nat), (binOp .eql 23 (.slice a n c) (.slice none n' c')).run Tryz.prog w = .ok (.bool a.isNone) w := fun w a n c n' c' => Lib.run_eql_slice_nil w _ _ a n c n' c' Tryz.underlying23
  rcases A with _ | ad
  · have hc := hr.nil rfl
    have hm : n = 0 := by have := hr.cap; omega
    subst hc hm
    obtain rfl : xs = [] := List.eq_nil_of_length_eq_zero hr.len
    go_enter Tryz.func48, Tryz.ntmps48
    go_wp2
    go_ret
    exact ⟨none, 0, rfl, ⟨rfl, .inl ⟨rfl, rfl⟩⟩, Below.refl _ _⟩
  · have R := Lib.hid hr
    have HN := Lib.hid hn
    clear hr hn
    go_enter Tryz.func48, Tryz.ntmps48
    go_wp2_with (at_builtin; refine append_rd rfl (.tmp 5) (.tmp 6) rfl w.heap.size _ 0 [] rfl (World.ownsRow_lit (base := w.heap.size) (e := 5) (size := 1) w #[] 0 (Nat.le_refl _) (by simp [maxLen]) rfl) (some ad) n c _ rfl (R.out.alloc _) (by have := HN.out; omega) (by simp) ?_; intro v5 w5 o5 g5; obtain ⟨A5, c5, rfl⟩ := own_form o5; have O5 := Lib.hid (own_n o5); have B5 := Lib.hid (((Below.refl w.heap.size w).alloc (Nat.le_refl _) _).grown g5 (by simp) (fun q hq => Nat.le_of_eq (Option.some.inj hq))); clear o5 g5)
    go_ret
    exact ⟨A5, c5, by simp, by simpa using O5.out, B5.out⟩
/-- append to a row of whole numbers. -/
theorem append_zr {w : World} {ops : Array Oper} {rest : List Oper} {o : Oper} {a : Act} {Q : Exit → Act → World → Prop} (hgd : o.guard = none) (s x : Operand)
    (ho : o.op = .call { callee := .builtin .append, args := #[s, x], argTypes := #[49, 49] })
    (base : Nat) (v : Value) (n : Nat) (xs : List Int) (hs : a.eval s = v) (hown : w.ownsRow base 3 1 v n (zv xs))
    (ad : Addr) (m c : Nat) (ys : List Int) (hx : a.eval x = .slice (some ad) m c) (hr : RI w .i64 (some ad) m c ys) (hb : n + m ≤ 2000000000000) (hbase : base ≤ w.heap.size)
    (h : ∀ v' w', w'.ownsRow base 3 1 v' (n + m) (zv (xs ++ ys)) → w.grownBy w' v.ownBlock → wpList Tryz.prog ops Q rest (a.put o.dst v') w') : wpList Tryz.prog ops Q (o :: rest) a w := by
  obtain ⟨i0, hi, hz0, hz1, hz2⟩ := info_parts Tryz.infoZ
  exact wpList_append_own w hgd s x _ ho base 3 i0 (.int .i64 0) 1 8 Tryz.underlying49 hi hz0 hz1 hz2 rfl (by omega) v n (zv xs) hs hown ad m c (zv ys) hx (by simp [zv_length, hr.len]) (news_zi hr) (zv_one _)
      (by simp only [maxLen]; omega) (by omega) hbase fun v' w' h1 h2 _ => h v' w' (by rw [zv_append]; exact h1) h2
set_option maxHeartbeats 1000000 in
/-- slices.Clone of whole numbers: a row of the call's own. -/
theorem clone_zi (A : Option Addr) (n c : Nat) (xs : List Int) (w : World) (hr : RI w .i64 A n c xs) (hn : n ≤ 1099511627776) :
    Calls Tryz.prog 42 #[.slice A n c] w fun e w' => ∃ A' c', e = .returned (.slice A' n c') ∧ w'.ownsRow w.heap.size 3 1 (.slice A' n c') n (zv xs) ∧ Below w.heap.size w w' := by
  obtain ⟨i0, hi, hz0, hz1, hz2⟩ := info_parts Tryz.infoZ
  have q : ∀ (w : World) (a : Option Addr) (n c n' c' : Nat), (binOp .eql 49 (.slice a n c) (.slice none n' c')).run Tryz.prog w = .ok (.bool a.isNone) w := fun w a n c n' c' => Lib.run_eql_slice_nil w _ _ a n c n' c' Tryz.underlying49
  rcases A with _ | ad
  · have hc := hr.nil rfl
    have hm : n = 0 := by have := hr.cap; omega
    subst hc hm
    obtain rfl : xs = [] := List.eq_nil_of_length_eq_zero hr.len
    go_enter Tryz.func42, Tryz.ntmps42
    go_wp2
    go_ret
    exact ⟨none, 0, rfl, ⟨rfl, .inl ⟨rfl, rfl⟩⟩, Below.refl _ _⟩
  · have R := Lib.hid hr
    have HN := Lib.hid hn
    clear hr hn
    go_enter Tryz.func42, Tryz.ntmps42
    go_wp2_with (at_builtin; refine append_zr rfl (.tmp 5) (.tmp 6) rfl w.heap.size _ 0 [] rfl (World.ownsRow_lit (base := w.heap.size) (e := 3) (size := 1) w #[] 0 (Nat.le_refl _) (by simp [maxLen]) rfl) ad n c _ rfl (R.out.below ((Below.refl _ _).alloc (Nat.le_refl _) _)) (by have := HN.out; omega) (by simp) ?_; intro v5 w5 o5 g5; obtain ⟨A5, c5, rfl⟩ := own_form o5; have O5 := Lib.hid o5; have B5 := Lib.hid (((Below.refl w.heap.size w).alloc (Nat.le_refl _) _).grown g5 (by simp) (fun q hq => Nat.le_of_eq (Option.some.inj hq))); clear o5 g5)
    go_ret
    exact ⟨A5, c5, by simp, by simpa using O5.out, B5.out⟩
/-- slices.BinarySearch in a row of whole numbers that is sorted. -/
theorem search_zi (A : Option Addr) (n c : Nat) (xs : List Int) (x : Int) (w : World) (hr : RI w .i64 A n c xs) (hn : n ≤ 1099511627776) (hs : xs.Pairwise (· ≤ ·)) :
    Calls Tryz.prog 114 #[.slice A n c, .int .i64 x] w fun e w' => ∃ p, e = .returned (.tuple #[.int .i64 p, .bool (decide (x ∈ xs))]) ∧ Below w.heap.size w w' := by
  rcases Nat.eq_zero_or_pos n with rfl | h0
  · obtain rfl : xs = [] := List.eq_nil_of_length_eq_zero hr.len
    have h := Any.slices_BinarySearch_int_empty Tryz.laysB25 A c x w
    exact Calls.mono h fun e w' ⟨h1, h2⟩ => ⟨0, h1.trans (by simp), by rw [h2]; exact Below.refl _ _⟩
  · obtain ⟨b, off, rfl, hb, hc⟩ := hr.at_ h0
    have hl := hr.len
    have h := Any.slices_BinarySearch_int Tryz.laysB25 b off n c xs x w (by omega) (by omega) (fun j hj => hc j (by omega)) (by rw [List.take_of_length_le (by omega)]; exact hs)
    rw [List.take_of_length_le (show xs.length ≤ n by omega)] at h
    exact Calls.mono h fun e w' ⟨h1, q, h2⟩ => ⟨((xs.countP (· < x) : Nat) : Int), h1.trans (by rw [List.contains_eq_mem]), by rw [h2]; exact below_drewN (Below.refl _ _) q⟩
def sorted (xs : List Int) : List Int := xs.mergeSort fun x y => decide (x ≤ y)
theorem sorted_mem (xs : List Int) (z : Int) : z ∈ sorted xs ↔ z ∈ xs := by simp [sorted, List.mem_mergeSort]
theorem sorted_len (xs : List Int) : (sorted xs).length = xs.length := by simp [sorted]
theorem sorted_srt (xs : List Int) : (sorted xs).Pairwise (· ≤ ·) := by
  have h := List.pairwise_mergeSort (le := fun x y : Int => decide (x ≤ y)) (fun a b c h1 h2 => by simp at h1 h2 ⊢; omega) (fun a b => by simp; omega) xs
  exact h.imp fun h => by simpa using h
/-- slices.Sort of a row of the caller's own. -/
theorem sort_zi (B : Nat) (A : Option Addr) (n c : Nat) (xs : List Int) (w : World) (ho : w.ownsRow B 3 1 (.slice A n c) n (zv xs)) (hn : n ≤ 1099511627776) (hB : B ≤ w.heap.size) :
    Calls Tryz.prog 43 #[.slice A n c] w fun e w' => e = .returned (.tuple #[]) ∧ w'.ownsRow B 3 1 (.slice A n c) n (zv (sorted xs)) ∧ w.grownBy w' (A.map (·.block)) := by
  have hl : xs.length = n := by have := ho.1; simp [zv_length] at this; exact this
  rcases Nat.eq_zero_or_pos n with rfl | h0
  · obtain rfl : xs = [] := List.eq_nil_of_length_eq_zero hl
    have h := Any.slices_Sort_int_none Tryz.lays189 A c w
    exact Calls.mono h fun e w' ⟨h1, h2⟩ => ⟨h1, by rw [h2]; simpa [sorted] using ho, by rw [h2]; exact World.grownBy.refl _ _⟩
  · rcases ho.2 with ⟨hv, h00⟩ | ⟨g, cap, cur, hv, hbase, hb, h1, h2, h3, h4⟩
    · omega
    · injection hv with e1 e2 e3
      subst e1 e3
      have hH : Sort.Holds (Value.int .i64) w g 0 xs.toArray := holds_of_blockI hb (by rw [hl]; simpa [zv] using h4)
      have h := Any.slices_Sort_int Tryz.lays189 g 0 c xs w hH (Array.getElem?_eq_some_iff.1 hb).1 (by omega)
      rw [hl] at h
      refine Calls.mono h ?_
      rintro e w' ⟨q1, k, os, rfl⟩
      refine ⟨q1, ?_, grownBy_sortedI _⟩
      have := ownsRow_sortedI (w := w) (base := B) (n := k) (os := os) (ss := xs) (ts := sorted xs) (sorted_len xs) hbase hb (by omega) h2 (by simpa using h3)
      rw [hl] at this
      exact this
end Go.Proofs.YtnoflgkjdibblaaGreatDoor.S19

/-
  What the landed disk's step does: it counts, and leaves where by the plan the power goes or nothing is done. No statement is proved here.
-/
namespace Go.Proofs.YtnoflgkjdibblaaGreatDoor.S19
set_option linter.unusedSimpArgs false
set_option linter.unusedVariables false
set_option maxRecDepth 4096
open Go.RowKit

/-- How a step ends. -/
def stepE (c : Nat) : Ending := if c = 0 then .returned (.tuple #[]) else .panicked [LV.wrg (c : Int)]
set_option maxHeartbeats 4000000 in
theorem step_any (N : Nat) (w : World) (g : Nat) (D : Dk) (F : Nat → Prop) (t : Kn N w g D F) (hoff : D.off = false) (hc : D.cnt < 1099511627776) :
    Calls Tryz.prog 90 #[.pointer (some ⟨g, 0, none⟩)] w fun e w' => e = stepE D.stepC ∧ Kn N w' g D.step F ∧ Mv N F w w' := by
  obtain ⟨ok, V, hb, r⟩ := t
  rw [hoff] at hb
  obtain ⟨q, hq⟩ : ∃ q, q = D.cnt + 1 := ⟨_, rfl⟩
  have e1 : wrap64 ((D.cnt : Int) + 1) = (q : Int) := by rw [hq]; unfold wrap64; omega
  have hqi : (D.cnt : Int) + 1 = (q : Int) := by omega
  have c3 : w.cell? ⟨g, 3, none⟩ = some (.int .i64 (D.cnt : Int)) := hb.cell 3
  have f3 := hb.frozen 3
  obtain ⟨w1, hw1⟩ : ∃ w1, w1 = w.setCell ⟨g, 3, none⟩ (.int .i64 (q : Int)) := ⟨_, rfl⟩
  have B1 : Bk w1 g 79 (knA V D.sure.length q D.stop false) := by rw [hw1]; exact hb.put 3 _
  have r1 : In N w1 g D.sure (Dk.laid D.pend D.sure) D.pend D.fails F V := by rw [hw1]; exact r.poke 3 _
  have M1 : Mv N F w w1 := by rw [hw1]; exact Mv.pokeK r.fg (r.gN g r.fg).1 3 _
  have hN1 : N ≤ w1.heap.size := by have := (r1.gN g r1.fg); omega
  have HE := Lib.hid (show D.stepC = if (q : Int) = D.stop then 6 else if (q : Int) ∈ D.fails then 7 else 0 by unfold Dk.stepC; rw [hoff, hqi]; simp)
  have HS := Lib.hid (show D.step = if (q : Int) = D.stop then { D with cnt := q, off := true } else { D with cnt := q } by unfold Dk.step; rw [hqi, ← hq])
  have OK' := Lib.hid (Dk.step_ok ok)
  have k3 : w1.drew.cell? ⟨g, 3, none⟩ = some (.int .i64 (q : Int)) := B1.drew.cell 3
  have k5 : w1.drew.cell? ⟨g, 5, none⟩ = some (.int .i64 D.stop) := B1.drew.cell 5
  obtain ⟨st, hst⟩ : ∃ st, st = D.stop := ⟨_, rfl⟩
  rw [← hst] at k5 B1 HE HS
  have B1H := Lib.hid B1
  have R1 := Lib.hid r1
  have M1H := Lib.hid M1
  have N1 := Lib.hid hN1
  have HST := Lib.hid hst
  clear hb r hq hqi B1 r1 M1 hN1 ok hc hst
  have HW1 := Lib.hid hw1
  clear hw1
  have HOFF := Lib.hid hoff
  clear hoff
  go_enter Tryz.func90, Tryz.ntmps90
  go_upto_region 1 with (fail)
  rw [← HW1.out]
  clear c3 f3 e1
  (go_region_held3 (fun X => X.cell? ⟨g, 3, none⟩ = some (.int .i64 (q : Int)) ∧ X.cell? ⟨g, 5, none⟩ = some (.int .i64 st)) (exact ⟨B1H.out.drew.cell 3, B1H.out.drew.cell 5⟩) (fail))
  by_cases hs : (q : Int) = st
  · rw [if_pos hs] at HE HS
    have y1 : ((q : Int) == st) = true := by simpa using hs
    have C1 := Lib.hid (fun X h => stopL g V D.sure.length q st false X h)
    have C2 := Lib.hid (fun X h => power_no g V D.sure.length q st X h)
    clear hs
    go_wp2_with (first
      | (go_at_call 18; ((with_reducible refine (C1.out _ B1H.out.drew).mono ?_); rintro e w3 ⟨rfl, rfl⟩))
      | (go_at_call 89; ((with_reducible refine (C2.out _ (B1H.out.drew.put 6 (.bool true))).mono ?_); rintro e w4 ⟨rfl, rfl⟩)))
    refine ⟨rfl, by rw [HE.out]; rfl, ⟨OK'.out, V, ?_, ?_⟩, ?_⟩
    · rw [HS.out]
      simp only
      exact B1H.out.drew.put 6 (.bool true)
    · rw [HS.out]
      exact R1.out.drew.poke 6 _
    · exact M1H.out.trans ((Mv.of N1.out (Below.refl _ _).drew).trans (Mv.pokeK R1.out.fg (R1.out.gN g R1.out.fg).1 6 _) (fun b h => .inl h)) (fun b h => .inl h)
  · rw [if_neg hs] at HE HS
    have y1 : ((q : Int) == st) = false := by simpa using hs
    have C2 := Lib.hid (fun X h => power_ok g V D.sure.length q st X h)
    have C3 := Lib.hid (fun X h => search_zi V.fa V.fn V.fc V.zs (q : Int) X h R1.out.few R1.out.srt)
    have C4 := Lib.hid (fun X => LV.need_yes 7 X)
    have C5 := Lib.hid (fun X => LV.need_no 7 X)
    have B2 := Lib.hid (B1H.out.drew)
    clear hs k3 k5
    go_upto_region 4 with (first
      | (go_at_call 89; ((with_reducible refine (C2.out _ B2.out).mono ?_); rintro e w4 ⟨rfl, rfl⟩)))
    (go_region_held3 (fun X => X.cell? ⟨g, 3, none⟩ = some (.int .i64 (q : Int)) ∧ X.cell? ⟨g, 4, none⟩ = some (.slice V.fa V.fn V.fc)) (first
      | exact ⟨(B2.out.drew.below B5.out B2.out.lt).cell 3, (B2.out.drew.below B5.out B2.out.lt).cell 4⟩
      | exact ⟨B2.out.drew.cell 3, B2.out.drew.cell 4⟩) (first
      | (go_at_call 114; ((with_reducible refine (C3.out _ (R1.out.fl.below (Below.refl _ _).drew.drew)).mono ?_); rintro e w5 ⟨p5, rfl, b5⟩; have B5 := Lib.hid b5; clear b5))))
    have G5 := Lib.hid (show Below w1.heap.size w1 w5 from (Below.refl _ _).drew.drew.trans B5.out)
    by_cases hm : (q : Int) ∈ V.zs
    · have hm' : (q : Int) ∈ D.fails := (R1.out.mem _).1 hm
      rw [if_pos hm'] at HE
      rw [show decide ((q : Int) ∈ V.zs) = true from decide_eq_true hm]
      clear hm hm'
      go_wp2_with (first
        | (go_at_call 30; ((with_reducible refine (C5.out _).mono ?_); rintro e w6 ⟨rfl, rfl⟩)))
      refine ⟨rfl, by rw [HE.out]; rfl, ⟨OK'.out, V, ?_, ?_⟩, ?_⟩
      · rw [HS.out]
        simp only
        rw [HOFF.out]
        exact B1H.out.below G5.out B1H.out.lt
      · rw [HS.out]
        exact R1.out.below G5.out
      · exact M1H.out.trans (Mv.of (F := F) N1.out G5.out) (fun b h => .inl h)
    · have hm' : ¬ (q : Int) ∈ D.fails := fun h => hm ((R1.out.mem _).2 h)
      rw [if_neg hm'] at HE
      rw [show decide ((q : Int) ∈ V.zs) = false from decide_eq_false hm]
      clear hm hm'
      go_wp2_with (first
        | (go_at_call 30; ((with_reducible refine (C4.out _).mono ?_); rintro e w6 ⟨rfl, rfl⟩)))
      go_end0
      refine ⟨by rw [HE.out]; rfl, ⟨OK'.out, V, ?_, ?_⟩, ?_⟩
      · rw [HS.out]
        simp only
        rw [HOFF.out]
        exact B1H.out.below G5.out B1H.out.lt
      · rw [HS.out]
        exact R1.out.below G5.out
      · exact M1H.out.trans (Mv.of (F := F) N1.out G5.out) (fun b h => .inl h)
end Go.Proofs.YtnoflgkjdibblaaGreatDoor.S19

/-
  A drawn region that appends what was to lie somewhere: what holds while it is gone through. No statement is proved here.
-/
namespace Go.Proofs.YtnoflgkjdibblaaGreatDoor.S20
set_option linter.unusedSimpArgs false
set_option linter.unusedVariables false
set_option maxRecDepth 4096
open Go.RowKit S19

theorem run_append_lay {o : Oper} {a : Act} {w w' : World} {v u v' : Value} (s x : Operand) (ho : o.op = .call { callee := .builtin .append, args := #[s, x], argTypes := #[59, 59] }) (hs : a.eval s = v) (hx : a.eval x = u)
    (hrun : (Builtin.append_ #[59, 59] o.type #[v, u]).run Tryz.prog w = .ok v' w') : (execOp a.eval o).run Tryz.prog w = .ok (.value v') w' := by
  simp [execOp, ho, resolve, invoke, builtin, hs, hx, hrun, Result.andThen]
/-- One more has come behind what was to be laid. -/
structure Sx (N : Nat) (w : World) (L : Value) (k : Nat) (v8 : Value) (X : World) : Prop where
  ex : ∃ wl vs, Below w.heap.size w wl ∧ X.ownsRow N 135 2 v8 (k + 1) vs ∧ wl.grownBy X L.ownBlock ∧ (v8.ownBlock = L.ownBlock ∨ v8.ownBlock = some wl.heap.size)
abbrev Gh := Nat × Option Addr × Nat
abbrev v8of (k : Nat) (g : Gh) : Value := .slice g.2.1 (k + 1) g.2.2
/-- What holds of a world, some operations being done: load of the row (10), the literal (24), append (25), the store (28). -/
structure ILay (N : Nat) (w : World) (h : Nat) (L : Value) (k : Nat) (cs : Array Value) (g : Gh) (B : Array Bool) (X : World) : Prop where
  o1 : B.getD 25 false = true → B.getD 24 false = true ∧ B.getD 10 false = true
  o2 : B.getD 28 false = true → B.getD 25 false = true
  s1 : B.getD 25 false = false → Below w.heap.size w X
  s2 : B.getD 24 false = true → B.getD 25 false = false → Bk X g.1 135 cs
  s3 : B.getD 25 false = true → B.getD 28 false = false → Sx N w L k (v8of k g) X
  s4 : B.getD 28 false = true → ∃ X0, Sx N w L k (v8of k g) X0 ∧ X = X0.setCell ⟨h, 0, none⟩ (v8of k g)
section
variable {N : Nat} {w : World} {h q k : Nat} {L : Value} {D : Dk} {Z : Sl} {G S T : Nat → Prop} {cs : Array Value} {g : Gh} {B : Array Bool} {X : World}
theorem ILay.pure (I : ILay N w h L k cs g B X) (i : Nat) (h10 : i ≠ 10) (h24 : i ≠ 24) (h25 : i ≠ 25) (h28 : i ≠ 28) : ILay N w h L k cs g (B.setIfInBounds i true) X := by
  have e10 := SG.getD_ne (L := B) h10
  have e24 := SG.getD_ne (L := B) h24
  have e25 := SG.getD_ne (L := B) h25
  have e28 := SG.getD_ne (L := B) h28
  exact ⟨by rw [e25, e24, e10]; exact I.o1, by rw [e28, e25]; exact I.o2, by rw [e25]; exact I.s1, by rw [e24, e25]; exact I.s2, by rw [e25, e28]; exact I.s3, by rw [e28]; exact I.s4⟩
theorem ILay.load (I : ILay N w h L k cs g B X) : ILay N w h L k cs g (B.setIfInBounds 10 true) X := by
  have e24 := SG.getD_ne (L := B) (show 10 ≠ 24 by decide)
  have e25 := SG.getD_ne (L := B) (show 10 ≠ 25 by decide)
  have e28 := SG.getD_ne (L := B) (show 10 ≠ 28 by decide)
  refine ⟨fun e => ?_, by rw [e28, e25]; exact I.o2, by rw [e25]; exact I.s1, by rw [e24, e25]; exact I.s2, by rw [e25, e28]; exact I.s3, by rw [e28]; exact I.s4⟩
  rw [e25] at e
  refine ⟨by rw [e24]; exact (I.o1 e).1, ?_⟩
  rw [SG.getD_set]
  split
  · rfl
  · exact (I.o1 e).2
/-- Where the literal isn't made, or what is appended isn't, the world has but drawn. -/
theorem ILay.early (I : ILay N w h L k cs g B X) (e : B.getD 10 true = false) : Below w.heap.size w X := by
  refine I.s1 ?_
  cases e25 : B.getD 25 false
  · rfl
  · have h1 := (I.o1 e25).2
    by_cases hs : 10 < B.size
    · rw [SG.getD_false hs, h1] at e; cases e
    · simp [Array.getD_eq_getD_getElem?, Array.getElem?_eq_none (Nat.le_of_not_lt hs)] at h1
theorem Sx.block (t : Qs N w h q L k D Z G S T) {v8 : Value} (s : Sx N w L k v8 X) (hq : q < w.heap.size) : X.heap[q]? = w.heap[q]? := by
  obtain ⟨wl, vs, hb, ho, hg, hv⟩ := s.ex
  exact grown_keep hb hg q hq fun e => t.st q t.rz.at_ (t.ld.at_ q e)
theorem ILay.block (t : Qs N w h q L k D Z G S T) (I : ILay N w h L k cs g B X) (hq : q < w.heap.size) (hne : q ≠ h) : X.heap[q]? = w.heap[q]? := by
  cases e25 : B.getD 25 false
  · exact (I.s1 e25).block q hq
  · cases e28 : B.getD 28 false
    · exact (I.s3 e25 e28).block t hq
    · obtain ⟨X0, h1, rfl⟩ := I.s4 e28
      exact (Below.heap_setCell X0 ⟨h, 0, none⟩ _ q hne).trans (h1.block t hq)
theorem getD_tf (i : Nat) (e : B.getD i true = false) : B.getD i false = false ∧ i < B.size := by
  by_cases hs : i < B.size
  · exact ⟨by rw [← SG.getD_false hs]; exact e, hs⟩
  · simp [Array.getD_eq_getD_getElem?, Array.getElem?_eq_none (Nat.le_of_not_lt hs)] at e
theorem ILay.lit (I : ILay N w h L k cs g B X) (h0 : B.getD 24 true = false) : ILay N w h L k cs (X.heap.size, g.2) (B.setIfInBounds 24 true) (X.alloc (.cells cs 135)) := by
  obtain ⟨h1, hs⟩ := getD_tf 24 h0
  have h25 : B.getD 25 false = false := by
    cases e : B.getD 25 false
    · rfl
    · rw [(I.o1 e).1] at h1; cases h1
  have h28 : B.getD 28 false = false := by
    cases e : B.getD 28 false
    · rfl
    · rw [I.o2 e] at h25; cases h25
  have e25 := SG.getD_ne (L := B) (show 24 ≠ 25 by decide)
  have e28 := SG.getD_ne (L := B) (show 24 ≠ 28 by decide)
  have b := I.s1 h25
  refine ⟨fun e => ?_, fun e => ?_, fun _ => b.alloc b.size _, fun _ _ => Bk.newAt _ _ _ _ rfl, fun e => ?_, fun e => ?_⟩
  · rw [e25, h25] at e; cases e
  · rw [e28, h28] at e; cases e
  · rw [e25, h25] at e; cases e
  · rw [e28, h28] at e; cases e
theorem ILay.app (I : ILay N w h L k cs g B X) (h0 : B.getD 25 true = false) (d24 : B.getD 24 false = true) (d10 : B.getD 10 false = true) {A8 : Option Addr} {c8 : Nat} {X' : World} {vs : List Value} (ho : X'.ownsRow N 135 2 (.slice A8 (k + 1) c8) (k + 1) vs) (hg : X.grownBy X' L.ownBlock) (hv : Value.ownBlock (.slice A8 (k + 1) c8) = L.ownBlock ∨ Value.ownBlock (.slice A8 (k + 1) c8) = some X.heap.size) :
    ILay N w h L k cs (g.1, A8, c8) (B.setIfInBounds 25 true) X' := by
  obtain ⟨h1, hs⟩ := getD_tf 25 h0
  have h28 : B.getD 28 false = false := by
    cases e : B.getD 28 false
    · rfl
    · rw [I.o2 e] at h1; cases h1
  have e10 := SG.getD_ne (L := B) (show 25 ≠ 10 by decide)
  have e24 := SG.getD_ne (L := B) (show 25 ≠ 24 by decide)
  have e28 := SG.getD_ne (L := B) (show 25 ≠ 28 by decide)
  have e25 := SG.getD_new (L := B) hs
  refine ⟨fun _ => ⟨by rw [e24]; exact d24, by rw [e10]; exact d10⟩, fun e => ?_, fun e => ?_, fun _ e => ?_, fun _ _ => ⟨⟨X, vs, I.s1 h1, ho, hg, hv⟩⟩, fun e => ?_⟩
  · rw [e28, h28] at e; cases e
  · rw [e25] at e; cases e
  · rw [e25] at e; cases e
  · rw [e28, h28] at e; cases e
theorem ILay.stored (I : ILay N w h L k cs g B X) (h0 : B.getD 28 true = false) (d25 : B.getD 25 false = true) : ILay N w h L k cs g (B.setIfInBounds 28 true) (X.setCell ⟨h, 0, none⟩ (v8of k g)) := by
  obtain ⟨h1, hs⟩ := getD_tf 28 h0
  have e10 := SG.getD_ne (L := B) (show 28 ≠ 10 by decide)
  have e24 := SG.getD_ne (L := B) (show 28 ≠ 24 by decide)
  have e25 := SG.getD_ne (L := B) (show 28 ≠ 25 by decide)
  have e28 := SG.getD_new (L := B) hs
  refine ⟨fun e => ?_, fun _ => by rw [e25]; exact d25, fun e => ?_, fun _ e => ?_, fun _ e => ?_, fun _ => ⟨X, I.s3 d25 h1, rfl⟩⟩
  · rw [e24, e10]; exact I.o1 d25
  · rw [e25, d25] at e; cases e
  · rw [e25, d25] at e; cases e
  · rw [e28] at e; cases e
theorem ILay.start (hB : Below w.heap.size w X) (n : Nat) : ILay N w h L k cs g (Array.replicate n false) X := by
  refine ⟨fun e => ?_, fun e => ?_, fun _ => hB, fun e => ?_, fun e => ?_, fun e => ?_⟩
  all_goals (rw [SG.getD_rep] at e; cases e)
/-- What all of it comes to. -/
theorem ILay.done (t : Qs N w h q L k D Z G S T) (I : ILay N w h L k cs g B X) (e : B.getD 28 false = true) : ∃ T', Qs N X h q (v8of k g) (k + 1) D Z G S T' ∧ (∀ b, T' b → T b ∨ w.heap.size ≤ b) ∧ Mv N (Or3 G (fun x => x = q) T) w X := by
  obtain ⟨X0, s, rfl⟩ := I.s4 e
  obtain ⟨wl, vs, hb, ho, hg, hv⟩ := s.ex
  obtain ⟨h1, h2, h3⟩ := lay_step t hb ho hg hv
  exact ⟨_, h1, h3, h2⟩
theorem Sx.head (t : Qs N w h q L k D Z G S T) {v8 : Value} (s : Sx N w L k v8 X) (hh : h < w.heap.size) : X.heap[h]? = w.heap[h]? := by
  obtain ⟨wl, vs, hb, ho, hg, hv⟩ := s.ex
  exact grown_keep hb hg h hh fun e => t.gt h t.rk.lo.2 (t.ld.at_ h e)
end
end Go.Proofs.YtnoflgkjdibblaaGreatDoor.S20
