/-
  Texts put together: Ds1, Lv, Ds2, Ds3, Ds6, Sk1. No statement is proved here.
-/
import Derived.Test.YtdbamdbdogdpjaaGreatDoorWa06
import Derived.Test.YtdbamdbdogdpjaaGreatDoorWa02
import Derived.Recover
import Derived.Laws.Panics
import Derived.Laws.PanicsMore
import Derived.Deep.RegionWith
import Derived.Deep.RegionLaw
import Derived.Test.YtdbamdbdogdpjaaGreatDoorWa07
import Derived.Test.YtdbamdbdogdpjaaGreatDoorWa22

/-
  Sectors and pending writes as cells, one behind the other, in plain words. No statement is proved here.
-/
namespace Go.Proofs.YtdbamdbdogdpjaaGreatDoor.S19
set_option linter.unusedSimpArgs false
set_option linter.unusedVariables false
open Go.RowKit

/-- The cells of rows, one behind the other. -/
def rowsV (s : List (List UInt8)) : List Value := s.flatMap bv
/-- The cells of what is pending. -/
def pendV (p : List (Nat × List UInt8)) : List Value := p.flatMap fun q => Value.int .i64 (q.1 : Int) :: bv q.2
theorem flat_len {α : Type} (f : α → List Value) (n : Nat) : ∀ (s : List α), (∀ b ∈ s, (f b).length = n) → (s.flatMap f).length = n * s.length
  | [], _ => by simp
  | b :: s, h => by
    rw [List.flatMap_cons, List.length_append, h b (by simp), flat_len f n s fun c hc => h c (by simp [hc]), List.length_cons, Nat.mul_succ]; omega
theorem rowsV_len {s : List (List UInt8)} (h : ∀ b ∈ s, b.length = 64) : (rowsV s).length = 64 * s.length := flat_len bv 64 s fun b hb => by rw [bv_length]; exact h b hb
theorem pendV_len {p : List (Nat × List UInt8)} (h : ∀ q ∈ p, q.2.length = 64) : (pendV p).length = 65 * p.length := flat_len _ 65 p fun q hq => by rw [List.length_cons, bv_length, h q hq]
theorem rowsV_append (s t : List (List UInt8)) : rowsV (s ++ t) = rowsV s ++ rowsV t := by simp [rowsV]
theorem pendV_snoc (p : List (Nat × List UInt8)) (i : Nat) (b : List UInt8) : pendV (p ++ [(i, b)]) = pendV p ++ (Value.int .i64 (i : Int) :: bv b) := by simp [pendV]
theorem rowsV_split {s : List (List UInt8)} {i : Nat} (h : i < s.length) : rowsV s = rowsV (s.take i) ++ bv (s.getD i []) ++ rowsV (s.drop (i + 1)) := by
  have e : s = s.take i ++ [s.getD i []] ++ s.drop (i + 1) := by
    rw [List.getD_eq_getElem?_getD, List.getElem?_eq_getElem h]
    simp
  conv => lhs; rw [e]
  rw [rowsV_append, rowsV_append]
  simp [rowsV]
theorem rowsV_set {s : List (List UInt8)} {i : Nat} (h : i < s.length) (b : List UInt8) : rowsV (s.set i b) = rowsV (s.take i) ++ bv b ++ rowsV (s.drop (i + 1)) := by
  have h' : i < (s.set i b).length := by simpa using h
  have e1 : (s.set i b).take i = s.take i := by rw [List.take_set_of_le (Nat.le_refl i)]
  have e2 : (s.set i b).getD i [] = b := by rw [List.getD_eq_getElem?_getD, List.getElem?_set_self h]; rfl
  have e3 : (s.set i b).drop (i + 1) = s.drop (i + 1) := by rw [List.drop_set_of_lt (by omega)]
  rw [rowsV_split h', e1, e2, e3]
theorem take_rows {s : List (List UInt8)} (h : ∀ b ∈ s, b.length = 64) (i : Nat) (hi : i ≤ s.length) : (rowsV (s.take i)).length = 64 * i := by
  rw [rowsV_len fun b hb => h b (List.mem_of_mem_take hb), List.length_take, Nat.min_eq_left hi]
theorem pend_split {p : List (Nat × List UInt8)} {i : Nat} (h : i < p.length) : pendV p = pendV (p.take i) ++ (Value.int .i64 (p[i].1 : Int) :: bv p[i].2) ++ pendV (p.drop (i + 1)) := by
  have e : p = p.take i ++ [p[i]] ++ p.drop (i + 1) := by simp
  have h3 : ∀ a b c : List (Nat × List UInt8), pendV (a ++ b ++ c) = pendV a ++ pendV b ++ pendV c := by intro a b c; simp [pendV]
  conv => lhs; rw [e]
  rw [h3]
  simp [pendV]
theorem take_pend {p : List (Nat × List UInt8)} (h : ∀ q ∈ p, q.2.length = 64) (i : Nat) (hi : i ≤ p.length) : (pendV (p.take i)).length = 65 * i := by
  rw [pendV_len fun q hq => h q (List.mem_of_mem_take hq), List.length_take, Nat.min_eq_left hi]
theorem getD_mem {s : List (List UInt8)} {i : Nat} (h : i < s.length) : s.getD i [] ∈ s := by
  rw [List.getD_eq_getElem?_getD, List.getElem?_eq_getElem h]
  exact List.getElem_mem h
/-- The cells of a sector, where it lies. -/
theorem rowsV_at {s : List (List UInt8)} (h : ∀ b ∈ s, b.length = 64) {i j : Nat} (hi : i < s.length) (hj : j < 64) : (rowsV s)[64 * i + j]? = some (.int .u8 (((s.getD i []).getD j 0).toNat : Int)) := by
  have hl := take_rows h i (Nat.le_of_lt hi)
  have hb := h _ (getD_mem hi)
  rw [rowsV_split hi, List.append_assoc, List.getElem?_append_right (by omega), hl, Nat.add_sub_cancel_left]
  generalize s.getD i [] = x at hb ⊢
  rw [List.getElem?_append_left (by rw [bv_length]; omega), bv_at _ _ (by omega), List.getD_eq_getElem?_getD, List.getElem?_eq_getElem (show j < x.length by omega)]
  rfl
theorem rowsV_one (s : List (List UInt8)) : ∀ u ∈ rowsV s, u.oneCell' = true := by
  intro u hu
  obtain ⟨b, _, hb⟩ := List.mem_flatMap.1 hu
  exact bv_one b u hb
theorem pendV_one (p : List (Nat × List UInt8)) : ∀ u ∈ pendV p, u.oneCell' = true := by
  intro u hu
  obtain ⟨q, _, hq⟩ := List.mem_flatMap.1 hu
  rcases List.mem_cons.1 hq with rfl | hq
  · rfl
  · exact bv_one q.2 u hq
theorem rowsV_zero (k : Nat) : rowsV (List.replicate k (List.replicate 64 0)) = List.replicate (64 * k) (Value.int .u8 0) := by
  induction k with
  | zero => simp [rowsV]
  | succ k ih =>
    rw [List.replicate_succ, rowsV, List.flatMap_cons]
    have : (List.replicate k (List.replicate 64 (0 : UInt8))).flatMap bv = rowsV (List.replicate k (List.replicate 64 0)) := rfl
    rw [this, ih, Nat.mul_succ, Nat.add_comm, ← List.replicate_append_replicate]
    congr 1
/-- What was written is laid: one more. -/
theorem laid_sn1 : ∀ (p : List (Nat × List UInt8)) (s : List (List UInt8)) (i : Nat) (b : List UInt8), Dk.laid (p ++ [(i, b)]) s = (Dk.laid p s).set i b
  | [], s, i, b => rfl
  | q :: p, s, i, b => by rw [List.cons_append, Dk.laid, laid_sn1 p, Dk.laid]
end Go.Proofs.YtdbamdbdogdpjaaGreatDoor.S19

/-
  What the landed package leave does: Need and Told. No statement is proved here.
-/
namespace Go.Proofs.YtdbamdbdogdpjaaGreatDoor.LV
set_option linter.unusedSimpArgs false
set_option linter.unusedVariables false
open Go.RowKit

/-- What a call leaves by: the code k. -/
def wrg (k : Int) : PanicEntry := { v := .iface 105 (.agg #[.int .i64 k]), recovered := false }
theorem told_nil (w : World) : Calls Tryz.prog 27 #[.nilIface] w fun e w' => e = .returned (.int .i64 0) ∧ w = w' := by
  go_enter Tryz.func27, Tryz.ntmps27
  go_wp2
  go_ret
  exact ⟨rfl, rfl⟩
theorem told_wrong (k : Int) (w : World) : Calls Tryz.prog 27 #[.iface 105 (.agg #[.int .i64 k])] w fun e w' => e = .returned (.int .i64 k) ∧ Below w.heap.size w w' := by
  have ta : ∀ w, (Instr.typeAssert (.iface 105 (.agg #[.int .i64 k])) 20 105 true).run Tryz.prog w = .ok (.tuple #[.agg #[.int .i64 k], .bool true]) w := fun _ => by kernel_rfl
  go_enter Tryz.func27, Tryz.ntmps27
  go_wp2
  go_ret
  exact ⟨rfl, (Below.refl _ _).alloc (Nat.le_refl _) _⟩
theorem need_yes (k : Int) (w : World) : Calls Tryz.prog 28 #[.bool true, .int .i64 k] w fun e w' => e = .returned (.tuple #[]) ∧ w = w' := by
  go_enter Tryz.func28, Tryz.ntmps28
  go_wp2
  go_end0
  exact ⟨rfl, rfl⟩
theorem need_no (k : Int) (w : World) : Calls Tryz.prog 28 #[.bool false, .int .i64 k] w fun e w' => e = .panicked [wrg k] ∧ w = w' := by
  go_enter Tryz.func28, Tryz.ntmps28
  go_wp2
  exact ⟨rfl, rfl, rfl⟩
end Go.Proofs.YtdbamdbdogdpjaaGreatDoor.LV

/-
  The landed disk in memory: where it lies, and what abides. No statement is proved here.
-/
namespace Go.Proofs.YtdbamdbdogdpjaaGreatDoor.S19
set_option linter.unusedSimpArgs false
set_option linter.unusedVariables false
set_option maxRecDepth 4096
open Go.RowKit

/-- The values that lie in the landed disk. -/
structure KnV where
  sb : Nat
  nb : Nat
  vP : Value
  fa : Option Addr
  fn : Nat
  fc : Nat
  zs : List Int
/-- Its cells. -/
abbrev knA (V : KnV) (k cnt : Nat) (st : Int) (off : Bool) : Array Value := #[.slice (some ⟨V.sb, 0, none⟩) k k, .slice (some ⟨V.nb, 0, none⟩) k k, V.vP, .int .i64 (cnt : Int), .slice V.fa V.fn V.fc, .int .i64 st, .bool off]
/-- All but the block of the disk itself. -/
structure In (N : Nat) (w : World) (g : Nat) (sure now : List (List UInt8)) (pend : List (Nat × List UInt8)) (fails : List Int) (F : Nat → Prop) (V : KnV) : Prop where
  sure : Bk w V.sb 96 (rowsV sure).toArray
  now : Bk w V.nb 96 (rowsV now).toArray
  pend : w.ownsRow N 98 65 V.vP pend.length (pendV pend)
  fl : RI w .i64 V.fa V.fn V.fc V.zs
  few : V.fn ≤ 1099511627776
  mem : ∀ z, z ∈ V.zs ↔ z ∈ fails
  srt : V.zs.Pairwise (· ≤ ·)
  fg : F g
  fs : F V.sb
  fnn : F V.nb
  fp : ∀ b, V.vP.ownBlock = some b → F b
  ff : ∀ a, 0 < V.fn → V.fa = some a → F a.block
  gN : ∀ b, F b → N ≤ b ∧ b < w.heap.size
  d1 : g ≠ V.sb
  d2 : g ≠ V.nb
  d3 : V.sb ≠ V.nb
  dP : ∀ b, V.vP.ownBlock = some b → b ≠ g ∧ b ≠ V.sb ∧ b ≠ V.nb
  dF : ∀ a, 0 < V.fn → V.fa = some a → a.block ≠ g ∧ a.block ≠ V.sb ∧ a.block ≠ V.nb ∧ V.vP.ownBlock ≠ some a.block
/-- The landed disk. -/
structure Kn (N : Nat) (w : World) (g : Nat) (D : Dk) (F : Nat → Prop) : Prop where
  ok : D.Ok
  ex : ∃ V, Bk w g 68 (knA V D.sure.length D.cnt D.stop D.off) ∧ In N w g D.sure (Dk.laid D.pend D.sure) D.pend D.fails F V
section
variable {N : Nat} {w w' : World} {g : Nat} {F F' : Nat → Prop} {V : KnV} {sure now : List (List UInt8)} {pend : List (Nat × List UInt8)} {fails : List Int} {D : Dk}
/-- What abides where the disk's blocks are as they were. -/
theorem In.keep (r : In N w g sure now pend fails F V) (hs : w.heap.size ≤ w'.heap.size) (hk : ∀ b, F b → b ≠ g → b < w.heap.size → w'.heap[b]? = w.heap[b]?) : In N w' g sure now pend fails F V :=
  ⟨(hk _ r.fs r.d1.symm r.sure.lt).trans r.sure, (hk _ r.fnn r.d2.symm r.now.lt).trans r.now, own_keepH r.pend fun b hb hlt => hk b (r.fp b hb) (r.dP b hb).1 hlt,
    r.fl.keep hs fun a h1 h2 h3 => hk _ (r.ff a h1 h2) (r.dF a h1 h2).1 h3, r.few, r.mem, r.srt, r.fg, r.fs, r.fnn, r.fp, r.ff, fun b hb => ⟨(r.gN b hb).1, Nat.lt_of_lt_of_le (r.gN b hb).2 hs⟩, r.d1, r.d2, r.d3, r.dP, r.dF⟩
theorem In.below (r : In N w g sure now pend fails F V) (hb : Below w.heap.size w w') : In N w' g sure now pend fails F V := r.keep hb.size fun b _ _ hlt => hb.block b hlt
/-- The disk's own block is written. -/
theorem In.poke (r : In N w g sure now pend fails F V) (i : Nat) (u : Value) : In N (w.setCell ⟨g, i, none⟩ u) g sure now pend fails F V :=
  r.keep (by simp) fun b _ hb _ => Below.heap_setCell w ⟨g, i, none⟩ u b hb
theorem In.drew (r : In N w g sure now pend fails F V) : In N w.drew g sure now pend fails F V := r.below (Below.refl _ _).drew
theorem In.gt (r : In N w g sure now pend fails F V) : g < w.heap.size := (r.gN g r.fg).2
theorem Kn.keep (t : Kn N w g D F) (hs : w.heap.size ≤ w'.heap.size) (hk : ∀ b, F b → b < w.heap.size → w'.heap[b]? = w.heap[b]?) : Kn N w' g D F := by
  obtain ⟨ok, V, hb, r⟩ := t
  exact ⟨ok, V, (hk g r.fg hb.lt).trans hb, r.keep hs fun b hF _ hlt => hk b hF hlt⟩
theorem Kn.below (t : Kn N w g D F) (hb : Below w.heap.size w w') : Kn N w' g D F := t.keep hb.size fun b _ hlt => hb.block b hlt
theorem Kn.lt (t : Kn N w g D F) : ∀ b, F b → N ≤ b ∧ b < w.heap.size := by
  obtain ⟨ok, V, hb, r⟩ := t
  exact r.gN
/-- What a poke of the disk's own block may touch. -/
theorem Mv.pokeK (hg : F g) (hN : N ≤ g) (i : Nat) (u : Value) : Mv N F w (w.setCell ⟨g, i, none⟩ u) :=
  ⟨(Below.refl _ _).setCell (show N ≤ (⟨g, i, none⟩ : Addr).block from hN) u, fun b _ hb => Below.heap_setCell w ⟨g, i, none⟩ u b fun e => hb (by rw [e]; exact hg)⟩
end
end Go.Proofs.YtdbamdbdogdpjaaGreatDoor.S19

/-
  What the landed disk's small calls do: needPower, needSector, Stop, Count. No statement is proved here.
-/
namespace Go.Proofs.YtdbamdbdogdpjaaGreatDoor.S19
set_option linter.unusedSimpArgs false
set_option linter.unusedVariables false
set_option maxRecDepth 4096
open Go.RowKit

theorem power_ok (g : Nat) (V : KnV) (k cnt : Nat) (st : Int) (w : World) (hb : Bk w g 68 (knA V k cnt st false)) :
    Calls Tryz.prog 52 #[.pointer (some ⟨g, 0, none⟩)] w fun e w' => e = .returned (.tuple #[]) ∧ w = w' := by
  have c6 : w.cell? ⟨g, 6, none⟩ = some (.bool false) := hb.cell 6
  have HN := Lib.hid (fun X => LV.need_yes 6 X)
  go_enter Tryz.func52, Tryz.ntmps52
  go_wp2_with (go_at_call 28; ((with_reducible refine (HN.out _).mono ?_); rintro e w1 ⟨rfl, rfl⟩))
  go_end0
  exact ⟨rfl, rfl⟩
theorem power_no (g : Nat) (V : KnV) (k cnt : Nat) (st : Int) (w : World) (hb : Bk w g 68 (knA V k cnt st true)) :
    Calls Tryz.prog 52 #[.pointer (some ⟨g, 0, none⟩)] w fun e w' => e = .panicked [LV.wrg 6] ∧ w = w' := by
  have c6 : w.cell? ⟨g, 6, none⟩ = some (.bool true) := hb.cell 6
  have HN := Lib.hid (fun X => LV.need_no 6 X)
  go_enter Tryz.func52, Tryz.ntmps52
  go_wp2_with (go_at_call 28; ((with_reducible refine (HN.out _).mono ?_); rintro e w1 ⟨rfl, rfl⟩))
  exact ⟨rfl, rfl, rfl⟩
theorem sector_ok (g : Nat) (V : KnV) (k cnt : Nat) (st : Int) (off : Bool) (i : Int) (h0 : 0 ≤ i) (h1 : i < (k : Int)) (w : World) (hb : Bk w g 68 (knA V k cnt st off)) :
    Calls Tryz.prog 53 #[.pointer (some ⟨g, 0, none⟩), .int .i64 i] w fun e w' => e = .returned (.tuple #[]) ∧ w = w' := by
  have c1 : w.cell? ⟨g, 1, none⟩ = some (.slice (some ⟨V.nb, 0, none⟩) k k) := hb.cell 1
  have HN := Lib.hid (fun X => LV.need_yes 1 X)
  go_enter Tryz.func53, Tryz.ntmps53
  go_wp2_with (go_at_call 28; ((with_reducible refine (HN.out _).mono ?_); rintro e w1 ⟨rfl, rfl⟩))
  go_end0
  exact ⟨rfl, rfl⟩
theorem sector_no (g : Nat) (V : KnV) (k cnt : Nat) (st : Int) (off : Bool) (i : Int) (hi : ¬ (0 ≤ i ∧ i < (k : Int))) (w : World) (hb : Bk w g 68 (knA V k cnt st off)) :
    Calls Tryz.prog 53 #[.pointer (some ⟨g, 0, none⟩), .int .i64 i] w fun e w' => e = .panicked [LV.wrg 1] ∧ w = w' := by
  have c1 : w.cell? ⟨g, 1, none⟩ = some (.slice (some ⟨V.nb, 0, none⟩) k k) := hb.cell 1
  have HN := Lib.hid (fun X => LV.need_no 1 X)
  by_cases h0 : 0 ≤ i
  · have h1 : ¬ i < (k : Int) := fun h => hi ⟨h0, h⟩
    clear hi
    go_enter Tryz.func53, Tryz.ntmps53
    go_wp2_with (go_at_call 28; ((with_reducible refine (HN.out _).mono ?_); rintro e w1 ⟨rfl, rfl⟩))
    exact ⟨rfl, rfl, rfl⟩
  · clear hi
    go_enter Tryz.func53, Tryz.ntmps53
    go_wp2_with (go_at_call 28; ((with_reducible refine (HN.out _).mono ?_); rintro e w1 ⟨rfl, rfl⟩))
    exact ⟨rfl, rfl, rfl⟩
theorem stopL (g : Nat) (V : KnV) (k cnt : Nat) (st : Int) (off : Bool) (w : World) (hb : Bk w g 68 (knA V k cnt st off)) :
    Calls Tryz.prog 21 #[.pointer (some ⟨g, 0, none⟩)] w fun e w' => e = .returned (.tuple #[]) ∧ w' = w.setCell ⟨g, 6, none⟩ (.bool true) := by
  have c6 : w.cell? ⟨g, 6, none⟩ = some (.bool off) := hb.cell 6
  have f6 := hb.frozen 6
  go_enter Tryz.func21, Tryz.ntmps21
  go_wp2
  go_end0
  exact ⟨rfl, rfl⟩
theorem stop_any (N : Nat) (w : World) (g : Nat) (D : Dk) (F : Nat → Prop) (t : Kn N w g D F) : Calls Tryz.prog 21 #[.pointer (some ⟨g, 0, none⟩)] w (Post Kn N F g w D.halt (.tuple #[])) := by
  obtain ⟨ok, V, hb, r⟩ := t
  refine (stopL g V _ _ _ _ w hb).mono ?_
  rintro e w' ⟨rfl, rfl⟩
  exact ⟨rfl, F, ⟨Dk.halt_ok ok, V, hb.put 6 (.bool true), r.poke 6 _⟩, fun b h => .inl h, Mv.pokeK r.fg (r.gN g r.fg).1 6 _⟩
theorem own_slice {w : World} {B e sz n : Nat} {v : Value} {xs : List Value} (h : w.ownsRow B e sz v n xs) : ∃ A c, v = .slice A n c := by
  rcases h.2 with ⟨rfl, rfl⟩ | ⟨g, cap, cur, rfl, _⟩
  · exact ⟨none, 0, rfl⟩
  · exact ⟨_, cap, rfl⟩
end Go.Proofs.YtdbamdbdogdpjaaGreatDoor.S19

/-
  What the deferred calls of the landed disk do, and how the calls that defer them end. No statement is proved here.
-/
namespace Go.Proofs.YtdbamdbdogdpjaaGreatDoor.S19
set_option linter.unusedSimpArgs false
set_option linter.unusedVariables false
set_option maxRecDepth 4096
open Go.RowKit

theorem load_codeD (g : Nat) (n : Int) (w : World) (h : w.cell? ⟨g, 0, none⟩ = some (.int .i64 n)) : (loadVar 25 ⟨g, 0, none⟩).run Tryz.prog w = .ok (.int .i64 n) w := by
  go_simp
theorem results_one_cell {fn : Func} {q : Tmp} (h : fn.results = #[.cell q 25]) (tmps : Array Value) (w : World) (g' : Nat) (n : Int)
    (hq : tmps.getD q undef = .pointer (some ⟨g', 0, none⟩)) (hc : w.cell? ⟨g', 0, none⟩ = some (.int .i64 n)) : (results fn tmps).run Tryz.prog w = .ok (.int .i64 n) w := by
  have hq' : tmps[q]?.getD undef = .pointer (some ⟨g', 0, none⟩) := by simpa using hq
  simp [results, h, hq', asAddr, load_codeD g' n w hc]
theorem results_tmp_cell {fn : Func} {p q : Tmp} (h : fn.results = #[.tmp p, .cell q 25]) (tmps : Array Value) (w : World) (g' : Nat) (n : Int) (v : Value)
    (hp : tmps.getD p undef = v) (hq : tmps.getD q undef = .pointer (some ⟨g', 0, none⟩)) (hc : w.cell? ⟨g', 0, none⟩ = some (.int .i64 n)) : (results fn tmps).run Tryz.prog w = .ok (.tuple #[v, .int .i64 n]) w := by
  have hp' : tmps[p]?.getD undef = v := by simpa using hp
  have hq' : tmps[q]?.getD undef = .pointer (some ⟨g', 0, none⟩) := by simpa using hq
  simp [results, h, hp', hq', asAddr, load_codeD g' n w hc]
theorem dnew1_idle (q : Nat) (y : Int) (w : World) (hq : Bk w q 25 #[.int .i64 y]) :
    CallsD Tryz.prog 26 #[.pointer (some ⟨q, 0, none⟩)] .returning w fun e u' w' => e = .returned (.tuple #[]) ∧ u' = .returning ∧ w' = w.setCell ⟨q, 0, none⟩ (.int .i64 0) := by
  have c1 := cell_of_one hq
  have f1 := free_of_one hq
  refine callsD_of_wpS Tryz.func26 rfl fun c₀ cs hu => ?_
  apply wpS_region
  simp [wpOpsS, go_sem, recoverD, hu, LV.wrg, Tryz.ntmps26, Exit.thenS, Array.replicate, List.replicate]
  refine (LV.told_nil w).mono ?_
  rintro e w' ⟨rfl, rfl⟩
  simp [go_sem, c1, f1, Oper.upon, bodyPostS, results, Tryz.results26]
  cases c₀
  cases hu
  rfl
theorem dnew1_caught (q : Nat) (y k : Int) (older : List PanicEntry) (w : World) (hq : Bk w q 25 #[.int .i64 y]) :
    CallsD Tryz.prog 26 #[.pointer (some ⟨q, 0, none⟩)] (.panicking (LV.wrg k :: older)) w fun e u' w' =>
      e = .returned (.tuple #[]) ∧ u' = .panicking ({ v := .iface 105 (.agg #[.int .i64 k]), recovered := true } :: older) ∧ ∃ w1, Below w.heap.size w w1 ∧ w' = w1.setCell ⟨q, 0, none⟩ (.int .i64 k) := by
  have c1 := cell_of_one hq
  have f1 := free_of_one hq
  refine callsD_of_wpS Tryz.func26 rfl fun c₀ cs hu => ?_
  apply wpS_region
  simp [wpOpsS, go_sem, recoverD, hu, LV.wrg, Tryz.ntmps26, Exit.thenS, Array.replicate, List.replicate]
  refine (LV.told_wrong k w).mono ?_
  rintro e w' ⟨rfl, hb⟩
  have c2 := cell_of_one (hq.below hb hq.lt)
  have f2 := free_of_one (hq.below hb hq.lt)
  simp [go_sem, c2, f2, Oper.upon, bodyPostS, results, Tryz.results26]
  exact ⟨w', hb, rfl⟩
theorem dnew_ret {Q : Ending → World → Prop} {w' : World} {g3 : Nat} {y : Int} {tmps : Array Value} {v : Value} (hv : tmps.getD 2 undef = v) (h3 : Bk w' g3 25 #[.int .i64 y]) (k3 : tmps.getD 3 undef = .pointer (some ⟨g3, 0, none⟩))
    (post : Q (.returned (.tuple #[v, .int .i64 0])) (w'.setCell ⟨g3, 0, none⟩ (.int .i64 0))) :
    bodyPostD Tryz.prog Tryz.f5 Q Exit.ret { tmps := tmps, defers := [{ target := Target.fn (Fn.func 26) #[.pointer (some ⟨g3, 0, none⟩)], args := #[] }] } w' := by
  refine leaves_cons (f := 26) (args := #[.pointer (some ⟨g3, 0, none⟩)]) (by simp) (by simp [go_sem]) ?_
  refine (dnew1_idle g3 y w' h3).mono ?_
  rintro e1 u' w'' ⟨rfl, rfl, rfl⟩
  have hr := results_tmp_cell (fn := Tryz.f5) rfl tmps (w'.setCell ⟨g3, 0, none⟩ (.int .i64 0)) g3 0 v hv k3 (cell_of_one (h3.put 0 _))
  simp [Leaves, settle, hr]
  exact post
theorem dnew_bad {Q : Ending → World → Prop} {w' : World} {g3 : Nat} {y k : Int} {tmps : Array Value} {v : Value} (hv : tmps.getD 2 undef = v) (h3 : Bk w' g3 25 #[.int .i64 y]) (k3 : tmps.getD 3 undef = .pointer (some ⟨g3, 0, none⟩))
    (post : ∀ w1, Below w'.heap.size w' w1 → Q (.returned (.tuple #[v, .int .i64 k])) (w1.setCell ⟨g3, 0, none⟩ (.int .i64 k))) :
    bodyPostD Tryz.prog Tryz.f5 Q (Exit.panic [LV.wrg k]) { tmps := tmps, defers := [{ target := Target.fn (Fn.func 26) #[.pointer (some ⟨g3, 0, none⟩)], args := #[] }] } w' := by
  refine leaves_cons (f := 26) (args := #[.pointer (some ⟨g3, 0, none⟩)]) (by simp) (by simp [go_sem]) ?_
  refine (dnew1_caught g3 y k [] w' h3).mono ?_
  rintro e1 u' w'' ⟨rfl, rfl, w1, hb1, rfl⟩
  have h3' := h3.below hb1 h3.lt
  have hr := results_tmp_cell (fn := Tryz.f5) rfl tmps (w1.setCell ⟨g3, 0, none⟩ (.int .i64 k)) g3 k v hv k3 (cell_of_one (h3'.put 0 _))
  simp [Leaves, settle, hr]
  exact post w1 hb1
theorem dread1_idle (q : Nat) (y : Int) (w : World) (hq : Bk w q 25 #[.int .i64 y]) :
    CallsD Tryz.prog 80 #[.pointer (some ⟨q, 0, none⟩)] .returning w fun e u' w' => e = .returned (.tuple #[]) ∧ u' = .returning ∧ w' = w.setCell ⟨q, 0, none⟩ (.int .i64 0) := by
  have c1 := cell_of_one hq
  have f1 := free_of_one hq
  refine callsD_of_wpS Tryz.func80 rfl fun c₀ cs hu => ?_
  apply wpS_region
  simp [wpOpsS, go_sem, recoverD, hu, LV.wrg, Tryz.ntmps80, Exit.thenS, Array.replicate, List.replicate]
  refine (LV.told_nil w).mono ?_
  rintro e w' ⟨rfl, rfl⟩
  simp [go_sem, c1, f1, Oper.upon, bodyPostS, results, Tryz.results80]
  cases c₀
  cases hu
  rfl
theorem dread1_caught (q : Nat) (y k : Int) (older : List PanicEntry) (w : World) (hq : Bk w q 25 #[.int .i64 y]) :
    CallsD Tryz.prog 80 #[.pointer (some ⟨q, 0, none⟩)] (.panicking (LV.wrg k :: older)) w fun e u' w' =>
      e = .returned (.tuple #[]) ∧ u' = .panicking ({ v := .iface 105 (.agg #[.int .i64 k]), recovered := true } :: older) ∧ ∃ w1, Below w.heap.size w w1 ∧ w' = w1.setCell ⟨q, 0, none⟩ (.int .i64 k) := by
  have c1 := cell_of_one hq
  have f1 := free_of_one hq
  refine callsD_of_wpS Tryz.func80 rfl fun c₀ cs hu => ?_
  apply wpS_region
  simp [wpOpsS, go_sem, recoverD, hu, LV.wrg, Tryz.ntmps80, Exit.thenS, Array.replicate, List.replicate]
  refine (LV.told_wrong k w).mono ?_
  rintro e w' ⟨rfl, hb⟩
  have c2 := cell_of_one (hq.below hb hq.lt)
  have f2 := free_of_one (hq.below hb hq.lt)
  simp [go_sem, c2, f2, Oper.upon, bodyPostS, results, Tryz.results80]
  exact ⟨w', hb, rfl⟩
theorem dread_ret {Q : Ending → World → Prop} {w' : World} {g3 : Nat} {y : Int} {tmps : Array Value} {v : Value} (hv : tmps.getD 4 undef = v) (h3 : Bk w' g3 25 #[.int .i64 y]) (k3 : tmps.getD 5 undef = .pointer (some ⟨g3, 0, none⟩))
    (post : Q (.returned (.tuple #[v, .int .i64 0])) (w'.setCell ⟨g3, 0, none⟩ (.int .i64 0))) :
    bodyPostD Tryz.prog Tryz.f67 Q Exit.ret { tmps := tmps, defers := [{ target := Target.fn (Fn.func 80) #[.pointer (some ⟨g3, 0, none⟩)], args := #[] }] } w' := by
  refine leaves_cons (f := 80) (args := #[.pointer (some ⟨g3, 0, none⟩)]) (by simp) (by simp [go_sem]) ?_
  refine (dread1_idle g3 y w' h3).mono ?_
  rintro e1 u' w'' ⟨rfl, rfl, rfl⟩
  have hr := results_tmp_cell (fn := Tryz.f67) rfl tmps (w'.setCell ⟨g3, 0, none⟩ (.int .i64 0)) g3 0 v hv k3 (cell_of_one (h3.put 0 _))
  simp [Leaves, settle, hr]
  exact post
theorem dread_bad {Q : Ending → World → Prop} {w' : World} {g3 : Nat} {y k : Int} {tmps : Array Value} {v : Value} (hv : tmps.getD 4 undef = v) (h3 : Bk w' g3 25 #[.int .i64 y]) (k3 : tmps.getD 5 undef = .pointer (some ⟨g3, 0, none⟩))
    (post : ∀ w1, Below w'.heap.size w' w1 → Q (.returned (.tuple #[v, .int .i64 k])) (w1.setCell ⟨g3, 0, none⟩ (.int .i64 k))) :
    bodyPostD Tryz.prog Tryz.f67 Q (Exit.panic [LV.wrg k]) { tmps := tmps, defers := [{ target := Target.fn (Fn.func 80) #[.pointer (some ⟨g3, 0, none⟩)], args := #[] }] } w' := by
  refine leaves_cons (f := 80) (args := #[.pointer (some ⟨g3, 0, none⟩)]) (by simp) (by simp [go_sem]) ?_
  refine (dread1_caught g3 y k [] w' h3).mono ?_
  rintro e1 u' w'' ⟨rfl, rfl, w1, hb1, rfl⟩
  have h3' := h3.below hb1 h3.lt
  have hr := results_tmp_cell (fn := Tryz.f67) rfl tmps (w1.setCell ⟨g3, 0, none⟩ (.int .i64 k)) g3 k v hv k3 (cell_of_one (h3'.put 0 _))
  simp [Leaves, settle, hr]
  exact post w1 hb1
theorem dwrite1_idle (q : Nat) (y : Int) (w : World) (hq : Bk w q 25 #[.int .i64 y]) :
    CallsD Tryz.prog 51 #[.pointer (some ⟨q, 0, none⟩)] .returning w fun e u' w' => e = .returned (.tuple #[]) ∧ u' = .returning ∧ w' = w.setCell ⟨q, 0, none⟩ (.int .i64 0) := by
  have c1 := cell_of_one hq
  have f1 := free_of_one hq
  refine callsD_of_wpS Tryz.func51 rfl fun c₀ cs hu => ?_
  apply wpS_region
  simp [wpOpsS, go_sem, recoverD, hu, LV.wrg, Tryz.ntmps51, Exit.thenS, Array.replicate, List.replicate]
  refine (LV.told_nil w).mono ?_
  rintro e w' ⟨rfl, rfl⟩
  simp [go_sem, c1, f1, Oper.upon, bodyPostS, results, Tryz.results51]
  cases c₀
  cases hu
  rfl
theorem dwrite1_caught (q : Nat) (y k : Int) (older : List PanicEntry) (w : World) (hq : Bk w q 25 #[.int .i64 y]) :
    CallsD Tryz.prog 51 #[.pointer (some ⟨q, 0, none⟩)] (.panicking (LV.wrg k :: older)) w fun e u' w' =>
      e = .returned (.tuple #[]) ∧ u' = .panicking ({ v := .iface 105 (.agg #[.int .i64 k]), recovered := true } :: older) ∧ ∃ w1, Below w.heap.size w w1 ∧ w' = w1.setCell ⟨q, 0, none⟩ (.int .i64 k) := by
  have c1 := cell_of_one hq
  have f1 := free_of_one hq
  refine callsD_of_wpS Tryz.func51 rfl fun c₀ cs hu => ?_
  apply wpS_region
  simp [wpOpsS, go_sem, recoverD, hu, LV.wrg, Tryz.ntmps51, Exit.thenS, Array.replicate, List.replicate]
  refine (LV.told_wrong k w).mono ?_
  rintro e w' ⟨rfl, hb⟩
  have c2 := cell_of_one (hq.below hb hq.lt)
  have f2 := free_of_one (hq.below hb hq.lt)
  simp [go_sem, c2, f2, Oper.upon, bodyPostS, results, Tryz.results51]
  exact ⟨w', hb, rfl⟩
theorem dwrite_ret {Q : Ending → World → Prop} {w' : World} {g3 : Nat} {y : Int} {tmps : Array Value} (h3 : Bk w' g3 25 #[.int .i64 y]) (k3 : tmps.getD 6 undef = .pointer (some ⟨g3, 0, none⟩))
    (post : Q (.returned (.int .i64 0)) (w'.setCell ⟨g3, 0, none⟩ (.int .i64 0))) :
    bodyPostD Tryz.prog Tryz.f18 Q Exit.ret { tmps := tmps, defers := [{ target := Target.fn (Fn.func 51) #[.pointer (some ⟨g3, 0, none⟩)], args := #[] }] } w' := by
  refine leaves_cons (f := 51) (args := #[.pointer (some ⟨g3, 0, none⟩)]) (by simp) (by simp [go_sem]) ?_
  refine (dwrite1_idle g3 y w' h3).mono ?_
  rintro e1 u' w'' ⟨rfl, rfl, rfl⟩
  have hr := results_one_cell (fn := Tryz.f18) rfl tmps (w'.setCell ⟨g3, 0, none⟩ (.int .i64 0)) g3 0 k3 (cell_of_one (h3.put 0 _))
  simp [Leaves, settle, hr]
  exact post
theorem dwrite_bad {Q : Ending → World → Prop} {w' : World} {g3 : Nat} {y k : Int} {tmps : Array Value} (h3 : Bk w' g3 25 #[.int .i64 y]) (k3 : tmps.getD 6 undef = .pointer (some ⟨g3, 0, none⟩))
    (post : ∀ w1, Below w'.heap.size w' w1 → Q (.returned (.int .i64 k)) (w1.setCell ⟨g3, 0, none⟩ (.int .i64 k))) :
    bodyPostD Tryz.prog Tryz.f18 Q (Exit.panic [LV.wrg k]) { tmps := tmps, defers := [{ target := Target.fn (Fn.func 51) #[.pointer (some ⟨g3, 0, none⟩)], args := #[] }] } w' := by
  refine leaves_cons (f := 51) (args := #[.pointer (some ⟨g3, 0, none⟩)]) (by simp) (by simp [go_sem]) ?_
  refine (dwrite1_caught g3 y k [] w' h3).mono ?_
  rintro e1 u' w'' ⟨rfl, rfl, w1, hb1, rfl⟩
  have h3' := h3.below hb1 h3.lt
  have hr := results_one_cell (fn := Tryz.f18) rfl tmps (w1.setCell ⟨g3, 0, none⟩ (.int .i64 k)) g3 k k3 (cell_of_one (h3'.put 0 _))
  simp [Leaves, settle, hr]
  exact post w1 hb1
theorem dflush1_idle (q : Nat) (y : Int) (w : World) (hq : Bk w q 25 #[.int .i64 y]) :
    CallsD Tryz.prog 62 #[.pointer (some ⟨q, 0, none⟩)] .returning w fun e u' w' => e = .returned (.tuple #[]) ∧ u' = .returning ∧ w' = w.setCell ⟨q, 0, none⟩ (.int .i64 0) := by
  have c1 := cell_of_one hq
  have f1 := free_of_one hq
  refine callsD_of_wpS Tryz.func62 rfl fun c₀ cs hu => ?_
  apply wpS_region
  simp [wpOpsS, go_sem, recoverD, hu, LV.wrg, Tryz.ntmps62, Exit.thenS, Array.replicate, List.replicate]
  refine (LV.told_nil w).mono ?_
  rintro e w' ⟨rfl, rfl⟩
  simp [go_sem, c1, f1, Oper.upon, bodyPostS, results, Tryz.results62]
  cases c₀
  cases hu
  rfl
theorem dflush1_caught (q : Nat) (y k : Int) (older : List PanicEntry) (w : World) (hq : Bk w q 25 #[.int .i64 y]) :
    CallsD Tryz.prog 62 #[.pointer (some ⟨q, 0, none⟩)] (.panicking (LV.wrg k :: older)) w fun e u' w' =>
      e = .returned (.tuple #[]) ∧ u' = .panicking ({ v := .iface 105 (.agg #[.int .i64 k]), recovered := true } :: older) ∧ ∃ w1, Below w.heap.size w w1 ∧ w' = w1.setCell ⟨q, 0, none⟩ (.int .i64 k) := by
  have c1 := cell_of_one hq
  have f1 := free_of_one hq
  refine callsD_of_wpS Tryz.func62 rfl fun c₀ cs hu => ?_
  apply wpS_region
  simp [wpOpsS, go_sem, recoverD, hu, LV.wrg, Tryz.ntmps62, Exit.thenS, Array.replicate, List.replicate]
  refine (LV.told_wrong k w).mono ?_
  rintro e w' ⟨rfl, hb⟩
  have c2 := cell_of_one (hq.below hb hq.lt)
  have f2 := free_of_one (hq.below hb hq.lt)
  simp [go_sem, c2, f2, Oper.upon, bodyPostS, results, Tryz.results62]
  exact ⟨w', hb, rfl⟩
theorem dflush_ret {Q : Ending → World → Prop} {w' : World} {g3 : Nat} {y : Int} {tmps : Array Value} (h3 : Bk w' g3 25 #[.int .i64 y]) (k3 : tmps.getD 2 undef = .pointer (some ⟨g3, 0, none⟩))
    (post : Q (.returned (.int .i64 0)) (w'.setCell ⟨g3, 0, none⟩ (.int .i64 0))) :
    bodyPostD Tryz.prog Tryz.f35 Q Exit.ret { tmps := tmps, defers := [{ target := Target.fn (Fn.func 62) #[.pointer (some ⟨g3, 0, none⟩)], args := #[] }] } w' := by
  refine leaves_cons (f := 62) (args := #[.pointer (some ⟨g3, 0, none⟩)]) (by simp) (by simp [go_sem]) ?_
  refine (dflush1_idle g3 y w' h3).mono ?_
  rintro e1 u' w'' ⟨rfl, rfl, rfl⟩
  have hr := results_one_cell (fn := Tryz.f35) rfl tmps (w'.setCell ⟨g3, 0, none⟩ (.int .i64 0)) g3 0 k3 (cell_of_one (h3.put 0 _))
  simp [Leaves, settle, hr]
  exact post
theorem dflush_bad {Q : Ending → World → Prop} {w' : World} {g3 : Nat} {y k : Int} {tmps : Array Value} (h3 : Bk w' g3 25 #[.int .i64 y]) (k3 : tmps.getD 2 undef = .pointer (some ⟨g3, 0, none⟩))
    (post : ∀ w1, Below w'.heap.size w' w1 → Q (.returned (.int .i64 k)) (w1.setCell ⟨g3, 0, none⟩ (.int .i64 k))) :
    bodyPostD Tryz.prog Tryz.f35 Q (Exit.panic [LV.wrg k]) { tmps := tmps, defers := [{ target := Target.fn (Fn.func 62) #[.pointer (some ⟨g3, 0, none⟩)], args := #[] }] } w' := by
  refine leaves_cons (f := 62) (args := #[.pointer (some ⟨g3, 0, none⟩)]) (by simp) (by simp [go_sem]) ?_
  refine (dflush1_caught g3 y k [] w' h3).mono ?_
  rintro e1 u' w'' ⟨rfl, rfl, w1, hb1, rfl⟩
  have h3' := h3.below hb1 h3.lt
  have hr := results_one_cell (fn := Tryz.f35) rfl tmps (w1.setCell ⟨g3, 0, none⟩ (.int .i64 k)) g3 k k3 (cell_of_one (h3'.put 0 _))
  simp [Leaves, settle, hr]
  exact post w1 hb1
end Go.Proofs.YtdbamdbdogdpjaaGreatDoor.S19

/-
  The landed slots in memory: where they lie, and what abides. No statement is proved here.
-/
namespace Go.Proofs.YtdbamdbdogdpjaaGreatDoor.S20
set_option linter.unusedSimpArgs false
set_option linter.unusedVariables false
set_option maxRecDepth 4096
open Go.RowKit S19

/-- What the landed slots hold. -/
abbrev skA (g : Nat) (Z : Sl) (A : Option Addr) (c : Nat) : Array Value := #[.pointer (some ⟨g, 0, none⟩), .int .i64 (Z.first : Int), .int .i64 (Z.n : Int), .int .u64 (Z.num : Int), .slice A Z.b.length c, .int .i64 (Z.goes : Int)]
/-- Where they lie. -/
structure Sz (N : Nat) (w : World) (s g : Nat) (Z : Sl) (S : Nat → Prop) : Prop where
  ex : ∃ A c, Bk w s 74 (skA g Z A c) ∧ Rd w A Z.b.length c Z.b ∧ ∀ a, 0 < Z.b.length → A = some a → S a.block ∧ a.block ≠ s
  at_ : S s
  lt : ∀ b, S b → N ≤ b ∧ b < w.heap.size
  few : Z.b.length ≤ 1000000
section
variable {N : Nat} {w w' : World} {s g : Nat} {Z : Sl} {S : Nat → Prop}
theorem Sz.keep (r : Sz N w s g Z S) (hs : w.heap.size ≤ w'.heap.size) (hk : ∀ b, S b → b < w.heap.size → w'.heap[b]? = w.heap[b]?) : Sz N w' s g Z S := by
  obtain ⟨A, c, h1, h2, h3⟩ := r.ex
  refine ⟨⟨A, c, (hk s r.at_ h1.lt).trans h1, ⟨h2.len, h2.cap, h2.max, h2.nil, fun hn => ?_⟩, h3⟩, r.at_, fun b hb => ⟨(r.lt b hb).1, Nat.lt_of_lt_of_le (r.lt b hb).2 hs⟩, r.few⟩
  obtain ⟨b, off, rfl, hl, hc⟩ := h2.at_ hn
  exact ⟨b, off, rfl, Nat.lt_of_lt_of_le hl hs, fun j hj => (World.cell?_of_block (a := ⟨b, off + j, none⟩) (hk b (h3 _ hn rfl).1 hl)).trans (hc j hj)⟩
theorem Sz.grow (r : Sz N w s g Z S) (hb : Below w.heap.size w w') : Sz N w' s g Z S := r.keep hb.size fun b _ hl => hb.block b hl
theorem Sz.sz (r : Sz N w s g Z S) : s < w.heap.size ∧ N ≤ s := ⟨(r.lt s r.at_).2, (r.lt s r.at_).1⟩
/-- The slots are as they were where a call has touched the disk's blocks alone. -/
theorem Sz.mv {F : Nat → Prop} (r : Sz N w s g Z S) (m : Mv N F w w') (hF : ∀ b, F b → ¬ S b) : Sz N w' s g Z S := r.keep m.size fun b hb hl => m.same b hl fun h => hF b h hb
/-- What a store in the slots' own block may touch. -/
theorem Sz.poke (r : Sz N w s g Z S) (i : Nat) (u : Value) : Mv N S w (w.setCell ⟨s, i, none⟩ u) :=
  ⟨(Below.refl _ _).setCell (show N ≤ (⟨s, i, none⟩ : Addr).block from r.sz.2) u, fun b _ hb => Below.heap_setCell w ⟨s, i, none⟩ u b fun e => hb (by rw [e]; exact r.at_)⟩
/-- What the slots hold, as cells. -/
theorem Sz.cells (r : Sz N w s g Z S) : w.cell? ⟨s, 0, none⟩ = some (.pointer (some ⟨g, 0, none⟩)) ∧ w.cell? ⟨s, 1, none⟩ = some (.int .i64 (Z.first : Int)) ∧ w.cell? ⟨s, 2, none⟩ = some (.int .i64 (Z.n : Int)) ∧ w.cell? ⟨s, 3, none⟩ = some (.int .u64 (Z.num : Int)) ∧ w.cell? ⟨s, 5, none⟩ = some (.int .i64 (Z.goes : Int)) := by
  obtain ⟨A, c, h1, _, _⟩ := r.ex
  exact ⟨h1.cell 0, h1.cell 1, h1.cell 2, h1.cell 3, h1.cell 5⟩
end
end Go.Proofs.YtdbamdbdogdpjaaGreatDoor.S20
