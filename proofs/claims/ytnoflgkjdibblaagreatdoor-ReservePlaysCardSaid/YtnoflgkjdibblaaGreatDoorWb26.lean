/-
  Texts put together: Ds1, Ds2, Ds3, Ds6, Sk1, Sk8, DsS, Ds4. No statement is proved here.
-/
import Derived.Test.YtnoflgkjdibblaaGreatDoorWb05
import Derived.Test.YtnoflgkjdibblaaGreatDoorWb23
import Derived.Test.YtnoflgkjdibblaaGreatDoorWb12
import Derived.Shelf.Sort.Plain
import Derived.Shelf.Slices.SearchI
import Derived.Shelf.Slices.In.SortNone
import Derived.Shelf.Slices.Empties
import Derived.Test.YtnoflgkjdibblaaGreatDoorWb01
import Derived.Test.YtnoflgkjdibblaaGreatDoorWb06
import Derived.Sort.OwnSortedInts

/-
  Sectors and pending writes as cells, one behind the other, in plain words. No statement is proved here.
-/
namespace Go.Proofs.YtnoflgkjdibblaaGreatDoor.S19
set_option linter.unusedSimpArgs false
set_option linter.unusedVariables false
open Go.RowKit

/-- The cells of rows, one behind the other. -/
def rowsV (s : List (List UInt8)) : List Value := s.flatMap bv
/-- The cells of what is pending. -/
def pendV (p : List (Nat × List UInt8)) : List Value := p.flatMap fun q => Value.int .i64 (q.1 : Int) :: bv q.2
theorem flat_len {α : Type} (f : α → List Value) (n : Nat) : ∀ (s : List α), (∀ b ∈ s, (f b).length = n) → (s.flatMap f).length = n * s.length
  | [], _ => by simp
  | b :: s, h => by
    rw [List.flatMap_cons, List.length_append, h b (by simp), flat_len f n s fun c hc => h c (by simp [hc]), List.length_cons, Nat.mul_succ]; omega
theorem rowsV_len {s : List (List UInt8)} (h : ∀ b ∈ s, b.length = 64) : (rowsV s).length = 64 * s.length := flat_len bv 64 s fun b hb => by rw [bv_length]; exact h b hb
theorem pendV_len {p : List (Nat × List UInt8)} (h : ∀ q ∈ p, q.2.length = 64) : (pendV p).length = 65 * p.length := flat_len _ 65 p fun q hq => by rw [List.length_cons, bv_length, h q hq]
theorem rowsV_append (s t : List (List UInt8)) : rowsV (s ++ t) = rowsV s ++ rowsV t := by simp [rowsV]
theorem pendV_snoc (p : List (Nat × List UInt8)) (i : Nat) (b : List UInt8) : pendV (p ++ [(i, b)]) = pendV p ++ (Value.int .i64 (i : Int) :: bv b) := by simp [pendV]
theorem rowsV_split {s : List (List UInt8)} {i : Nat} (h : i < s.length) : rowsV s = rowsV (s.take i) ++ bv (s.getD i []) ++ rowsV (s.drop (i + 1)) := by
  have e : s = s.take i ++ [s.getD i []] ++ s.drop (i + 1) := by
    rw [List.getD_eq_getElem?_getD, List.getElem?_eq_getElem h]
    simp
  conv => lhs; rw [e]
  rw [rowsV_append, rowsV_append]
  simp [rowsV]
theorem rowsV_set {s : List (List UInt8)} {i : Nat} (h : i < s.length) (b : List UInt8) : rowsV (s.set i b) = rowsV (s.take i) ++ bv b ++ rowsV (s.drop (i + 1)) := by
  have h' : i < (s.set i b).length := by simpa using h
  have e1 : (s.set i b).take i = s.take i := by rw [List.take_set_of_le (Nat.le_refl i)]
  have e2 : (s.set i b).getD i [] = b := by rw [List.getD_eq_getElem?_getD, List.getElem?_set_self h]; rfl
  have e3 : (s.set i b).drop (i + 1) = s.drop (i + 1) := by rw [List.drop_set_of_lt (by omega)]
  rw [rowsV_split h', e1, e2, e3]
theorem take_rows {s : List (List UInt8)} (h : ∀ b ∈ s, b.length = 64) (i : Nat) (hi : i ≤ s.length) : (rowsV (s.take i)).length = 64 * i := by
  rw [rowsV_len fun b hb => h b (List.mem_of_mem_take hb), List.length_take, Nat.min_eq_left hi]
theorem pend_split {p : List (Nat × List UInt8)} {i : Nat} (h : i < p.length) : pendV p = pendV (p.take i) ++ (Value.int .i64 (p[i].1 : Int) :: bv p[i].2) ++ pendV (p.drop (i + 1)) := by
  have e : p = p.take i ++ [p[i]] ++ p.drop (i + 1) := by simp
  have h3 : ∀ a b c : List (Nat × List UInt8), pendV (a ++ b ++ c) = pendV a ++ pendV b ++ pendV c := by intro a b c; simp [pendV]
  conv => lhs; rw [e]
  rw [h3]
  simp [pendV]
theorem take_pend {p : List (Nat × List UInt8)} (h : ∀ q ∈ p, q.2.length = 64) (i : Nat) (hi : i ≤ p.length) : (pendV (p.take i)).length = 65 * i := by
  rw [pendV_len fun q hq => h q (List.mem_of_mem_take hq), List.length_take, Nat.min_eq_left hi]
theorem getD_mem {s : List (List UInt8)} {i : Nat} (h : i < s.length) : s.getD i [] ∈ s := by
  rw [List.getD_eq_getElem?_getD, List.getElem?_eq_getElem h]
  exact List.getElem_mem h
/-- The cells of a sector, where it lies. -/
theorem rowsV_at {s : List (List UInt8)} (h : ∀ b ∈ s, b.length = 64) {i j : Nat} (hi : i < s.length) (hj : j < 64) : (rowsV s)[64 * i + j]? = some (.int .u8 (((s.getD i []).getD j 0).toNat : Int)) := by
  have hl := take_rows h i (Nat.le_of_lt hi)
  have hb := h _ (getD_mem hi)
  rw [rowsV_split hi, List.append_assoc, List.getElem?_append_right (by omega), hl, Nat.add_sub_cancel_left]
  generalize s.getD i [] = x at hb ⊢
  rw [List.getElem?_append_left (by rw [bv_length]; omega), bv_at _ _ (by omega), List.getD_eq_getElem?_getD, List.getElem?_eq_getElem (show j < x.length by omega)]
  rfl
theorem rowsV_one (s : List (List UInt8)) : ∀ u ∈ rowsV s, u.oneCell' = true := by
  intro u hu
  obtain ⟨b, _, hb⟩ := List.mem_flatMap.1 hu
  exact bv_one b u hb
theorem rowsV_zero (k : Nat) : rowsV (List.replicate k (List.replicate 64 0)) = List.replicate (64 * k) (Value.int .u8 0) := by
  induction k with
  | zero => simp [rowsV]
  | succ k ih =>
    rw [List.replicate_succ, rowsV, List.flatMap_cons]
    have : (List.replicate k (List.replicate 64 (0 : UInt8))).flatMap bv = rowsV (List.replicate k (List.replicate 64 0)) := rfl
    rw [this, ih, Nat.mul_succ, Nat.add_comm, ← List.replicate_append_replicate]
    congr 1
/-- What was written is laid: one more. -/
theorem laid_sn1 : ∀ (p : List (Nat × List UInt8)) (s : List (List UInt8)) (i : Nat) (b : List UInt8), Dk.laid (p ++ [(i, b)]) s = (Dk.laid p s).set i b
  | [], s, i, b => rfl
  | q :: p, s, i, b => by rw [List.cons_append, Dk.laid, laid_sn1 p, Dk.laid]
end Go.Proofs.YtnoflgkjdibblaaGreatDoor.S19

/-
  The landed disk in memory: where it lies, and what abides. No statement is proved here.
-/
namespace Go.Proofs.YtnoflgkjdibblaaGreatDoor.S19
set_option linter.unusedSimpArgs false
set_option linter.unusedVariables false
set_option maxRecDepth 4096
open Go.RowKit

/-- The values that lie in the landed disk. -/
structure KnV where
  sb : Nat
  nb : Nat
  vP : Value
  fa : Option Addr
  fn : Nat
  fc : Nat
  zs : List Int
/-- Its cells. -/
abbrev knA (V : KnV) (k cnt : Nat) (st : Int) (off : Bool) : Array Value := #[.slice (some ⟨V.sb, 0, none⟩) k k, .slice (some ⟨V.nb, 0, none⟩) k k, V.vP, .int .i64 (cnt : Int), .slice V.fa V.fn V.fc, .int .i64 st, .bool off]
/-- All but the block of the disk itself. -/
structure In (N : Nat) (w : World) (g : Nat) (sure now : List (List UInt8)) (pend : List (Nat × List UInt8)) (fails : List Int) (F : Nat → Prop) (V : KnV) : Prop where
  sure : Bk w V.sb 105 (rowsV sure).toArray
  now : Bk w V.nb 105 (rowsV now).toArray
  pend : w.ownsRow N 107 65 V.vP pend.length (pendV pend)
  fl : RI w .i64 V.fa V.fn V.fc V.zs
  few : V.fn ≤ 1099511627776
  mem : ∀ z, z ∈ V.zs ↔ z ∈ fails
  srt : V.zs.Pairwise (· ≤ ·)
  fg : F g
  fs : F V.sb
  fnn : F V.nb
  fp : ∀ b, V.vP.ownBlock = some b → F b
  ff : ∀ a, 0 < V.fn → V.fa = some a → F a.block
  gN : ∀ b, F b → N ≤ b ∧ b < w.heap.size
  d1 : g ≠ V.sb
  d2 : g ≠ V.nb
  d3 : V.sb ≠ V.nb
  dP : ∀ b, V.vP.ownBlock = some b → b ≠ g ∧ b ≠ V.sb ∧ b ≠ V.nb
  dF : ∀ a, 0 < V.fn → V.fa = some a → a.block ≠ g ∧ a.block ≠ V.sb ∧ a.block ≠ V.nb ∧ V.vP.ownBlock ≠ some a.block
/-- The landed disk. -/
structure Kn (N : Nat) (w : World) (g : Nat) (D : Dk) (F : Nat → Prop) : Prop where
  ok : D.Ok
  ex : ∃ V, Bk w g 79 (knA V D.sure.length D.cnt D.stop D.off) ∧ In N w g D.sure (Dk.laid D.pend D.sure) D.pend D.fails F V
section
variable {N : Nat} {w w' : World} {g : Nat} {F F' : Nat → Prop} {V : KnV} {sure now : List (List UInt8)} {pend : List (Nat × List UInt8)} {fails : List Int} {D : Dk}
/-- What abides where the disk's blocks are as they were. -/
theorem In.keep (r : In N w g sure now pend fails F V) (hs : w.heap.size ≤ w'.heap.size) (hk : ∀ b, F b → b ≠ g → b < w.heap.size → w'.heap[b]? = w.heap[b]?) : In N w' g sure now pend fails F V :=
  ⟨(hk _ r.fs r.d1.symm r.sure.lt).trans r.sure, (hk _ r.fnn r.d2.symm r.now.lt).trans r.now, own_keepH r.pend fun b hb hlt => hk b (r.fp b hb) (r.dP b hb).1 hlt,
    r.fl.keep hs fun a h1 h2 h3 => hk _ (r.ff a h1 h2) (r.dF a h1 h2).1 h3, r.few, r.mem, r.srt, r.fg, r.fs, r.fnn, r.fp, r.ff, fun b hb => ⟨(r.gN b hb).1, Nat.lt_of_lt_of_le (r.gN b hb).2 hs⟩, r.d1, r.d2, r.d3, r.dP, r.dF⟩
theorem In.below (r : In N w g sure now pend fails F V) (hb : Below w.heap.size w w') : In N w' g sure now pend fails F V := r.keep hb.size fun b _ _ hlt => hb.block b hlt
/-- The disk's own block is written. -/
theorem In.poke (r : In N w g sure now pend fails F V) (i : Nat) (u : Value) : In N (w.setCell ⟨g, i, none⟩ u) g sure now pend fails F V :=
  r.keep (by simp) fun b _ hb _ => Below.heap_setCell w ⟨g, i, none⟩ u b hb
theorem In.drew (r : In N w g sure now pend fails F V) : In N w.drew g sure now pend fails F V := r.below (Below.refl _ _).drew
theorem In.gt (r : In N w g sure now pend fails F V) : g < w.heap.size := (r.gN g r.fg).2
theorem Kn.keep (t : Kn N w g D F) (hs : w.heap.size ≤ w'.heap.size) (hk : ∀ b, F b → b < w.heap.size → w'.heap[b]? = w.heap[b]?) : Kn N w' g D F := by
  obtain ⟨ok, V, hb, r⟩ := t
  exact ⟨ok, V, (hk g r.fg hb.lt).trans hb, r.keep hs fun b hF _ hlt => hk b hF hlt⟩
theorem Kn.below (t : Kn N w g D F) (hb : Below w.heap.size w w') : Kn N w' g D F := t.keep hb.size fun b _ hlt => hb.block b hlt
theorem Kn.lt (t : Kn N w g D F) : ∀ b, F b → N ≤ b ∧ b < w.heap.size := by
  obtain ⟨ok, V, hb, r⟩ := t
  exact r.gN
/-- What a poke of the disk's own block may touch. -/
theorem Mv.pokeK (hg : F g) (hN : N ≤ g) (i : Nat) (u : Value) : Mv N F w (w.setCell ⟨g, i, none⟩ u) :=
  ⟨(Below.refl _ _).setCell (show N ≤ (⟨g, i, none⟩ : Addr).block from hN) u, fun b _ hb => Below.heap_setCell w ⟨g, i, none⟩ u b fun e => hb (by rw [e]; exact hg)⟩
end
end Go.Proofs.YtnoflgkjdibblaaGreatDoor.S19

/-
  What the landed disk's small calls do: needPower, needSector, Stop, Count. No statement is proved here.
-/
namespace Go.Proofs.YtnoflgkjdibblaaGreatDoor.S19
set_option linter.unusedSimpArgs false
set_option linter.unusedVariables false
set_option maxRecDepth 4096
open Go.RowKit

theorem power_ok (g : Nat) (V : KnV) (k cnt : Nat) (st : Int) (w : World) (hb : Bk w g 79 (knA V k cnt st false)) :
    Calls Tryz.prog 89 #[.pointer (some ⟨g, 0, none⟩)] w fun e w' => e = .returned (.tuple #[]) ∧ w = w' := by
  have c6 : w.cell? ⟨g, 6, none⟩ = some (.bool false) := hb.cell 6
  have HN := Lib.hid (fun X => LV.need_yes 6 X)
  go_enter Tryz.func89, Tryz.ntmps89
  go_wp2_with (go_at_call 30; ((with_reducible refine (HN.out _).mono ?_); rintro e w1 ⟨rfl, rfl⟩))
  go_end0
  exact ⟨rfl, rfl⟩
theorem power_no (g : Nat) (V : KnV) (k cnt : Nat) (st : Int) (w : World) (hb : Bk w g 79 (knA V k cnt st true)) :
    Calls Tryz.prog 89 #[.pointer (some ⟨g, 0, none⟩)] w fun e w' => e = .panicked [LV.wrg 6] ∧ w = w' := by
  have c6 : w.cell? ⟨g, 6, none⟩ = some (.bool true) := hb.cell 6
  have HN := Lib.hid (fun X => LV.need_no 6 X)
  go_enter Tryz.func89, Tryz.ntmps89
  go_wp2_with (go_at_call 30; ((with_reducible refine (HN.out _).mono ?_); rintro e w1 ⟨rfl, rfl⟩))
  exact ⟨rfl, rfl, rfl⟩
theorem sector_ok (g : Nat) (V : KnV) (k cnt : Nat) (st : Int) (off : Bool) (i : Int) (h0 : 0 ≤ i) (h1 : i < (k : Int)) (w : World) (hb : Bk w g 79 (knA V k cnt st off)) :
    Calls Tryz.prog 108 #[.pointer (some ⟨g, 0, none⟩), .int .i64 i] w fun e w' => e = .returned (.tuple #[]) ∧ w = w' := by
  have c1 : w.cell? ⟨g, 1, none⟩ = some (.slice (some ⟨V.nb, 0, none⟩) k k) := hb.cell 1
  have HN := Lib.hid (fun X => LV.need_yes 1 X)
  go_enter Tryz.func108, Tryz.ntmps108
  go_wp2_with (go_at_call 30; ((with_reducible refine (HN.out _).mono ?_); rintro e w1 ⟨rfl, rfl⟩))
  go_end0
  exact ⟨rfl, rfl⟩
theorem sector_no (g : Nat) (V : KnV) (k cnt : Nat) (st : Int) (off : Bool) (i : Int) (hi : ¬ (0 ≤ i ∧ i < (k : Int))) (w : World) (hb : Bk w g 79 (knA V k cnt st off)) :
    Calls Tryz.prog 108 #[.pointer (some ⟨g, 0, none⟩), .int .i64 i] w fun e w' => e = .panicked [LV.wrg 1] ∧ w = w' := by
  have c1 : w.cell? ⟨g, 1, none⟩ = some (.slice (some ⟨V.nb, 0, none⟩) k k) := hb.cell 1
  have HN := Lib.hid (fun X => LV.need_no 1 X)
  by_cases h0 : 0 ≤ i
  · have h1 : ¬ i < (k : Int) := fun h => hi ⟨h0, h⟩
    clear hi
    go_enter Tryz.func108, Tryz.ntmps108
    go_wp2_with (go_at_call 30; ((with_reducible refine (HN.out _).mono ?_); rintro e w1 ⟨rfl, rfl⟩))
    exact ⟨rfl, rfl, rfl⟩
  · clear hi
    go_enter Tryz.func108, Tryz.ntmps108
    go_wp2_with (go_at_call 30; ((with_reducible refine (HN.out _).mono ?_); rintro e w1 ⟨rfl, rfl⟩))
    exact ⟨rfl, rfl, rfl⟩
theorem stopL (g : Nat) (V : KnV) (k cnt : Nat) (st : Int) (off : Bool) (w : World) (hb : Bk w g 79 (knA V k cnt st off)) :
    Calls Tryz.prog 18 #[.pointer (some ⟨g, 0, none⟩)] w fun e w' => e = .returned (.tuple #[]) ∧ w' = w.setCell ⟨g, 6, none⟩ (.bool true) := by
  have c6 : w.cell? ⟨g, 6, none⟩ = some (.bool off) := hb.cell 6
  have f6 := hb.frozen 6
  go_enter Tryz.func18, Tryz.ntmps18
  go_wp2
  go_end0
  exact ⟨rfl, rfl⟩
theorem stop_any (N : Nat) (w : World) (g : Nat) (D : Dk) (F : Nat → Prop) (t : Kn N w g D F) : Calls Tryz.prog 18 #[.pointer (some ⟨g, 0, none⟩)] w (Post Kn N F g w D.halt (.tuple #[])) := by
  obtain ⟨ok, V, hb, r⟩ := t
  refine (stopL g V _ _ _ _ w hb).mono ?_
  rintro e w' ⟨rfl, rfl⟩
  exact ⟨rfl, F, ⟨Dk.halt_ok ok, V, hb.put 6 (.bool true), r.poke 6 _⟩, fun b h => .inl h, Mv.pokeK r.fg (r.gN g r.fg).1 6 _⟩
theorem own_slice {w : World} {B e sz n : Nat} {v : Value} {xs : List Value} (h : w.ownsRow B e sz v n xs) : ∃ A c, v = .slice A n c := by
  rcases h.2 with ⟨rfl, rfl⟩ | ⟨g, cap, cur, rfl, _⟩
  · exact ⟨none, 0, rfl⟩
  · exact ⟨_, cap, rfl⟩
end Go.Proofs.YtnoflgkjdibblaaGreatDoor.S19

/-
  What the deferred calls of the landed disk do, and how the calls that defer them end. No statement is proved here.
-/
namespace Go.Proofs.YtnoflgkjdibblaaGreatDoor.S19
set_option linter.unusedSimpArgs false
set_option linter.unusedVariables false
set_option maxRecDepth 4096
open Go.RowKit

theorem load_codeD (g : Nat) (n : Int) (w : World) (h : w.cell? ⟨g, 0, none⟩ = some (.int .i64 n)) : (loadVar 29 ⟨g, 0, none⟩).run Tryz.prog w = .ok (.int .i64 n) w := by
  go_simp
theorem results_one_cell {fn : Func} {q : Tmp} (h : fn.results = #[.cell q 29]) (tmps : Array Value) (w : World) (g' : Nat) (n : Int)
    (hq : tmps.getD q undef = .pointer (some ⟨g', 0, none⟩)) (hc : w.cell? ⟨g', 0, none⟩ = some (.int .i64 n)) : (results fn tmps).run Tryz.prog w = .ok (.int .i64 n) w := by
  have hq' : tmps[q]?.getD undef = .pointer (some ⟨g', 0, none⟩) := by simpa using hq
  simp [results, h, hq', asAddr, load_codeD g' n w hc]
theorem results_tmp_cell {fn : Func} {p q : Tmp} (h : fn.results = #[.tmp p, .cell q 29]) (tmps : Array Value) (w : World) (g' : Nat) (n : Int) (v : Value)
    (hp : tmps.getD p undef = v) (hq : tmps.getD q undef = .pointer (some ⟨g', 0, none⟩)) (hc : w.cell? ⟨g', 0, none⟩ = some (.int .i64 n)) : (results fn tmps).run Tryz.prog w = .ok (.tuple #[v, .int .i64 n]) w := by
  have hp' : tmps[p]?.getD undef = v := by simpa using hp
  have hq' : tmps[q]?.getD undef = .pointer (some ⟨g', 0, none⟩) := by simpa using hq
  simp [results, h, hp', hq', asAddr, load_codeD g' n w hc]
theorem dnew1_idle (q : Nat) (y : Int) (w : World) (hq : Bk w q 29 #[.int .i64 y]) :
    CallsD Tryz.prog 28 #[.pointer (some ⟨q, 0, none⟩)] .returning w fun e u' w' => e = .returned (.tuple #[]) ∧ u' = .returning ∧ w' = w.setCell ⟨q, 0, none⟩ (.int .i64 0) := by
  have c1 := cell_of_one hq
  have f1 := free_of_one hq
  refine callsD_of_wpS Tryz.func28 rfl fun c₀ cs hu => ?_
  apply wpS_region
  simp [wpOpsS, go_sem, recoverD, hu, LV.wrg, Tryz.ntmps28, Exit.thenS, Array.replicate, List.replicate]
  refine (LV.told_nil w).mono ?_
  rintro e w' ⟨rfl, rfl⟩
  simp [go_sem, c1, f1, Oper.upon, bodyPostS, results, Tryz.results28]
  cases c₀
  cases hu
  rfl
theorem dnew1_caught (q : Nat) (y k : Int) (older : List PanicEntry) (w : World) (hq : Bk w q 29 #[.int .i64 y]) :
    CallsD Tryz.prog 28 #[.pointer (some ⟨q, 0, none⟩)] (.panicking (LV.wrg k :: older)) w fun e u' w' =>
      e = .returned (.tuple #[]) ∧ u' = .panicking ({ v := .iface 114 (.agg #[.int .i64 k]), recovered := true } :: older) ∧ ∃ w1, Below w.heap.size w w1 ∧ w' = w1.setCell ⟨q, 0, none⟩ (.int .i64 k) := by
  have c1 := cell_of_one hq
  have f1 := free_of_one hq
  refine callsD_of_wpS Tryz.func28 rfl fun c₀ cs hu => ?_
  apply wpS_region
  simp [wpOpsS, go_sem, recoverD, hu, LV.wrg, Tryz.ntmps28, Exit.thenS, Array.replicate, List.replicate]
  refine (LV.told_wrong k w).mono ?_
  rintro e w' ⟨rfl, hb⟩
  have c2 := cell_of_one (hq.below hb hq.lt)
  have f2 := free_of_one (hq.below hb hq.lt)
  simp [go_sem, c2, f2, Oper.upon, bodyPostS, results, Tryz.results28]
  exact ⟨w', hb, rfl⟩
theorem dnew_ret {Q : Ending → World → Prop} {w' : World} {g3 : Nat} {y : Int} {tmps : Array Value} {v : Value} (hv : tmps.getD 2 undef = v) (h3 : Bk w' g3 29 #[.int .i64 y]) (k3 : tmps.getD 3 undef = .pointer (some ⟨g3, 0, none⟩))
    (post : Q (.returned (.tuple #[v, .int .i64 0])) (w'.setCell ⟨g3, 0, none⟩ (.int .i64 0))) :
    bodyPostD Tryz.prog Tryz.f6 Q Exit.ret { tmps := tmps, defers := [{ target := Target.fn (Fn.func 28) #[.pointer (some ⟨g3, 0, none⟩)], args := #[] }] } w' := by
  refine leaves_cons (f := 28) (args := #[.pointer (some ⟨g3, 0, none⟩)]) (by simp) (by simp [go_sem]) ?_
  refine (dnew1_idle g3 y w' h3).mono ?_
  rintro e1 u' w'' ⟨rfl, rfl, rfl⟩
  have hr := results_tmp_cell (fn := Tryz.f6) rfl tmps (w'.setCell ⟨g3, 0, none⟩ (.int .i64 0)) g3 0 v hv k3 (cell_of_one (h3.put 0 _))
  simp [Leaves, settle, hr]
  exact post
theorem dnew_bad {Q : Ending → World → Prop} {w' : World} {g3 : Nat} {y k : Int} {tmps : Array Value} {v : Value} (hv : tmps.getD 2 undef = v) (h3 : Bk w' g3 29 #[.int .i64 y]) (k3 : tmps.getD 3 undef = .pointer (some ⟨g3, 0, none⟩))
    (post : ∀ w1, Below w'.heap.size w' w1 → Q (.returned (.tuple #[v, .int .i64 k])) (w1.setCell ⟨g3, 0, none⟩ (.int .i64 k))) :
    bodyPostD Tryz.prog Tryz.f6 Q (Exit.panic [LV.wrg k]) { tmps := tmps, defers := [{ target := Target.fn (Fn.func 28) #[.pointer (some ⟨g3, 0, none⟩)], args := #[] }] } w' := by
  refine leaves_cons (f := 28) (args := #[.pointer (some ⟨g3, 0, none⟩)]) (by simp) (by simp [go_sem]) ?_
  refine (dnew1_caught g3 y k [] w' h3).mono ?_
  rintro e1 u' w'' ⟨rfl, rfl, w1, hb1, rfl⟩
  have h3' := h3.below hb1 h3.lt
  have hr := results_tmp_cell (fn := Tryz.f6) rfl tmps (w1.setCell ⟨g3, 0, none⟩ (.int .i64 k)) g3 k v hv k3 (cell_of_one (h3'.put 0 _))
  simp [Leaves, settle, hr]
  exact post w1 hb1
theorem dread1_idle (q : Nat) (y : Int) (w : World) (hq : Bk w q 29 #[.int .i64 y]) :
    CallsD Tryz.prog 107 #[.pointer (some ⟨q, 0, none⟩)] .returning w fun e u' w' => e = .returned (.tuple #[]) ∧ u' = .returning ∧ w' = w.setCell ⟨q, 0, none⟩ (.int .i64 0) := by
  have c1 := cell_of_one hq
  have f1 := free_of_one hq
  refine callsD_of_wpS Tryz.func107 rfl fun c₀ cs hu => ?_
  apply wpS_region
  simp [wpOpsS, go_sem, recoverD, hu, LV.wrg, Tryz.ntmps107, Exit.thenS, Array.replicate, List.replicate]
  refine (LV.told_nil w).mono ?_
  rintro e w' ⟨rfl, rfl⟩
  simp [go_sem, c1, f1, Oper.upon, bodyPostS, results, Tryz.results107]
  cases c₀
  cases hu
  rfl
theorem dread1_caught (q : Nat) (y k : Int) (older : List PanicEntry) (w : World) (hq : Bk w q 29 #[.int .i64 y]) :
    CallsD Tryz.prog 107 #[.pointer (some ⟨q, 0, none⟩)] (.panicking (LV.wrg k :: older)) w fun e u' w' =>
      e = .returned (.tuple #[]) ∧ u' = .panicking ({ v := .iface 114 (.agg #[.int .i64 k]), recovered := true } :: older) ∧ ∃ w1, Below w.heap.size w w1 ∧ w' = w1.setCell ⟨q, 0, none⟩ (.int .i64 k) := by
  have c1 := cell_of_one hq
  have f1 := free_of_one hq
  refine callsD_of_wpS Tryz.func107 rfl fun c₀ cs hu => ?_
  apply wpS_region
  simp [wpOpsS, go_sem, recoverD, hu, LV.wrg, Tryz.ntmps107, Exit.thenS, Array.replicate, List.replicate]
  refine (LV.told_wrong k w).mono ?_
  rintro e w' ⟨rfl, hb⟩
  have c2 := cell_of_one (hq.below hb hq.lt)
  have f2 := free_of_one (hq.below hb hq.lt)
  simp [go_sem, c2, f2, Oper.upon, bodyPostS, results, Tryz.results107]
  exact ⟨w', hb, rfl⟩
theorem dread_ret {Q : Ending → World → Prop} {w' : World} {g3 : Nat} {y : Int} {tmps : Array Value} {v : Value} (hv : tmps.getD 4 undef = v) (h3 : Bk w' g3 29 #[.int .i64 y]) (k3 : tmps.getD 5 undef = .pointer (some ⟨g3, 0, none⟩))
    (post : Q (.returned (.tuple #[v, .int .i64 0])) (w'.setCell ⟨g3, 0, none⟩ (.int .i64 0))) :
    bodyPostD Tryz.prog Tryz.f81 Q Exit.ret { tmps := tmps, defers := [{ target := Target.fn (Fn.func 107) #[.pointer (some ⟨g3, 0, none⟩)], args := #[] }] } w' := by
  refine leaves_cons (f := 107) (args := #[.pointer (some ⟨g3, 0, none⟩)]) (by simp) (by simp [go_sem]) ?_
  refine (dread1_idle g3 y w' h3).mono ?_
  rintro e1 u' w'' ⟨rfl, rfl, rfl⟩
  have hr := results_tmp_cell (fn := Tryz.f81) rfl tmps (w'.setCell ⟨g3, 0, none⟩ (.int .i64 0)) g3 0 v hv k3 (cell_of_one (h3.put 0 _))
  simp [Leaves, settle, hr]
  exact post
theorem dread_bad {Q : Ending → World → Prop} {w' : World} {g3 : Nat} {y k : Int} {tmps : Array Value} {v : Value} (hv : tmps.getD 4 undef = v) (h3 : Bk w' g3 29 #[.int .i64 y]) (k3 : tmps.getD 5 undef = .pointer (some ⟨g3, 0, none⟩))
    (post : ∀ w1, Below w'.heap.size w' w1 → Q (.returned (.tuple #[v, .int .i64 k])) (w1.setCell ⟨g3, 0, none⟩ (.int .i64 k))) :
    bodyPostD Tryz.prog Tryz.f81 Q (Exit.panic [LV.wrg k]) { tmps := tmps, defers := [{ target := Target.fn (Fn.func 107) #[.pointer (some ⟨g3, 0, none⟩)], args := #[] }] } w' := by
  refine leaves_cons (f := 107) (args := #[.pointer (some ⟨g3, 0, none⟩)]) (by simp) (by simp [go_sem]) ?_
  refine (dread1_caught g3 y k [] w' h3).mono ?_
  rintro e1 u' w'' ⟨rfl, rfl, w1, hb1, rfl⟩
  have h3' := h3.below hb1 h3.lt
  have hr := results_tmp_cell (fn := Tryz.f81) rfl tmps (w1.setCell ⟨g3, 0, none⟩ (.int .i64 k)) g3 k v hv k3 (cell_of_one (h3'.put 0 _))
  simp [Leaves, settle, hr]
  exact post w1 hb1
theorem dwrite1_idle (q : Nat) (y : Int) (w : World) (hq : Bk w q 29 #[.int .i64 y]) :
    CallsD Tryz.prog 110 #[.pointer (some ⟨q, 0, none⟩)] .returning w fun e u' w' => e = .returned (.tuple #[]) ∧ u' = .returning ∧ w' = w.setCell ⟨q, 0, none⟩ (.int .i64 0) := by
  have c1 := cell_of_one hq
  have f1 := free_of_one hq
  refine callsD_of_wpS Tryz.func110 rfl fun c₀ cs hu => ?_
  apply wpS_region
  simp [wpOpsS, go_sem, recoverD, hu, LV.wrg, Tryz.ntmps110, Exit.thenS, Array.replicate, List.replicate]
  refine (LV.told_nil w).mono ?_
  rintro e w' ⟨rfl, rfl⟩
  simp [go_sem, c1, f1, Oper.upon, bodyPostS, results, Tryz.results110]
  cases c₀
  cases hu
  rfl
theorem dwrite1_caught (q : Nat) (y k : Int) (older : List PanicEntry) (w : World) (hq : Bk w q 29 #[.int .i64 y]) :
    CallsD Tryz.prog 110 #[.pointer (some ⟨q, 0, none⟩)] (.panicking (LV.wrg k :: older)) w fun e u' w' =>
      e = .returned (.tuple #[]) ∧ u' = .panicking ({ v := .iface 114 (.agg #[.int .i64 k]), recovered := true } :: older) ∧ ∃ w1, Below w.heap.size w w1 ∧ w' = w1.setCell ⟨q, 0, none⟩ (.int .i64 k) := by
  have c1 := cell_of_one hq
  have f1 := free_of_one hq
  refine callsD_of_wpS Tryz.func110 rfl fun c₀ cs hu => ?_
  apply wpS_region
  simp [wpOpsS, go_sem, recoverD, hu, LV.wrg, Tryz.ntmps110, Exit.thenS, Array.replicate, List.replicate]
  refine (LV.told_wrong k w).mono ?_
  rintro e w' ⟨rfl, hb⟩
  have c2 := cell_of_one (hq.below hb hq.lt)
  have f2 := free_of_one (hq.below hb hq.lt)
  simp [go_sem, c2, f2, Oper.upon, bodyPostS, results, Tryz.results110]
  exact ⟨w', hb, rfl⟩
theorem dwrite_ret {Q : Ending → World → Prop} {w' : World} {g3 : Nat} {y : Int} {tmps : Array Value} (h3 : Bk w' g3 29 #[.int .i64 y]) (k3 : tmps.getD 6 undef = .pointer (some ⟨g3, 0, none⟩))
    (post : Q (.returned (.int .i64 0)) (w'.setCell ⟨g3, 0, none⟩ (.int .i64 0))) :
    bodyPostD Tryz.prog Tryz.f85 Q Exit.ret { tmps := tmps, defers := [{ target := Target.fn (Fn.func 110) #[.pointer (some ⟨g3, 0, none⟩)], args := #[] }] } w' := by
  refine leaves_cons (f := 110) (args := #[.pointer (some ⟨g3, 0, none⟩)]) (by simp) (by simp [go_sem]) ?_
  refine (dwrite1_idle g3 y w' h3).mono ?_
  rintro e1 u' w'' ⟨rfl, rfl, rfl⟩
  have hr := results_one_cell (fn := Tryz.f85) rfl tmps (w'.setCell ⟨g3, 0, none⟩ (.int .i64 0)) g3 0 k3 (cell_of_one (h3.put 0 _))
  simp [Leaves, settle, hr]
  exact post
theorem dwrite_bad {Q : Ending → World → Prop} {w' : World} {g3 : Nat} {y k : Int} {tmps : Array Value} (h3 : Bk w' g3 29 #[.int .i64 y]) (k3 : tmps.getD 6 undef = .pointer (some ⟨g3, 0, none⟩))
    (post : ∀ w1, Below w'.heap.size w' w1 → Q (.returned (.int .i64 k)) (w1.setCell ⟨g3, 0, none⟩ (.int .i64 k))) :
    bodyPostD Tryz.prog Tryz.f85 Q (Exit.panic [LV.wrg k]) { tmps := tmps, defers := [{ target := Target.fn (Fn.func 110) #[.pointer (some ⟨g3, 0, none⟩)], args := #[] }] } w' := by
  refine leaves_cons (f := 110) (args := #[.pointer (some ⟨g3, 0, none⟩)]) (by simp) (by simp [go_sem]) ?_
  refine (dwrite1_caught g3 y k [] w' h3).mono ?_
  rintro e1 u' w'' ⟨rfl, rfl, w1, hb1, rfl⟩
  have h3' := h3.below hb1 h3.lt
  have hr := results_one_cell (fn := Tryz.f85) rfl tmps (w1.setCell ⟨g3, 0, none⟩ (.int .i64 k)) g3 k k3 (cell_of_one (h3'.put 0 _))
  simp [Leaves, settle, hr]
  exact post w1 hb1
theorem dflush1_idle (q : Nat) (y : Int) (w : World) (hq : Bk w q 29 #[.int .i64 y]) :
    CallsD Tryz.prog 88 #[.pointer (some ⟨q, 0, none⟩)] .returning w fun e u' w' => e = .returned (.tuple #[]) ∧ u' = .returning ∧ w' = w.setCell ⟨q, 0, none⟩ (.int .i64 0) := by
  have c1 := cell_of_one hq
  have f1 := free_of_one hq
  refine callsD_of_wpS Tryz.func88 rfl fun c₀ cs hu => ?_
  apply wpS_region
  simp [wpOpsS, go_sem, recoverD, hu, LV.wrg, Tryz.ntmps88, Exit.thenS, Array.replicate, List.replicate]
  refine (LV.told_nil w).mono ?_
  rintro e w' ⟨rfl, rfl⟩
  simp [go_sem, c1, f1, Oper.upon, bodyPostS, results, Tryz.results88]
  cases c₀
  cases hu
  rfl
theorem dflush1_caught (q : Nat) (y k : Int) (older : List PanicEntry) (w : World) (hq : Bk w q 29 #[.int .i64 y]) :
    CallsD Tryz.prog 88 #[.pointer (some ⟨q, 0, none⟩)] (.panicking (LV.wrg k :: older)) w fun e u' w' =>
      e = .returned (.tuple #[]) ∧ u' = .panicking ({ v := .iface 114 (.agg #[.int .i64 k]), recovered := true } :: older) ∧ ∃ w1, Below w.heap.size w w1 ∧ w' = w1.setCell ⟨q, 0, none⟩ (.int .i64 k) := by
  have c1 := cell_of_one hq
  have f1 := free_of_one hq
  refine callsD_of_wpS Tryz.func88 rfl fun c₀ cs hu => ?_
  apply wpS_region
  simp [wpOpsS, go_sem, recoverD, hu, LV.wrg, Tryz.ntmps88, Exit.thenS, Array.replicate, List.replicate]
  refine (LV.told_wrong k w).mono ?_
  rintro e w' ⟨rfl, hb⟩
  have c2 := cell_of_one (hq.below hb hq.lt)
  have f2 := free_of_one (hq.below hb hq.lt)
  simp [go_sem, c2, f2, Oper.upon, bodyPostS, results, Tryz.results88]
  exact ⟨w', hb, rfl⟩
theorem dflush_ret {Q : Ending → World → Prop} {w' : World} {g3 : Nat} {y : Int} {tmps : Array Value} (h3 : Bk w' g3 29 #[.int .i64 y]) (k3 : tmps.getD 2 undef = .pointer (some ⟨g3, 0, none⟩))
    (post : Q (.returned (.int .i64 0)) (w'.setCell ⟨g3, 0, none⟩ (.int .i64 0))) :
    bodyPostD Tryz.prog Tryz.f60 Q Exit.ret { tmps := tmps, defers := [{ target := Target.fn (Fn.func 88) #[.pointer (some ⟨g3, 0, none⟩)], args := #[] }] } w' := by
  refine leaves_cons (f := 88) (args := #[.pointer (some ⟨g3, 0, none⟩)]) (by simp) (by simp [go_sem]) ?_
  refine (dflush1_idle g3 y w' h3).mono ?_
  rintro e1 u' w'' ⟨rfl, rfl, rfl⟩
  have hr := results_one_cell (fn := Tryz.f60) rfl tmps (w'.setCell ⟨g3, 0, none⟩ (.int .i64 0)) g3 0 k3 (cell_of_one (h3.put 0 _))
  simp [Leaves, settle, hr]
  exact post
theorem dflush_bad {Q : Ending → World → Prop} {w' : World} {g3 : Nat} {y k : Int} {tmps : Array Value} (h3 : Bk w' g3 29 #[.int .i64 y]) (k3 : tmps.getD 2 undef = .pointer (some ⟨g3, 0, none⟩))
    (post : ∀ w1, Below w'.heap.size w' w1 → Q (.returned (.int .i64 k)) (w1.setCell ⟨g3, 0, none⟩ (.int .i64 k))) :
    bodyPostD Tryz.prog Tryz.f60 Q (Exit.panic [LV.wrg k]) { tmps := tmps, defers := [{ target := Target.fn (Fn.func 88) #[.pointer (some ⟨g3, 0, none⟩)], args := #[] }] } w' := by
  refine leaves_cons (f := 88) (args := #[.pointer (some ⟨g3, 0, none⟩)]) (by simp) (by simp [go_sem]) ?_
  refine (dflush1_caught g3 y k [] w' h3).mono ?_
  rintro e1 u' w'' ⟨rfl, rfl, w1, hb1, rfl⟩
  have h3' := h3.below hb1 h3.lt
  have hr := results_one_cell (fn := Tryz.f60) rfl tmps (w1.setCell ⟨g3, 0, none⟩ (.int .i64 k)) g3 k k3 (cell_of_one (h3'.put 0 _))
  simp [Leaves, settle, hr]
  exact post w1 hb1
end Go.Proofs.YtnoflgkjdibblaaGreatDoor.S19

/-
  The landed slots in memory: where they lie, and what abides. No statement is proved here.
-/
namespace Go.Proofs.YtnoflgkjdibblaaGreatDoor.S20
set_option linter.unusedSimpArgs false
set_option linter.unusedVariables false
set_option maxRecDepth 4096
open Go.RowKit S19

/-- What the landed slots hold. -/
abbrev skA (g : Nat) (Z : Sl) (A : Option Addr) (c : Nat) : Array Value := #[.pointer (some ⟨g, 0, none⟩), .int .i64 (Z.first : Int), .int .i64 (Z.n : Int), .int .u64 (Z.num : Int), .slice A Z.b.length c, .int .i64 (Z.goes : Int)]
/-- Where they lie. -/
structure Sz (N : Nat) (w : World) (s g : Nat) (Z : Sl) (S : Nat → Prop) : Prop where
  ex : ∃ A c, Bk w s 85 (skA g Z A c) ∧ Rd w A Z.b.length c Z.b ∧ ∀ a, 0 < Z.b.length → A = some a → S a.block ∧ a.block ≠ s
  at_ : S s
  lt : ∀ b, S b → N ≤ b ∧ b < w.heap.size
  few : Z.b.length ≤ 1000000
section
variable {N : Nat} {w w' : World} {s g : Nat} {Z : Sl} {S : Nat → Prop}
theorem Sz.keep (r : Sz N w s g Z S) (hs : w.heap.size ≤ w'.heap.size) (hk : ∀ b, S b → b < w.heap.size → w'.heap[b]? = w.heap[b]?) : Sz N w' s g Z S := by
  obtain ⟨A, c, h1, h2, h3⟩ := r.ex
  refine ⟨⟨A, c, (hk s r.at_ h1.lt).trans h1, ⟨h2.len, h2.cap, h2.max, h2.nil, fun hn => ?_⟩, h3⟩, r.at_, fun b hb => ⟨(r.lt b hb).1, Nat.lt_of_lt_of_le (r.lt b hb).2 hs⟩, r.few⟩
  obtain ⟨b, off, rfl, hl, hc⟩ := h2.at_ hn
  exact ⟨b, off, rfl, Nat.lt_of_lt_of_le hl hs, fun j hj => (World.cell?_of_block (a := ⟨b, off + j, none⟩) (hk b (h3 _ hn rfl).1 hl)).trans (hc j hj)⟩
theorem Sz.grow (r : Sz N w s g Z S) (hb : Below w.heap.size w w') : Sz N w' s g Z S := r.keep hb.size fun b _ hl => hb.block b hl
theorem Sz.sz (r : Sz N w s g Z S) : s < w.heap.size ∧ N ≤ s := ⟨(r.lt s r.at_).2, (r.lt s r.at_).1⟩
/-- The slots are as they were where a call has touched the disk's blocks alone. -/
theorem Sz.mv {F : Nat → Prop} (r : Sz N w s g Z S) (m : Mv N F w w') (hF : ∀ b, F b → ¬ S b) : Sz N w' s g Z S := r.keep m.size fun b hb hl => m.same b hl fun h => hF b h hb
/-- What a store in the slots' own block may touch. -/
theorem Sz.poke (r : Sz N w s g Z S) (i : Nat) (u : Value) : Mv N S w (w.setCell ⟨s, i, none⟩ u) :=
  ⟨(Below.refl _ _).setCell (show N ≤ (⟨s, i, none⟩ : Addr).block from r.sz.2) u, fun b _ hb => Below.heap_setCell w ⟨s, i, none⟩ u b fun e => hb (by rw [e]; exact r.at_)⟩
/-- What the slots hold, as cells. -/
theorem Sz.cells (r : Sz N w s g Z S) : w.cell? ⟨s, 0, none⟩ = some (.pointer (some ⟨g, 0, none⟩)) ∧ w.cell? ⟨s, 1, none⟩ = some (.int .i64 (Z.first : Int)) ∧ w.cell? ⟨s, 2, none⟩ = some (.int .i64 (Z.n : Int)) ∧ w.cell? ⟨s, 3, none⟩ = some (.int .u64 (Z.num : Int)) ∧ w.cell? ⟨s, 5, none⟩ = some (.int .i64 (Z.goes : Int)) := by
  obtain ⟨A, c, h1, _, _⟩ := r.ex
  exact ⟨h1.cell 0, h1.cell 1, h1.cell 2, h1.cell 3, h1.cell 5⟩
end
end Go.Proofs.YtnoflgkjdibblaaGreatDoor.S20

/-
  What the deferred calls of the landed slots do, and how the calls that defer them end. No statement is proved here. (Written by gensk8.py.)
-/
namespace Go.Proofs.YtnoflgkjdibblaaGreatDoor.S20
set_option linter.unusedSimpArgs false
set_option linter.unusedVariables false
set_option maxRecDepth 4096
open Go.RowKit S19

theorem results_tmp2_cell {fn : Func} {p p2 q : Tmp} (h : fn.results = #[.tmp p, .tmp p2, .cell q 29]) (tmps : Array Value) (w : World) (g' : Nat) (n : Int) (v v2 : Value)
    (hp : tmps.getD p undef = v) (hp2 : tmps.getD p2 undef = v2) (hq : tmps.getD q undef = .pointer (some ⟨g', 0, none⟩)) (hc : w.cell? ⟨g', 0, none⟩ = some (.int .i64 n)) : (results fn tmps).run Tryz.prog w = .ok (.tuple #[v, v2, .int .i64 n]) w := by
  have hp' : tmps[p]?.getD undef = v := by simpa using hp
  have hp2' : tmps[p2]?.getD undef = v2 := by simpa using hp2
  have hq' : tmps[q]?.getD undef = .pointer (some ⟨g', 0, none⟩) := by simpa using hq
  simp [results, h, hp', hp2', hq', asAddr, load_codeD g' n w hc]
theorem snew1_idle (q : Nat) (y : Int) (w : World) (hq : Bk w q 29 #[.int .i64 y]) :
    CallsD Tryz.prog 31 #[.pointer (some ⟨q, 0, none⟩)] .returning w fun e u' w' => e = .returned (.tuple #[]) ∧ u' = .returning ∧ w' = w.setCell ⟨q, 0, none⟩ (.int .i64 0) := by
  have c1 := cell_of_one hq
  have f1 := free_of_one hq
  refine callsD_of_wpS Tryz.func31 rfl fun c₀ cs hu => ?_
  apply wpS_region
  simp [wpOpsS, go_sem, recoverD, hu, LV.wrg, Tryz.ntmps31, Exit.thenS, Array.replicate, List.replicate]
  refine (LV.told_nil w).mono ?_
  rintro e w' ⟨rfl, rfl⟩
  simp [go_sem, c1, f1, Oper.upon, bodyPostS, results, Tryz.results31]
  cases c₀
  cases hu
  rfl
theorem snew1_caught (q : Nat) (y k : Int) (older : List PanicEntry) (w : World) (hq : Bk w q 29 #[.int .i64 y]) :
    CallsD Tryz.prog 31 #[.pointer (some ⟨q, 0, none⟩)] (.panicking (LV.wrg k :: older)) w fun e u' w' =>
      e = .returned (.tuple #[]) ∧ u' = .panicking ({ v := .iface 114 (.agg #[.int .i64 k]), recovered := true } :: older) ∧ ∃ w1, Below w.heap.size w w1 ∧ w' = w1.setCell ⟨q, 0, none⟩ (.int .i64 k) := by
  have c1 := cell_of_one hq
  have f1 := free_of_one hq
  refine callsD_of_wpS Tryz.func31 rfl fun c₀ cs hu => ?_
  apply wpS_region
  simp [wpOpsS, go_sem, recoverD, hu, LV.wrg, Tryz.ntmps31, Exit.thenS, Array.replicate, List.replicate]
  refine (LV.told_wrong k w).mono ?_
  rintro e w' ⟨rfl, hb⟩
  have c2 := cell_of_one (hq.below hb hq.lt)
  have f2 := free_of_one (hq.below hb hq.lt)
  simp [go_sem, c2, f2, Oper.upon, bodyPostS, results, Tryz.results31]
  exact ⟨w', hb, rfl⟩
theorem snew_ret {Q : Ending → World → Prop} {w' : World} {g3 : Nat} {y : Int} {tmps : Array Value} {v : Value} (hv : tmps.getD 6 undef = v) (h3 : Bk w' g3 29 #[.int .i64 y]) (k3 : tmps.getD 7 undef = .pointer (some ⟨g3, 0, none⟩))
    (post : Q (.returned (.tuple #[v, .int .i64 0])) (w'.setCell ⟨g3, 0, none⟩ (.int .i64 0))) :
    bodyPostD Tryz.prog Tryz.f8 Q Exit.ret { tmps := tmps, defers := [{ target := Target.fn (Fn.func 31) #[.pointer (some ⟨g3, 0, none⟩)], args := #[] }] } w' := by
  refine leaves_cons (f := 31) (args := #[.pointer (some ⟨g3, 0, none⟩)]) (by simp) (by simp [go_sem]) ?_
  refine (snew1_idle g3 y w' h3).mono ?_
  rintro e1 u' w'' ⟨rfl, rfl, rfl⟩
  have hr := results_tmp_cell (fn := Tryz.f8) rfl tmps (w'.setCell ⟨g3, 0, none⟩ (.int .i64 0)) g3 0 v hv k3 (cell_of_one (h3.put 0 _))
  simp [Leaves, settle, hr]
  exact post
theorem snew_bad {Q : Ending → World → Prop} {w' : World} {g3 : Nat} {y k : Int} {tmps : Array Value} {v : Value} (hv : tmps.getD 6 undef = v) (h3 : Bk w' g3 29 #[.int .i64 y]) (k3 : tmps.getD 7 undef = .pointer (some ⟨g3, 0, none⟩))
    (post : ∀ w1, Below w'.heap.size w' w1 → Q (.returned (.tuple #[v, .int .i64 k])) (w1.setCell ⟨g3, 0, none⟩ (.int .i64 k))) :
    bodyPostD Tryz.prog Tryz.f8 Q (Exit.panic [LV.wrg k]) { tmps := tmps, defers := [{ target := Target.fn (Fn.func 31) #[.pointer (some ⟨g3, 0, none⟩)], args := #[] }] } w' := by
  refine leaves_cons (f := 31) (args := #[.pointer (some ⟨g3, 0, none⟩)]) (by simp) (by simp [go_sem]) ?_
  refine (snew1_caught g3 y k [] w' h3).mono ?_
  rintro e1 u' w'' ⟨rfl, rfl, w1, hb1, rfl⟩
  have h3' := h3.below hb1 h3.lt
  have hr := results_tmp_cell (fn := Tryz.f8) rfl tmps (w1.setCell ⟨g3, 0, none⟩ (.int .i64 k)) g3 k v hv k3 (cell_of_one (h3'.put 0 _))
  simp [Leaves, settle, hr]
  exact post w1 hb1
theorem sload1_idle (q : Nat) (y : Int) (w : World) (hq : Bk w q 29 #[.int .i64 y]) :
    CallsD Tryz.prog 49 #[.pointer (some ⟨q, 0, none⟩)] .returning w fun e u' w' => e = .returned (.tuple #[]) ∧ u' = .returning ∧ w' = w.setCell ⟨q, 0, none⟩ (.int .i64 0) := by
  have c1 := cell_of_one hq
  have f1 := free_of_one hq
  refine callsD_of_wpS Tryz.func49 rfl fun c₀ cs hu => ?_
  apply wpS_region
  simp [wpOpsS, go_sem, recoverD, hu, LV.wrg, Tryz.ntmps49, Exit.thenS, Array.replicate, List.replicate]
  refine (LV.told_nil w).mono ?_
  rintro e w' ⟨rfl, rfl⟩
  simp [go_sem, c1, f1, Oper.upon, bodyPostS, results, Tryz.results49]
  cases c₀
  cases hu
  rfl
theorem sload1_caught (q : Nat) (y k : Int) (older : List PanicEntry) (w : World) (hq : Bk w q 29 #[.int .i64 y]) :
    CallsD Tryz.prog 49 #[.pointer (some ⟨q, 0, none⟩)] (.panicking (LV.wrg k :: older)) w fun e u' w' =>
      e = .returned (.tuple #[]) ∧ u' = .panicking ({ v := .iface 114 (.agg #[.int .i64 k]), recovered := true } :: older) ∧ ∃ w1, Below w.heap.size w w1 ∧ w' = w1.setCell ⟨q, 0, none⟩ (.int .i64 k) := by
  have c1 := cell_of_one hq
  have f1 := free_of_one hq
  refine callsD_of_wpS Tryz.func49 rfl fun c₀ cs hu => ?_
  apply wpS_region
  simp [wpOpsS, go_sem, recoverD, hu, LV.wrg, Tryz.ntmps49, Exit.thenS, Array.replicate, List.replicate]
  refine (LV.told_wrong k w).mono ?_
  rintro e w' ⟨rfl, hb⟩
  have c2 := cell_of_one (hq.below hb hq.lt)
  have f2 := free_of_one (hq.below hb hq.lt)
  simp [go_sem, c2, f2, Oper.upon, bodyPostS, results, Tryz.results49]
  exact ⟨w', hb, rfl⟩
theorem sload_ret {Q : Ending → World → Prop} {w' : World} {g3 : Nat} {y : Int} {tmps : Array Value} {v v2 : Value} (hv : tmps.getD 2 undef = v) (hv2 : tmps.getD 3 undef = v2) (h3 : Bk w' g3 29 #[.int .i64 y]) (k3 : tmps.getD 4 undef = .pointer (some ⟨g3, 0, none⟩))
    (post : Q (.returned (.tuple #[v, v2, .int .i64 0])) (w'.setCell ⟨g3, 0, none⟩ (.int .i64 0))) :
    bodyPostD Tryz.prog Tryz.f34 Q Exit.ret { tmps := tmps, defers := [{ target := Target.fn (Fn.func 49) #[.pointer (some ⟨g3, 0, none⟩)], args := #[] }] } w' := by
  refine leaves_cons (f := 49) (args := #[.pointer (some ⟨g3, 0, none⟩)]) (by simp) (by simp [go_sem]) ?_
  refine (sload1_idle g3 y w' h3).mono ?_
  rintro e1 u' w'' ⟨rfl, rfl, rfl⟩
  have hr := results_tmp2_cell (fn := Tryz.f34) rfl tmps (w'.setCell ⟨g3, 0, none⟩ (.int .i64 0)) g3 0 v v2 hv hv2 k3 (cell_of_one (h3.put 0 _))
  simp [Leaves, settle, hr]
  exact post
theorem sload_bad {Q : Ending → World → Prop} {w' : World} {g3 : Nat} {y k : Int} {tmps : Array Value} {v v2 : Value} (hv : tmps.getD 2 undef = v) (hv2 : tmps.getD 3 undef = v2) (h3 : Bk w' g3 29 #[.int .i64 y]) (k3 : tmps.getD 4 undef = .pointer (some ⟨g3, 0, none⟩))
    (post : ∀ w1, Below w'.heap.size w' w1 → Q (.returned (.tuple #[v, v2, .int .i64 k])) (w1.setCell ⟨g3, 0, none⟩ (.int .i64 k))) :
    bodyPostD Tryz.prog Tryz.f34 Q (Exit.panic [LV.wrg k]) { tmps := tmps, defers := [{ target := Target.fn (Fn.func 49) #[.pointer (some ⟨g3, 0, none⟩)], args := #[] }] } w' := by
  refine leaves_cons (f := 49) (args := #[.pointer (some ⟨g3, 0, none⟩)]) (by simp) (by simp [go_sem]) ?_
  refine (sload1_caught g3 y k [] w' h3).mono ?_
  rintro e1 u' w'' ⟨rfl, rfl, w1, hb1, rfl⟩
  have h3' := h3.below hb1 h3.lt
  have hr := results_tmp2_cell (fn := Tryz.f34) rfl tmps (w1.setCell ⟨g3, 0, none⟩ (.int .i64 k)) g3 k v v2 hv hv2 k3 (cell_of_one (h3'.put 0 _))
  simp [Leaves, settle, hr]
  exact post w1 hb1
theorem ssave1_idle (q : Nat) (y : Int) (w : World) (hq : Bk w q 29 #[.int .i64 y]) :
    CallsD Tryz.prog 55 #[.pointer (some ⟨q, 0, none⟩)] .returning w fun e u' w' => e = .returned (.tuple #[]) ∧ u' = .returning ∧ w' = w.setCell ⟨q, 0, none⟩ (.int .i64 0) := by
  have c1 := cell_of_one hq
  have f1 := free_of_one hq
  refine callsD_of_wpS Tryz.func55 rfl fun c₀ cs hu => ?_
  apply wpS_region
  simp [wpOpsS, go_sem, recoverD, hu, LV.wrg, Tryz.ntmps55, Exit.thenS, Array.replicate, List.replicate]
  refine (LV.told_nil w).mono ?_
  rintro e w' ⟨rfl, rfl⟩
  simp [go_sem, c1, f1, Oper.upon, bodyPostS, results, Tryz.results55]
  cases c₀
  cases hu
  rfl
theorem ssave1_caught (q : Nat) (y k : Int) (older : List PanicEntry) (w : World) (hq : Bk w q 29 #[.int .i64 y]) :
    CallsD Tryz.prog 55 #[.pointer (some ⟨q, 0, none⟩)] (.panicking (LV.wrg k :: older)) w fun e u' w' =>
      e = .returned (.tuple #[]) ∧ u' = .panicking ({ v := .iface 114 (.agg #[.int .i64 k]), recovered := true } :: older) ∧ ∃ w1, Below w.heap.size w w1 ∧ w' = w1.setCell ⟨q, 0, none⟩ (.int .i64 k) := by
  have c1 := cell_of_one hq
  have f1 := free_of_one hq
  refine callsD_of_wpS Tryz.func55 rfl fun c₀ cs hu => ?_
  apply wpS_region
  simp [wpOpsS, go_sem, recoverD, hu, LV.wrg, Tryz.ntmps55, Exit.thenS, Array.replicate, List.replicate]
  refine (LV.told_wrong k w).mono ?_
  rintro e w' ⟨rfl, hb⟩
  have c2 := cell_of_one (hq.below hb hq.lt)
  have f2 := free_of_one (hq.below hb hq.lt)
  simp [go_sem, c2, f2, Oper.upon, bodyPostS, results, Tryz.results55]
  exact ⟨w', hb, rfl⟩
theorem ssave_ret {Q : Ending → World → Prop} {w' : World} {g3 : Nat} {y : Int} {tmps : Array Value} (h3 : Bk w' g3 29 #[.int .i64 y]) (k3 : tmps.getD 4 undef = .pointer (some ⟨g3, 0, none⟩))
    (post : Q (.returned (.int .i64 0)) (w'.setCell ⟨g3, 0, none⟩ (.int .i64 0))) :
    bodyPostD Tryz.prog Tryz.f35 Q Exit.ret { tmps := tmps, defers := [{ target := Target.fn (Fn.func 55) #[.pointer (some ⟨g3, 0, none⟩)], args := #[] }] } w' := by
  refine leaves_cons (f := 55) (args := #[.pointer (some ⟨g3, 0, none⟩)]) (by simp) (by simp [go_sem]) ?_
  refine (ssave1_idle g3 y w' h3).mono ?_
  rintro e1 u' w'' ⟨rfl, rfl, rfl⟩
  have hr := results_one_cell (fn := Tryz.f35) rfl tmps (w'.setCell ⟨g3, 0, none⟩ (.int .i64 0)) g3 0 k3 (cell_of_one (h3.put 0 _))
  simp [Leaves, settle, hr]
  exact post
theorem ssave_bad {Q : Ending → World → Prop} {w' : World} {g3 : Nat} {y k : Int} {tmps : Array Value} (h3 : Bk w' g3 29 #[.int .i64 y]) (k3 : tmps.getD 4 undef = .pointer (some ⟨g3, 0, none⟩))
    (post : ∀ w1, Below w'.heap.size w' w1 → Q (.returned (.int .i64 k)) (w1.setCell ⟨g3, 0, none⟩ (.int .i64 k))) :
    bodyPostD Tryz.prog Tryz.f35 Q (Exit.panic [LV.wrg k]) { tmps := tmps, defers := [{ target := Target.fn (Fn.func 55) #[.pointer (some ⟨g3, 0, none⟩)], args := #[] }] } w' := by
  refine leaves_cons (f := 55) (args := #[.pointer (some ⟨g3, 0, none⟩)]) (by simp) (by simp [go_sem]) ?_
  refine (ssave1_caught g3 y k [] w' h3).mono ?_
  rintro e1 u' w'' ⟨rfl, rfl, w1, hb1, rfl⟩
  have h3' := h3.below hb1 h3.lt
  have hr := results_one_cell (fn := Tryz.f35) rfl tmps (w1.setCell ⟨g3, 0, none⟩ (.int .i64 k)) g3 k k3 (cell_of_one (h3'.put 0 _))
  simp [Leaves, settle, hr]
  exact post w1 hb1
end Go.Proofs.YtnoflgkjdibblaaGreatDoor.S20

/-
  The library's sort and search of rows of whole numbers, at this program: the numbers of what they call, and each of their bodies. No statement is proved here.
-/
namespace Go.Proofs
open Go.Shelf
def Tryz.lays189_ren : Go.Shelf.Ren := ⟨fun | 189 => 43 | 125 => 74 | 257 => 73 | 128 => 102 | 129 => 103 | 294 => 93 | 295 => 94 | 296 => 95 | 297 => 96 | 298 => 97 | 299 => 98 | 216 => 99 | 300 => 100 | 301 => 101 | 328 => 116 | 329 => 117 | 330 => 118 | 331 => 119 | 332 => 120 | 215 => 121 | 343 => 129 | n => n, fun | 28 => 49 | 3 => 3 | 46 => 139 | 0 => 0 | 51 => 158 | 53 => 22 | 4 => 4 | 183 => 150 | 182 => 149 | 131 => 155 | 5 => 5 | 9 => 9 | 218 => 170 | 222 => 174 | 228 => 184 | 229 => 108 | n => n, fun | n => n⟩
theorem Tryz.lays189 : Go.Proofs.Lays.n189 Tryz.prog Tryz.lays189_ren := {
  mixed := by kernel_rfl
  f125 := Tryz.func74.trans (congrArg some (by kernel_rfl))
  f128 := Tryz.func102.trans (congrArg some (by kernel_rfl))
  f129 := Tryz.func103.trans (congrArg some (by kernel_rfl))
  f189 := Tryz.func43.trans (congrArg some (by kernel_rfl))
  f215 := Tryz.func121.trans (congrArg some (by kernel_rfl))
  f216 := Tryz.func99.trans (congrArg some (by kernel_rfl))
  f257 := Tryz.func73.trans (congrArg some (by kernel_rfl))
  f294 := Tryz.func93.trans (congrArg some (by kernel_rfl))
  f295 := Tryz.func94.trans (congrArg some (by kernel_rfl))
  f296 := Tryz.func95.trans (congrArg some (by kernel_rfl))
  f297 := Tryz.func96.trans (congrArg some (by kernel_rfl))
  f298 := Tryz.func97.trans (congrArg some (by kernel_rfl))
  f299 := Tryz.func98.trans (congrArg some (by kernel_rfl))
  f300 := Tryz.func100.trans (congrArg some (by kernel_rfl))
  f301 := Tryz.func101.trans (congrArg some (by kernel_rfl))
  f328 := Tryz.func116.trans (congrArg some (by kernel_rfl))
  f329 := Tryz.func117.trans (congrArg some (by kernel_rfl))
  f330 := Tryz.func118.trans (congrArg some (by kernel_rfl))
  f331 := Tryz.func119.trans (congrArg some (by kernel_rfl))
  f332 := Tryz.func120.trans (congrArg some (by kernel_rfl))
  f343 := Tryz.func129.trans (congrArg some (by kernel_rfl))
  t0 := Tryz.underlying0
  a0 := Tryz.isAgg0
  z0 := Tryz.sizeOf0
  v0 := Tryz.zeroValue0
  t3 := Tryz.underlying3
  a3 := Tryz.isAgg3
  z3 := Tryz.sizeOf3
  v3 := Tryz.zeroValue3
  t4 := Tryz.underlying4
  a4 := Tryz.isAgg4
  z4 := Tryz.sizeOf4
  v4 := Tryz.zeroValue4
  t5 := Tryz.underlying5
  a5 := Tryz.isAgg5
  z5 := Tryz.sizeOf5
  v5 := Tryz.zeroValue5
  t9 := Tryz.underlying9
  a9 := Tryz.isAgg9
  z9 := Tryz.sizeOf9
  v9 := Tryz.zeroValue9
  t28 := Tryz.underlying49
  a28 := Tryz.isAgg49
  z28 := Tryz.sizeOf49
  v28 := Tryz.zeroValue49
  t46 := Tryz.underlying139
  a46 := Tryz.isAgg139
  z46 := Tryz.sizeOf139
  v46 := Tryz.zeroValue139
  t51 := Tryz.underlying158
  a51 := Tryz.isAgg158
  z51 := Tryz.sizeOf158
  v51 := Tryz.zeroValue158
  t53 := Tryz.underlying22
  a53 := Tryz.isAgg22
  z53 := Tryz.sizeOf22
  v53 := Tryz.zeroValue22
  t131 := Tryz.underlying155
  a131 := Tryz.isAgg155
  z131 := Tryz.sizeOf155
  v131 := Tryz.zeroValue155
  t182 := Tryz.underlying149
  a182 := Tryz.isAgg149
  z182 := Tryz.sizeOf149
  v182 := Tryz.zeroValue149
  t183 := Tryz.underlying150
  a183 := Tryz.isAgg150
  z183 := Tryz.sizeOf150
  v183 := Tryz.zeroValue150
  t218 := Tryz.underlying170
  a218 := Tryz.isAgg170
  z218 := Tryz.sizeOf170
  v218 := Tryz.zeroValue170
  t222 := Tryz.underlying174
  a222 := Tryz.isAgg174
  z222 := Tryz.sizeOf174
  v222 := Tryz.zeroValue174
  t228 := Tryz.underlying184
  a228 := Tryz.isAgg184
  z228 := Tryz.sizeOf184
  v228 := Tryz.zeroValue184
  t229 := Tryz.underlying108
  a229 := Tryz.isAgg108
  z229 := Tryz.sizeOf108
  v229 := Tryz.zeroValue108 }
def Tryz.laysB25_ren : Go.Shelf.Ren := ⟨fun | 25 => 114 | 31 => 99 | 32 => 126 | 37 => 121 | n => n, fun | 22 => 49 | 3 => 3 | 4 => 4 | 40 => 139 | 0 => 0 | n => n, fun | n => n⟩
theorem Tryz.laysB25 : Go.Proofs.Lays2.n25 Tryz.prog Tryz.laysB25_ren := {
  mixed := by kernel_rfl
  f25 := Tryz.func114.trans (congrArg some (by kernel_rfl))
  f31 := Tryz.func99.trans (congrArg some (by kernel_rfl))
  f32 := Tryz.func126.trans (congrArg some (by kernel_rfl))
  f37 := Tryz.func121.trans (congrArg some (by kernel_rfl))
  t0 := Tryz.underlying0
  a0 := Tryz.isAgg0
  z0 := Tryz.sizeOf0
  v0 := Tryz.zeroValue0
  t3 := Tryz.underlying3
  a3 := Tryz.isAgg3
  z3 := Tryz.sizeOf3
  v3 := Tryz.zeroValue3
  t4 := Tryz.underlying4
  a4 := Tryz.isAgg4
  z4 := Tryz.sizeOf4
  v4 := Tryz.zeroValue4
  t22 := Tryz.underlying49
  a22 := Tryz.isAgg49
  z22 := Tryz.sizeOf49
  v22 := Tryz.zeroValue49
  t40 := Tryz.underlying139
  a40 := Tryz.isAgg139
  z40 := Tryz.sizeOf139
  v40 := Tryz.zeroValue139 }
end Go.Proofs

/-
  What the library's Clone, Sort and BinarySearch do to rows. No statement is proved here.
-/
namespace Go.Proofs.YtnoflgkjdibblaaGreatDoor.S19
set_option linter.unusedSimpArgs false
set_option linter.unusedVariables false
set_option maxRecDepth 4096
open Go.RowKit

set_option maxHeartbeats 1000000 in
/-- slices.Clone of bytes: a row of the call's own. -/
theorem clone_bs (A : Option Addr) (n c : Nat) (xs : List UInt8) (w : World) (hr : Rd w A n c xs) (hn : n ≤ 140737488355328) :
    Calls Tryz.prog 48 #[.slice A n c] w fun e w' => ∃ A' c', e = .returned (.slice A' n c') ∧ w'.ownsRow w.heap.size 5 1 (.slice A' n c') n (bv xs) ∧ Below w.heap.size w w' := by
  have q : ∀ (w : World) (a : Option Addr) (n c n' c' : Nat), (binOp .eql 23 (.slice a n c) (.slice none n' c')).run Tryz.prog w = .ok (.bool a.isNone) w := fun w a n c n' c' => Lib.run_eql_slice_nil w _ _ a n c n' c' Tryz.underlying23
  rcases A with _ | ad
  · have hc := hr.nil rfl
    have hm : n = 0 := by have := hr.cap; omega
    subst hc hm
    obtain rfl : xs = [] := List.eq_nil_of_length_eq_zero hr.len
    go_enter Tryz.func48, Tryz.ntmps48
    go_wp2
    go_ret
    exact ⟨none, 0, rfl, ⟨rfl, .inl ⟨rfl, rfl⟩⟩, Below.refl _ _⟩
  · have R := Lib.hid hr
    have HN := Lib.hid hn
    clear hr hn
    go_enter Tryz.func48, Tryz.ntmps48
    go_wp2_with (at_builtin; refine append_rd rfl (.tmp 5) (.tmp 6) rfl w.heap.size _ 0 [] rfl (World.ownsRow_lit (base := w.heap.size) (e := 5) (size := 1) w #[] 0 (Nat.le_refl _) (by simp [maxLen]) rfl) (some ad) n c _ rfl (R.out.alloc _) (by have := HN.out; omega) (by simp) ?_; intro v5 w5 o5 g5; obtain ⟨A5, c5, rfl⟩ := own_form o5; have O5 := Lib.hid (own_n o5); have B5 := Lib.hid (((Below.refl w.heap.size w).alloc (Nat.le_refl _) _).grown g5 (by simp) (fun q hq => Nat.le_of_eq (Option.some.inj hq))); clear o5 g5)
    go_ret
    exact ⟨A5, c5, by simp, by simpa using O5.out, B5.out⟩
/-- append to a row of whole numbers. -/
theorem append_zr {w : World} {ops : Array Oper} {rest : List Oper} {o : Oper} {a : Act} {Q : Exit → Act → World → Prop} (hgd : o.guard = none) (s x : Operand)
    (ho : o.op = .call { callee := .builtin .append, args := #[s, x], argTypes := #[49, 49] })
    (base : Nat) (v : Value) (n : Nat) (xs : List Int) (hs : a.eval s = v) (hown : w.ownsRow base 3 1 v n (zv xs))
    (ad : Addr) (m c : Nat) (ys : List Int) (hx : a.eval x = .slice (some ad) m c) (hr : RI w .i64 (some ad) m c ys) (hb : n + m ≤ 2000000000000) (hbase : base ≤ w.heap.size)
    (h : ∀ v' w', w'.ownsRow base 3 1 v' (n + m) (zv (xs ++ ys)) → w.grownBy w' v.ownBlock → wpList Tryz.prog ops Q rest (a.put o.dst v') w') : wpList Tryz.prog ops Q (o :: rest) a w := by
  obtain ⟨i0, hi, hz0, hz1, hz2⟩ := info_parts Tryz.infoZ
  exact wpList_append_own w hgd s x _ ho base 3 i0 (.int .i64 0) 1 8 Tryz.underlying49 hi hz0 hz1 hz2 rfl (by omega) v n (zv xs) hs hown ad m c (zv ys) hx (by simp [zv_length, hr.len]) (news_zi hr) (zv_one _)
      (by simp only [maxLen]; omega) (by omega) hbase fun v' w' h1 h2 _ => h v' w' (by rw [zv_append]; exact h1) h2
set_option maxHeartbeats 1000000 in
/-- slices.Clone of whole numbers: a row of the call's own. -/
theorem clone_zi (A : Option Addr) (n c : Nat) (xs : List Int) (w : World) (hr : RI w .i64 A n c xs) (hn : n ≤ 1099511627776) :
    Calls Tryz.prog 42 #[.slice A n c] w fun e w' => ∃ A' c', e = .returned (.slice A' n c') ∧ w'.ownsRow w.heap.size 3 1 (.slice A' n c') n (zv xs) ∧ Below w.heap.size w w' := by
  obtain ⟨i0, hi, hz0, hz1, hz2⟩ := info_parts Tryz.infoZ
  have q : ∀ (w : World) (a : Option Addr) (n c n' c' : Nat), (binOp .eql 49 (.slice a n c) (.slice none n' c')).run Tryz.prog w = .ok (.bool a.isNone) w := fun w a n c n' c' => Lib.run_eql_slice_nil w _ _ a n c n' c' Tryz.underlying49
  rcases A with _ | ad
  · have hc := hr.nil rfl
    have hm : n = 0 := by have := hr.cap; omega
    subst hc hm
    obtain rfl : xs = [] := List.eq_nil_of_length_eq_zero hr.len
    go_enter Tryz.func42, Tryz.ntmps42
    go_wp2
    go_ret
    exact ⟨none, 0, rfl, ⟨rfl, .inl ⟨rfl, rfl⟩⟩, Below.refl _ _⟩
  · have R := Lib.hid hr
    have HN := Lib.hid hn
    clear hr hn
    go_enter Tryz.func42, Tryz.ntmps42
    go_wp2_with (at_builtin; refine append_zr rfl (.tmp 5) (.tmp 6) rfl w.heap.size _ 0 [] rfl (World.ownsRow_lit (base := w.heap.size) (e := 3) (size := 1) w #[] 0 (Nat.le_refl _) (by simp [maxLen]) rfl) ad n c _ rfl (R.out.below ((Below.refl _ _).alloc (Nat.le_refl _) _)) (by have := HN.out; omega) (by simp) ?_; intro v5 w5 o5 g5; obtain ⟨A5, c5, rfl⟩ := own_form o5; have O5 := Lib.hid o5; have B5 := Lib.hid (((Below.refl w.heap.size w).alloc (Nat.le_refl _) _).grown g5 (by simp) (fun q hq => Nat.le_of_eq (Option.some.inj hq))); clear o5 g5)
    go_ret
    exact ⟨A5, c5, by simp, by simpa using O5.out, B5.out⟩
/-- slices.BinarySearch in a row of whole numbers that is sorted. -/
theorem search_zi (A : Option Addr) (n c : Nat) (xs : List Int) (x : Int) (w : World) (hr : RI w .i64 A n c xs) (hn : n ≤ 1099511627776) (hs : xs.Pairwise (· ≤ ·)) :
    Calls Tryz.prog 114 #[.slice A n c, .int .i64 x] w fun e w' => ∃ p, e = .returned (.tuple #[.int .i64 p, .bool (decide (x ∈ xs))]) ∧ Below w.heap.size w w' := by
  rcases Nat.eq_zero_or_pos n with rfl | h0
  · obtain rfl : xs = [] := List.eq_nil_of_length_eq_zero hr.len
    have h := Any.slices_BinarySearch_int_empty Tryz.laysB25 A c x w
    exact Calls.mono h fun e w' ⟨h1, h2⟩ => ⟨0, h1.trans (by simp), by rw [h2]; exact Below.refl _ _⟩
  · obtain ⟨b, off, rfl, hb, hc⟩ := hr.at_ h0
    have hl := hr.len
    have h := Any.slices_BinarySearch_int Tryz.laysB25 b off n c xs x w (by omega) (by omega) (fun j hj => hc j (by omega)) (by rw [List.take_of_length_le (by omega)]; exact hs)
    rw [List.take_of_length_le (show xs.length ≤ n by omega)] at h
    exact Calls.mono h fun e w' ⟨h1, q, h2⟩ => ⟨((xs.countP (· < x) : Nat) : Int), h1.trans (by rw [List.contains_eq_mem]), by rw [h2]; exact below_drewN (Below.refl _ _) q⟩
def sorted (xs : List Int) : List Int := xs.mergeSort fun x y => decide (x ≤ y)
theorem sorted_mem (xs : List Int) (z : Int) : z ∈ sorted xs ↔ z ∈ xs := by simp [sorted, List.mem_mergeSort]
theorem sorted_len (xs : List Int) : (sorted xs).length = xs.length := by simp [sorted]
theorem sorted_srt (xs : List Int) : (sorted xs).Pairwise (· ≤ ·) := by
  have h := List.pairwise_mergeSort (le := fun x y : Int => decide (x ≤ y)) (fun a b c h1 h2 => by simp at h1 h2 ⊢; omega) (fun a b => by simp; omega) xs
  exact h.imp fun h => by simpa using h
/-- slices.Sort of a row of the caller's own. -/
theorem sort_zi (B : Nat) (A : Option Addr) (n c : Nat) (xs : List Int) (w : World) (ho : w.ownsRow B 3 1 (.slice A n c) n (zv xs)) (hn : n ≤ 1099511627776) (hB : B ≤ w.heap.size) :
    Calls Tryz.prog 43 #[.slice A n c] w fun e w' => e = .returned (.tuple #[]) ∧ w'.ownsRow B 3 1 (.slice A n c) n (zv (sorted xs)) ∧ w.grownBy w' (A.map (·.block)) := by
  have hl : xs.length = n := by have := ho.1; simp [zv_length] at this; exact this
  rcases Nat.eq_zero_or_pos n with rfl | h0
  · obtain rfl : xs = [] := List.eq_nil_of_length_eq_zero hl
    have h := Any.slices_Sort_int_none Tryz.lays189 A c w
    exact Calls.mono h fun e w' ⟨h1, h2⟩ => ⟨h1, by rw [h2]; simpa [sorted] using ho, by rw [h2]; exact World.grownBy.refl _ _⟩
  · rcases ho.2 with ⟨hv, h00⟩ | ⟨g, cap, cur, hv, hbase, hb, h1, h2, h3, h4⟩
    · omega
    · injection hv with e1 e2 e3
      subst e1 e3
      have hH : Sort.Holds (Value.int .i64) w g 0 xs.toArray := holds_of_blockI hb (by rw [hl]; simpa [zv] using h4)
      have h := Any.slices_Sort_int Tryz.lays189 g 0 c xs w hH (Array.getElem?_eq_some_iff.1 hb).1 (by omega)
      rw [hl] at h
      refine Calls.mono h ?_
      rintro e w' ⟨q1, k, os, rfl⟩
      refine ⟨q1, ?_, grownBy_sortedI _⟩
      have := ownsRow_sortedI (w := w) (base := B) (n := k) (os := os) (ss := xs) (ts := sorted xs) (sorted_len xs) hbase hb (by omega) h2 (by simpa using h3)
      rw [hl] at this
      exact this
end Go.Proofs.YtnoflgkjdibblaaGreatDoor.S19
