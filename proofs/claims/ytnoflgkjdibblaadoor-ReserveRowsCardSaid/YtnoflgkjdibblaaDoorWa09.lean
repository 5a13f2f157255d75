/-
  Texts put together: DkO, DkH, Sl3, Cat, RPut. No statement is proved here.
-/
import Derived.Test.YtnoflgkjdibblaaDoorWa06
import Derived.Test.YtnoflgkjdibblaaDoorWa08
import Derived.Deep.Slices
import Derived.ChangeSame
import Derived.Lib.SmallJoins
import Derived.Test.YtnoflgkjdibblaaDoorWa05
import Derived.Test.YtnoflgkjdibblaaDoorWa02

/-
  How arguments that came in read: whole numbers, steps on a disk. No statement is proved here.
-/
namespace Go.Proofs.YtnoflgkjdibblaaDoor.S19
set_option linter.unusedSimpArgs false
set_option linter.unusedVariables false
set_option maxRecDepth 4096
open Go.ChangeShapes Go.WideShapes Go.ChangeAt Go.RowKit Go.Joins

theorem ri_of_cells {w : World} {k : IntKind} {x : Addr} {len cap : Nat} {zs : List Int} (hl : len ≤ cap) (hm : cap ≤ maxLen) (hz : zs.length = cap)
    (hc : ∀ i, i < zs.length → w.cell? (x.add i) = some (.int k (zs.getD i 0))) : RI w k (some x) len cap (zs.take len) := by
  refine ⟨by simp; omega, hl, hm, (fun h => by cases h), fun hn => ?_⟩
  obtain ⟨b, off, rfl, hcell⟩ := ints_at hc (by omega)
  refine ⟨b, off, rfl, ?_, fun j hj => ?_⟩
  · have := hcell 0 (by omega)
    exact World.block_lt_of_cell? w _ this
  · rw [hcell j (by omega)]
    have hj' : j < zs.length := by omega
    simp [List.getD, hj', hj]
abbrev Rz := Option Addr × Nat × Nat × List Int
theorem open_zi {H : Type} {enc : TypeId × Value → H} {W : World} {c : Value} {x : DataW H × List MemPlace} {fuel : Nat}
    (h : DataW.trod enc Tryd.prog W 0 (fun _ => true) true fuel 68 [c] = some x) : ∃ y : Rz, c = .slice y.1 y.2.1 y.2.2.1 ∧ RI W .i64 y.1 y.2.1 y.2.2.1 y.2.2.2 := by
  rcases open_ints Tryd.underlying68 Tryd.underlying3 (by kernel_rfl) h with ⟨hcs, _⟩ | ⟨x, l, c, zs, hcs, _, hl, hm, hz, hD, hc2, hwz⟩
  · simp at hcs
    subst hcs
    exact ⟨(none, 0, 0, []), rfl, RI.nil_ W _⟩
  · simp at hcs
    subst hcs
    exact ⟨(some x, l, c, zs.take l), rfl, ri_of_cells hl hm (by simpa using hz) hc2⟩
/-- A step on a disk, as a statement hands it over. -/
structure AcV where
  kind : Int
  i : Int
  c : UInt8
  s : Bool
  ca : Option Addr
  cn : Nat
  cc : Nat
  ch : List UInt8
  fa : Option Addr
  fn : Nat
  fc : Nat
  fs : List Int
  st : Int
instance : Inhabited AcV := ⟨⟨0, 0, 0, false, none, 0, 0, [], none, 0, 0, [], 0⟩⟩
def AcV.cells (a : AcV) : List Value := [.int .i64 a.kind, .int .i64 a.i, .int .u8 (a.c.toNat : Int), .bool a.s, .slice a.ca a.cn a.cc, .slice a.fa a.fn a.fc, .int .i64 a.st]
structure AcV.Ok (W : World) (a : AcV) : Prop where
  ch : Rd W a.ca a.cn a.cc a.ch
  fs : RI W .i64 a.fa a.fn a.fc a.fs
  hi : -9223372036854775808 ≤ a.i ∧ a.i < 9223372036854775808
/-- A row of steps. -/
structure RA (W : World) (A : Option Addr) (n c : Nat) (xs : List AcV) : Prop where
  len : xs.length = n
  cap : n ≤ c
  max : c ≤ maxLen
  nil : A = none → c = 0
  at_ : 0 < n → ∃ b off, A = some ⟨b, off, none⟩ ∧ b < W.heap.size ∧ ∀ j, j < n → (xs.getD j default).Ok W ∧ ∀ q, q < 7 → W.cell? ⟨b, off + j * 7 + q, none⟩ = (xs.getD j default).cells[q]?
theorem trod_struct6 {H : Type} {enc : TypeId × Value → H} {P : Program} {w : World} {base : Nat} {spare : Nat → Bool} {held : Bool} {t : TypeId} {f0 f1 f2 f3 f4 f5 : Field} {fuel : Nat} {cs : List Value} {x : DataW H × List MemPlace} (ht : P.underlying t = some (.struct #[f0, f1, f2, f3, f4, f5])) (h : DataW.trod enc P w base spare held fuel t cs = some x) :
    ∃ y0 y1 y2 y3 y4 y5 n, cs.length = P.cellsOf t ∧ DataW.trod enc P w base spare held n f0.type ((cs.drop f0.offset).take (P.cellsOf f0.type)) = some y0 ∧
      DataW.trod enc P w base spare held n f1.type ((cs.drop f1.offset).take (P.cellsOf f1.type)) = some y1 ∧ DataW.trod enc P w base spare held n f2.type ((cs.drop f2.offset).take (P.cellsOf f2.type)) = some y2 ∧
      DataW.trod enc P w base spare held n f3.type ((cs.drop f3.offset).take (P.cellsOf f3.type)) = some y3 ∧ DataW.trod enc P w base spare held n f4.type ((cs.drop f4.offset).take (P.cellsOf f4.type)) = some y4 ∧ DataW.trod enc P w base spare held n f5.type ((cs.drop f5.offset).take (P.cellsOf f5.type)) = some y5 := by
  obtain ⟨xs, n, _, rfl, hl, hlen, hf⟩ := DataW.trod_struct ht h
  match xs, hlen with
  | [y0, y1, y2, y3, y4, y5], _ => exact ⟨y0, y1, y2, y3, y4, y5, n, hl, by simpa using hf 0 f0 rfl, by simpa using hf 1 f1 rfl, by simpa using hf 2 f2 rfl, by simpa using hf 3 f3 rfl, by simpa using hf 4 f4 rfl, by simpa using hf 5 f5 rfl⟩
theorem i64_of_trod {H : Type} {enc : TypeId × Value → H} {W : World} {n : Nat} {v : Value} {y : DataW H × List MemPlace} (h : DataW.trod enc Tryd.prog W 0 (fun _ => true) true n 3 [v] = some y) : ∃ z : Int, v = .int .i64 z ∧ -9223372036854775808 ≤ z ∧ z < 9223372036854775808 := by
  obtain ⟨z, e, _, hw⟩ := DataW.trod_int Tryd.underlying3 h
  simp at e
  have e2 : -9223372036854775808 ≤ z ∧ z ≤ 9223372036854775807 := by simpa [Lit.wf, IntKind.min, IntKind.max, IntKind.signed, IntKind.bits] using hw
  exact ⟨z, e, by omega, by omega⟩
theorem u8_of_trod {H : Type} {enc : TypeId × Value → H} {W : World} {n : Nat} {v : Value} {y : DataW H × List MemPlace} (h : DataW.trod enc Tryd.prog W 0 (fun _ => true) true n 5 [v] = some y) : ∃ z : UInt8, v = .int .u8 (z.toNat : Int) := by
  obtain ⟨z, e, _, hw⟩ := DataW.trod_int Tryd.underlying5 h
  simp at e
  have hb := bounds_u8 hw
  refine ⟨UInt8.ofNat z.toNat, ?_⟩
  rw [e]
  congr 1
  simp
  omega
theorem row_of_trod {H : Type} {enc : TypeId × Value → H} {W : World} {c : Value} {x : DataW H × List MemPlace} {fuel : Nat}
    (h : DataW.trod enc Tryd.prog W 0 (fun _ => true) true fuel 25 [c] = some x) : ∃ y : Option Addr × Nat × Nat × List UInt8, c = .slice y.1 y.2.1 y.2.2.1 ∧ Rd W y.1 y.2.1 y.2.2.1 y.2.2.2 := by
  rcases open_ints Tryd.underlying25 Tryd.underlying5 (by kernel_rfl) h with ⟨hcs, _⟩ | ⟨x, l, c, zs, hcs, _, hl, hm, hz, hD, hc2, hwz⟩
  · simp at hcs
    subst hcs
    exact ⟨(none, 0, 0, []), rfl, Rd.nil_ W⟩
  · simp at hcs
    subst hcs
    obtain ⟨xs, hx⟩ := rd_of_cells hl hm (by simpa using hz) hc2 hwz
    exact ⟨(some x, l, c, xs), rfl, hx⟩
end Go.Proofs.YtnoflgkjdibblaaDoor.S19

/-
  Both disks, apart from one another; rows of rows compared. No statement is proved here.
-/
namespace Go.Proofs.YtnoflgkjdibblaaDoor.S19
set_option linter.unusedSimpArgs false
set_option linter.unusedVariables false
set_option maxRecDepth 4096
open Go.RowKit

section
variable {M : DC} {N : Nat} {w w' : World} {g h : Nat} {L L' : Value} {D D' D2 : Dk} {F F' G G' : Nat → Prop}
end
/-- A slice of rows reads so. -/
structure Rw (w : World) (A : Option Addr) (n : Nat) (xss : List (List UInt8)) : Prop where
  len : xss.length = n
  at_ : 0 < n → ∃ b off, A = some ⟨b, off, none⟩ ∧ b < w.heap.size ∧ ∀ j, j < n → ∃ A' m c', w.cell? ⟨b, off + j, none⟩ = some (.slice A' m c') ∧ Rd w A' m c' (xss.getD j [])
theorem Rw.below {w w' : World} {A : Option Addr} {n : Nat} {xss : List (List UInt8)} (r : Rw w A n xss) (hb : Below w.heap.size w w') : Rw w' A n xss :=
  ⟨r.len, fun hn => by
    obtain ⟨b, off, rfl, hl, hc⟩ := r.at_ hn
    refine ⟨b, off, rfl, Nat.lt_of_lt_of_le hl hb.size, fun j hj => ?_⟩
    obtain ⟨A', m, c', h1, h2⟩ := hc j hj
    exact ⟨A', m, c', (hb.cell (p := ⟨b, off + j, none⟩) hl).trans h1, h2.below hb⟩⟩
theorem Rs.rw {w : World} {S : Nat → Prop} {A : Option Addr} {n c : Nat} {xss : List (List UInt8)} (r : Rs w S A n c xss) : Rw w A n xss :=
  ⟨r.len, fun hn => by
    obtain ⟨b, off, rfl, hl, _, hc⟩ := r.at_ hn
    exact ⟨b, off, rfl, hl, fun j hj => by
      obtain ⟨A', m, c', h1, h2, _⟩ := hc j hj
      exact ⟨A', m, c', h1, h2⟩⟩⟩
theorem Rest.rw {N : Nat} {w : World} {h : Nat} {G : Nat → Prop} {V : RkV} {sure : List (List UInt8)} {zs : List Int} {rs : List (List UInt8)} {fails : List Int} (r : Rest N w h sure zs rs fails G V) {AS : Option Addr} {cS : Nat} (e : V.vS = .slice AS sure.length cS) : Rw w AS sure.length sure :=
  ⟨rfl, fun hn => by
    have oS := r.oS
    rw [e] at oS
    obtain ⟨b, rfl, hl, _, _⟩ := own_cellB oS hn
    refine ⟨b, 0, rfl, hl, fun j hj => ?_⟩
    obtain ⟨b', e', _, hc, _⟩ := own_cellB oS hj
    injection e' with e'
    injection e' with e'
    subst e'
    obtain ⟨A', m, c', h1, h2, _⟩ := r.rS j hj
    exact ⟨A', m, c', by rw [Nat.zero_add, hc]; exact h1, h2⟩⟩
end Go.Proofs.YtnoflgkjdibblaaDoor.S19

/-
  The document's own slots: Room, May, New. No statement is proved here.
-/
namespace Go.Proofs.YtnoflgkjdibblaaDoor.S20
set_option linter.unusedSimpArgs false
set_option linter.unusedVariables false
set_option maxRecDepth 4096
open Go.RowKit S19

/-- May there be slots? -/
def may (k : Nat) (first n : Int) : Bool := decide (1 ≤ n ∧ n ≤ 8 ∧ 0 ≤ first ∧ first + 2 * n ≤ (k : Int))
/-- What the document's own slots hold, beside their disk. -/
abbrev slA (h : Nat) (Z : Sl) (A : Option Addr) (c : Nat) : Array Value := #[.pointer (some ⟨h, 0, none⟩), .int .i64 (Z.first : Int), .int .i64 (Z.n : Int), .int .i64 Z.at_, .int .u64 (Z.num : Int), .slice A Z.b.length c]
end Go.Proofs.YtnoflgkjdibblaaDoor.S20

/-
  What octet.Cat does.
-/
namespace Go.Proofs.YtnoflgkjdibblaaDoor
set_option linter.unusedSimpArgs false
set_option linter.unusedVariables false
set_option maxRecDepth 1024
open Go.RowKit

/-- The first k rows, one behind the other; how many bytes they have. -/
def cats (xss : List (List UInt8)) (k : Nat) : List UInt8 := (xss.take k).flatten
def tot (xss : List (List UInt8)) (k : Nat) : Nat := (cats xss k).length
theorem cats_succ (xss : List (List UInt8)) (k : Nat) (hk : k < xss.length) : cats xss (k + 1) = cats xss k ++ (xss[k]?.getD []) := by
  unfold cats
  rw [List.take_succ_eq_append_getElem hk, List.getElem?_eq_getElem hk, List.flatten_append, List.flatten_singleton, Option.getD_some]
theorem cats_all (xss : List (List UInt8)) (k : Nat) (hk : xss.length = k) : cats xss k = xss.flatten := by unfold cats; rw [List.take_of_length_le (by omega)]
theorem tot_succ (xss : List (List UInt8)) (k : Nat) (hk : k < xss.length) : tot xss (k + 1) = tot xss k + (xss[k]?.getD []).length := by
  unfold tot; rw [cats_succ xss k hk, List.length_append]
theorem tot_le (xss : List (List UInt8)) (k : Nat) : tot xss k ≤ xss.flatten.length := by
  have h := congrArg List.length (congrArg List.flatten (List.take_append_drop k xss))
  rw [List.flatten_append, List.length_append] at h
  unfold tot cats
  omega

set_option maxHeartbeats 1000000 in
theorem cat_any (A : Option Addr) (n c : Nat) (xss : List (List UInt8)) (w : World) (h : RdBs w A n c xss) (ht : xss.flatten.length ≤ 140737488355328) :
    Calls Tryd.prog 35 #[.slice A n c] w (New w.heap.size w xss.flatten) := by
  obtain ⟨i0, hi, hz0, hz1, hz2⟩ := info_parts Tryd.infoU8
  have l1 : n ≤ maxLen := Nat.le_trans h.cap h.max
  unfold maxLen at l1
  go_enter Tryd.func35, Tryd.ntmps35
  go_wp2
  go_loop [3, 11] (fun s i => ∃ k : Nat, k ≤ n ∧ i = .int .i64 (k : Int) ∧ s = .int .i64 (tot xss k : Nat)) (fun _ i => n - (intOf i).toNat)
  case atStart => exact ⟨0, Nat.zero_le _, rfl, rfl⟩
  case round =>
    obtain ⟨k, hk, rfl, rfl⟩ := hrel
    by_cases hlt : k < n
    · obtain ⟨b, off, rfl, hb, hcell⟩ := h.at_ (by omega)
      obtain ⟨A', n', c', hc, hr⟩ := hcell k hlt
      have e1 := tot_succ xss k (by have := h.len; omega)
      have e2 := tot_le xss (k + 1)
      have e3 : tot xss k + n' ≤ 140737488355328 := by rw [hr.len] at e1; omega
      have E := Lib.hid e1
      have El := Lib.hid hr.len
      clear hcell e1 e2 hr
      go_wp2
      go_round
      case rel => exact ⟨k + 1, by omega, by go_num, by rw [E.out, El.out]; go_num⟩
      case measure => simp [intOf]; omega
    · obtain rfl : k = n := by omega
      obtain ⟨T, hT⟩ : ∃ T, T = tot xss k := ⟨_, rfl⟩
      rw [← hT]
      have ht' : T ≤ 140737488355328 := by have := tot_le xss k; omega
      have HT := Lib.hid hT
      clear hT
      go_wp2_with (at_make; refine wpList_make_own _ rfl _ _ 25 rfl w.heap.size 5 i0 (.int .u8 0) 1 Tryd.underlying25 hi hz0 hz1 _ _ _ T rfl rfl (by omega) (by rw [hz2]; omega) (by unfold maxLen; omega) (Nat.le_refl _) ?_)
      intro w0 hown0 hgrow0
      have hb0 : Below w.heap.size w w0 := (Below.refl _ _).grown hgrow0 (Nat.le_refl _) (fun k h => by cases h)
      clear hgrow0
      go_wp2
      go_loopw [6, 24] (fun out i wr => ∃ j m : Nat, j ≤ k ∧ i = .int .i64 (j : Int) ∧ wr.ownsRow w.heap.size 5 1 out m (bv (cats xss j)) ∧ Below w.heap.size w wr) (fun _ i _ => k - (intOf i).toNat)
      case atStart => exact ⟨0, 0, Nat.zero_le _, rfl, by simpa [bv, cats] using hown0, hb0⟩
      case round =>
        obtain ⟨j, m, hj, rfl, hown, hbel⟩ := hrel
        by_cases hlt : j < k
        · obtain ⟨b, off, rfl, hb, hcell⟩ := (h.below hbel).at_ (by omega)
          obtain ⟨A', n', c', hc, hr⟩ := hcell j hlt
          have e1 := cats_succ xss j (by have := h.len; omega)
          have e2 := tot_le xss (j + 1)
          have hm := own_len hown
          have e3 : m + n' ≤ 140737488355328 := by unfold tot at e2; rw [e1, List.length_append, hr.len] at e2; omega
          have E := Lib.hid e1
          clear hcell e1 e2 hm
          go_wp2_with (at_builtin; refine append_rd rfl _ _ rfl w.heap.size _ m _ rfl hown A' n' c' _ rfl hr e3 hbel.size ?_; intro v' w1 hown1 hg1)
          go_roundw
          case rel => exact ⟨j + 1, m + n', by omega, by go_num, by rw [E.out]; exact hown1, hbel.grown hg1 hbel.size (fun g hg => (hown.lt g hg).1)⟩
          case measure => simp [intOf]; omega
        · obtain rfl : j = k := by omega
          have e := cats_all xss j h.len
          rw [e] at hown
          clear e
          go_wp2
          go_ret
          exact New.mk hown hbel
/-- Three rows that are written out. -/
theorem RdBs.built3 (w : World) (T : TypeId) {A A' A'' : Option Addr} {n c n' c' n'' c'' : Nat} {xs ys zs : List UInt8} (h : Rd w A n c xs) (h' : Rd w A' n' c' ys) (h'' : Rd w A'' n'' c'' zs) :
    RdBs (w.alloc (.cells #[.slice A n c, .slice A' n' c', .slice A'' n'' c''] T)) (some ⟨w.heap.size, 0, none⟩) 3 3 [xs, ys, zs] :=
  RdBs.built w _ T [xs, ys, zs] (by simp [maxLen]) fun j hj => by
    match j, hj with
    | 0, _ => exact ⟨A, n, c, rfl, h⟩
    | 1, _ => exact ⟨A', n', c', rfl, h'⟩
    | 2, _ => exact ⟨A'', n'', c'', rfl, h''⟩
end Go.Proofs.YtnoflgkjdibblaaDoor

/-
  What the document's own Put and Cat do, of layer 1; append, and where what is appended lies. No statement is proved here.
-/
namespace Go.Proofs.YtnoflgkjdibblaaDoor
set_option linter.unusedSimpArgs false
set_option linter.unusedVariables false
set_option maxRecDepth 1024
open Go.RowKit

/-- append; where the new row lies. -/
theorem append_rdA {w : World} {ops : Array Oper} {rest : List Oper} {o : Oper} {a : Act} {Q : Exit → Act → World → Prop} (hgd : o.guard = none) (s x : Operand)
    (ho : o.op = .call { callee := .builtin .append, args := #[s, x], argTypes := #[25, 25] })
    (base : Nat) (v : Value) (n : Nat) (xs : List UInt8) (hs : a.eval s = v) (hown : w.ownsRow base 5 1 v n (bv xs))
    (A : Option Addr) (m c : Nat) (ys : List UInt8) (hx : a.eval x = .slice A m c) (hr : Rd w A m c ys) (hb : n + m ≤ 140737488355328) (hbase : base ≤ w.heap.size)
    (h : ∀ v' w', w'.ownsRow base 5 1 v' (n + m) (bv (xs ++ ys)) → w.grownBy w' v.ownBlock → (v'.ownBlock = v.ownBlock ∨ v'.ownBlock = some w.heap.size) → wpList Tryd.prog ops Q rest (a.put o.dst v') w') :
    wpList Tryd.prog ops Q (o :: rest) a w :=
  wpList_plain hgd fun K hK => by
    have := step_append_rd (ops := ops) (o := o) (a := a) (K := K) (Q := Q) (E := True) (by simp [Region.wanted, hgd]) s x ho base v n xs hs hown A m c ys hx hr hb hbase (fun v' w' h1 h2 h3 => hK _ _ (h v' w' h1 h2 h3))
    rwa [if_pos (by simp [Region.wanted, hgd])] at this
/-- append where it is guarded. -/
theorem append_zz {w : World} {ops : Array Oper} {rest : List Oper} {o : Oper} {a : Act} {Q : Exit → Act → World → Prop} (hw : Region.wanted o (yielded ops a.tmps) = true) (s x : Operand)
    (ho : o.op = .call { callee := .builtin .append, args := #[s, x], argTypes := #[25, 25] })
    (base : Nat) (v : Value) (n : Nat) (xs : List UInt8) (hs : a.eval s = v) (hown : w.ownsRow base 5 1 v n (bv xs))
    (A : Option Addr) (m c : Nat) (ys : List UInt8) (hx : a.eval x = .slice A m c) (hr : Rd w A m c ys) (hb : n + m ≤ 140737488355328) (hbase : base ≤ w.heap.size)
    (h : ∀ v' w', w'.ownsRow base 5 1 v' (n + m) (bv (xs ++ ys)) → w.grownBy w' v.ownBlock → wpList Tryd.prog ops Q rest (a.put o.dst v') w') :
    wpList Tryd.prog ops Q (o :: rest) a w := by
  unfold wpList
  rw [if_pos hw]
  left
  have := step_append_rd (ops := ops) (o := o) (a := a) (K := wpList Tryd.prog ops Q rest) (Q := Q) (E := True) hw s x ho base v n xs hs hown A m c ys hx hr hb hbase (fun v' w' h1 h2 _ => h v' w' h1 h2)
  rwa [if_pos hw] at this
theorem own_apart {w w' : World} {B e size n : Nat} {v : Value} {xs : List Value} {row : Option Nat} (h : w.ownsRow B e size v n xs) (hg : w.grownBy w' row) (hb : ∀ g, v.ownBlock = some g → row ≠ some g) : w'.ownsRow B e size v n xs := by
  refine ⟨h.1, ?_⟩
  rcases h.2 with h | ⟨g, cap, cur, h1, h2, h3, h4⟩
  · exact .inl h
  · refine .inr ⟨g, cap, cur, h1, h2, ?_, h4⟩
    have hlt : g < w.heap.size := by
      rcases Nat.lt_or_ge g w.heap.size with h | h
      · exact h
      · rw [Array.getElem?_eq_none h] at h3; cases h3
    rw [hg.block g hlt (fun e => hb g (by rw [h1]; rfl) e.symm)]
    exact h3
theorem own_byte (w : World) (B q : Nat) (hB : B ≤ w.heap.size) :
    (w.alloc (.cells #[.int .u8 ((q : Int) % 256)] 5)).ownsRow B 5 1 (.slice (some ⟨w.heap.size, 0, none⟩) 1 1) 1 (bv [UInt8.ofNat q]) := by
  have := own_lit_u8 w B [UInt8.ofNat q] hB (by simp [maxLen])
  simpa [bv] using this
theorem rput_next (V k : Nat) (hV : V < 18446744073709551616) : Value.int .u64 (IntKind.u64.wrap (((V / 256 ^ k : Nat) : Int) / 256)) = .int .u64 ((V / 256 ^ (k + 1) : Nat) : Int) := by
  have h := Nat.div_le_self V (256 ^ k)
  rw [Nat.pow_succ, ← Nat.div_div_eq_div_mul, IntKind.wrap_u64]
  generalize V / 256 ^ k = q at h ⊢
  congr 1
  omega
theorem putL_succ (V k q : Nat) (hq : q = V / 256 ^ k) : putL V (k + 1) = [UInt8.ofNat q] ++ putL V k := by rw [hq]; rfl
set_option maxHeartbeats 1000000 in
theorem rput_any (V n : Nat) (w : World) (hn : n ≤ 8) (hV : V < 18446744073709551616) :
    Calls Tryd.prog 26 #[.int .u64 (V : Int), .int .i64 (n : Int)] w (New w.heap.size w (putL V n)) := by
  go_enter Tryd.func26, Tryd.ntmps26
  go_wp2
  go_loopw [0, 5, 6] (fun v out i wr => ∃ k : Nat, k ≤ n ∧ i = .int .i64 (k : Int) ∧ v = .int .u64 ((V / 256 ^ k : Nat) : Int) ∧ wr.ownsRow w.heap.size 5 1 out k (bv (putL V k)) ∧ Below w.heap.size w wr)
    (fun _ _ i _ => n - (intOf i).toNat)
  case atStart =>
    refine ⟨0, Nat.zero_le _, rfl, by simp, ?_, (Below.refl _ _).alloc (Nat.le_refl _) _⟩
    exact own_lit_u8 w w.heap.size [] (Nat.le_refl _) (by simp)
  case round =>
    obtain ⟨k, hk, rfl, rfl, hown, hbel⟩ := hrel
    by_cases hlt : k < n
    · obtain ⟨A', c', rfl⟩ := own_form hown
      have hr := Rd.own hown
      have hsz := hbel.size
      obtain ⟨q, hq⟩ : ∃ q, q = V / 256 ^ k := ⟨_, rfl⟩
      have HQ := Lib.hid hq
      rw [← hq]
      clear hq
      have hlit := own_byte wr w.heap.size q hsz
      have hb1 : Below w.heap.size w (wr.alloc (.cells #[.int .u8 ((q : Int) % 256)] 5)) := hbel.alloc hsz _
      go_wp2_with (at_builtin; refine append_rd rfl _ _ rfl w.heap.size _ 1 _ rfl hlit A' k c' _ rfl (hr.alloc _) (by omega) hb1.size ?_; intro v' w1 hown1 hg1)
      go_roundw
      case rel =>
        exact ⟨k + 1, by omega, by go_num, by rw [HQ.out]; exact rput_next V k hV, by rw [putL_succ V k q HQ.out, Nat.add_comm k 1]; exact hown1, hb1.grown hg1 hb1.size (fun g hg => (hlit.lt g hg).1)⟩
      case measure => simp [intOf]; omega
    · obtain rfl : k = n := by omega
      go_wp2
      go_ret
      exact New.mk hown hbel
theorem rcat_any (A : Option Addr) (n c : Nat) (xss : List (List UInt8)) (w : World) (h : RdBs w A n c xss) (ht : xss.flatten.length ≤ 140737488355328) :
    Calls Tryd.prog 25 #[.slice A n c] w (New w.heap.size w xss.flatten) := by
  have l1 : n ≤ maxLen := Nat.le_trans h.cap h.max
  unfold maxLen at l1
  go_enter Tryd.func25, Tryd.ntmps25
  go_wp2
  go_loopw [3, 4] (fun out i wr => ∃ j m : Nat, j ≤ n ∧ i = .int .i64 (j : Int) ∧ wr.ownsRow w.heap.size 5 1 out m (bv (cats xss j)) ∧ Below w.heap.size w wr) (fun _ i _ => n - (intOf i).toNat)
  case atStart => exact ⟨0, 0, Nat.zero_le _, rfl, by simpa [bv, cats] using World.ownsRow_nil _ _ _ _, Below.refl _ _⟩
  case round =>
    obtain ⟨j, m, hj, rfl, hown, hbel⟩ := hrel
    by_cases hlt : j < n
    · obtain ⟨b, off, rfl, hb, hcell⟩ := (h.below hbel).at_ (by omega)
      obtain ⟨A', n', c', hc, hr⟩ := hcell j hlt
      have e1 := cats_succ xss j (by have := h.len; omega)
      have e2 := tot_le xss (j + 1)
      have hm := own_len hown
      have e3 : m + n' ≤ 140737488355328 := by unfold tot at e2; rw [e1, List.length_append, hr.len] at e2; omega
      have E := Lib.hid e1
      clear hcell e1 e2 hm
      go_wp2_with (at_builtin; refine append_rd rfl _ _ rfl w.heap.size _ m _ rfl hown A' n' c' _ rfl hr e3 hbel.size ?_; intro v' w1 hown1 hg1)
      go_roundw
      case rel => exact ⟨j + 1, m + n', by omega, by go_num, by rw [E.out]; exact hown1, hbel.grown hg1 hbel.size (fun g hg => (hown.lt g hg).1)⟩
      case measure => simp [intOf]; omega
    · obtain rfl : j = n := by omega
      have e := cats_all xss j h.len
      rw [e] at hown
      clear e
      go_wp2
      go_ret
      exact New.mk hown hbel
end Go.Proofs.YtnoflgkjdibblaaDoor
