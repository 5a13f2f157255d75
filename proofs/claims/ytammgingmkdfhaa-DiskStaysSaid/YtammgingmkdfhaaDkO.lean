/-
  How arguments that came in read: whole numbers, steps on a disk. No statement is proved here.
-/
import Derived.Test.YtammgingmkdfhaaDk5
import Derived.Test.YtammgingmkdfhaaOpen
import Derived.Deep.Slices
import Derived.ChangeSame
import Derived.Lib.SmallJoins
namespace Go.Proofs.Ytammgingmkdfhaa.S19
set_option linter.unusedSimpArgs false
set_option linter.unusedVariables false
set_option maxRecDepth 4096
open Go.ChangeShapes Go.WideShapes Go.ChangeAt Go.RowKit Go.Joins

theorem ri_of_cells {w : World} {k : IntKind} {x : Addr} {len cap : Nat} {zs : List Int} (hl : len ≤ cap) (hm : cap ≤ maxLen) (hz : zs.length = cap)
    (hc : ∀ i, i < zs.length → w.cell? (x.add i) = some (.int k (zs.getD i 0))) : RI w k (some x) len cap (zs.take len) := by
  refine ⟨by simp; omega, hl, hm, (fun h => by cases h), fun hn => ?_⟩
  obtain ⟨b, off, rfl, hcell⟩ := ints_at hc (by omega)
  refine ⟨b, off, rfl, ?_, fun j hj => ?_⟩
  · have := hcell 0 (by omega)
    exact World.block_lt_of_cell? w _ this
  · rw [hcell j (by omega)]
    have hj' : j < zs.length := by omega
    simp [List.getD, hj', hj]
abbrev Rz := Option Addr × Nat × Nat × List Int
theorem open_zi {H : Type} {enc : TypeId × Value → H} {W : World} {c : Value} {x : DataW H × List MemPlace} {fuel : Nat}
    (h : DataW.trod enc Try.prog W 0 (fun _ => true) true fuel 31 [c] = some x) : ∃ y : Rz, c = .slice y.1 y.2.1 y.2.2.1 ∧ RI W .i64 y.1 y.2.1 y.2.2.1 y.2.2.2 := by
  rcases open_ints Try.underlying31 Try.underlying3 (by kernel_rfl) h with ⟨hcs, _⟩ | ⟨x, l, c, zs, hcs, _, hl, hm, hz, hD, hc2, hwz⟩
  · simp at hcs
    subst hcs
    exact ⟨(none, 0, 0, []), rfl, RI.nil_ W _⟩
  · simp at hcs
    subst hcs
    exact ⟨(some x, l, c, zs.take l), rfl, ri_of_cells hl hm (by simpa using hz) hc2⟩
/-- A row of small numbers that came in. -/
theorem open_i8s {H : Type} {enc : TypeId × Value → H} {W : World} {v : Value} {d : DataW H} {p : List MemPlace} {base : Nat}
    (hv : Value.okWide Try.prog W .any base 57 v) (h : DataW.Trod enc Try.prog W 0 (fun _ => true) true 57 v d p) :
    ∃ y : Rz, v = .slice y.1 y.2.1 y.2.2.1 ∧ RI W .i8 y.1 y.2.1 y.2.2.1 y.2.2.2 ∧ ∀ z ∈ y.2.2.2, -128 ≤ z ∧ z < 128 := by
  obtain ⟨A, len, cap, rfl⟩ := okWide_slice Try.underlying57 hv
  obtain ⟨fuel, hf⟩ := h
  rcases open_ints Try.underlying57 Try.underlying58 (by kernel_rfl) hf with ⟨hcs, _⟩ | ⟨x, l, c, zs, hcs, _, hl, hm, hz, _, hcell, hwz⟩
  · simp [Value.cells] at hcs
    obtain ⟨rfl, rfl, rfl⟩ := hcs
    exact ⟨(none, 0, 0, []), rfl, RI.nil_ W _, fun z hz => by cases hz⟩
  · simp [Value.cells] at hcs
    obtain ⟨rfl, rfl, rfl⟩ := hcs
    refine ⟨(some x, len, cap, zs.take len), rfl, ri_of_cells hl hm (by simpa using hz) hcell, fun z hz' => ?_⟩
    have hw := hwz z (List.mem_of_mem_take hz')
    have e : -128 ≤ z ∧ z ≤ 127 := by simpa [Lit.wf, IntKind.min, IntKind.max, IntKind.signed, IntKind.bits] using hw
    omega
/-- A step on a disk, as a statement hands it over. -/
structure AcV where
  kind : Int
  i : Int
  c : UInt8
  s : Bool
  ca : Option Addr
  cn : Nat
  cc : Nat
  ch : List UInt8
  fa : Option Addr
  fn : Nat
  fc : Nat
  fs : List Int
  st : Int
instance : Inhabited AcV := ⟨⟨0, 0, 0, false, none, 0, 0, [], none, 0, 0, [], 0⟩⟩
def AcV.cells (a : AcV) : List Value := [.int .i64 a.kind, .int .i64 a.i, .int .u8 (a.c.toNat : Int), .bool a.s, .slice a.ca a.cn a.cc, .slice a.fa a.fn a.fc, .int .i64 a.st]
structure AcV.Ok (W : World) (a : AcV) : Prop where
  ch : Rd W a.ca a.cn a.cc a.ch
  fs : RI W .i64 a.fa a.fn a.fc a.fs
  hi : -9223372036854775808 ≤ a.i ∧ a.i < 9223372036854775808
/-- A row of steps. -/
structure RA (W : World) (A : Option Addr) (n c : Nat) (xs : List AcV) : Prop where
  len : xs.length = n
  cap : n ≤ c
  max : c ≤ maxLen
  nil : A = none → c = 0
  at_ : 0 < n → ∃ b off, A = some ⟨b, off, none⟩ ∧ b < W.heap.size ∧ ∀ j, j < n → (xs.getD j default).Ok W ∧ ∀ q, q < 7 → W.cell? ⟨b, off + j * 7 + q, none⟩ = (xs.getD j default).cells[q]?
theorem trod_struct6 {H : Type} {enc : TypeId × Value → H} {P : Program} {w : World} {base : Nat} {spare : Nat → Bool} {held : Bool} {t : TypeId} {f0 f1 f2 f3 f4 f5 : Field} {fuel : Nat} {cs : List Value} {x : DataW H × List MemPlace} (ht : P.underlying t = some (.struct #[f0, f1, f2, f3, f4, f5])) (h : DataW.trod enc P w base spare held fuel t cs = some x) :
    ∃ y0 y1 y2 y3 y4 y5 n, cs.length = P.cellsOf t ∧ DataW.trod enc P w base spare held n f0.type ((cs.drop f0.offset).take (P.cellsOf f0.type)) = some y0 ∧
      DataW.trod enc P w base spare held n f1.type ((cs.drop f1.offset).take (P.cellsOf f1.type)) = some y1 ∧ DataW.trod enc P w base spare held n f2.type ((cs.drop f2.offset).take (P.cellsOf f2.type)) = some y2 ∧
      DataW.trod enc P w base spare held n f3.type ((cs.drop f3.offset).take (P.cellsOf f3.type)) = some y3 ∧ DataW.trod enc P w base spare held n f4.type ((cs.drop f4.offset).take (P.cellsOf f4.type)) = some y4 ∧ DataW.trod enc P w base spare held n f5.type ((cs.drop f5.offset).take (P.cellsOf f5.type)) = some y5 := by
  obtain ⟨xs, n, _, rfl, hl, hlen, hf⟩ := DataW.trod_struct ht h
  match xs, hlen with
  | [y0, y1, y2, y3, y4, y5], _ => exact ⟨y0, y1, y2, y3, y4, y5, n, hl, by simpa using hf 0 f0 rfl, by simpa using hf 1 f1 rfl, by simpa using hf 2 f2 rfl, by simpa using hf 3 f3 rfl, by simpa using hf 4 f4 rfl, by simpa using hf 5 f5 rfl⟩
theorem i64_of_trod {H : Type} {enc : TypeId × Value → H} {W : World} {n : Nat} {v : Value} {y : DataW H × List MemPlace} (h : DataW.trod enc Try.prog W 0 (fun _ => true) true n 3 [v] = some y) : ∃ z : Int, v = .int .i64 z ∧ -9223372036854775808 ≤ z ∧ z < 9223372036854775808 := by
  obtain ⟨z, e, _, hw⟩ := DataW.trod_int Try.underlying3 h
  simp at e
  have e2 : -9223372036854775808 ≤ z ∧ z ≤ 9223372036854775807 := by simpa [Lit.wf, IntKind.min, IntKind.max, IntKind.signed, IntKind.bits] using hw
  exact ⟨z, e, by omega, by omega⟩
theorem u8_of_trod {H : Type} {enc : TypeId × Value → H} {W : World} {n : Nat} {v : Value} {y : DataW H × List MemPlace} (h : DataW.trod enc Try.prog W 0 (fun _ => true) true n 5 [v] = some y) : ∃ z : UInt8, v = .int .u8 (z.toNat : Int) := by
  obtain ⟨z, e, _, hw⟩ := DataW.trod_int Try.underlying5 h
  simp at e
  have hb := bounds_u8 hw
  refine ⟨UInt8.ofNat z.toNat, ?_⟩
  rw [e]
  congr 1
  simp
  omega
theorem row_of_trod {H : Type} {enc : TypeId × Value → H} {W : World} {c : Value} {x : DataW H × List MemPlace} {fuel : Nat}
    (h : DataW.trod enc Try.prog W 0 (fun _ => true) true fuel 30 [c] = some x) : ∃ y : Option Addr × Nat × Nat × List UInt8, c = .slice y.1 y.2.1 y.2.2.1 ∧ Rd W y.1 y.2.1 y.2.2.1 y.2.2.2 := by
  rcases open_ints Try.underlying30 Try.underlying5 (by kernel_rfl) h with ⟨hcs, _⟩ | ⟨x, l, c, zs, hcs, _, hl, hm, hz, hD, hc2, hwz⟩
  · simp at hcs
    subst hcs
    exact ⟨(none, 0, 0, []), rfl, Rd.nil_ W⟩
  · simp at hcs
    subst hcs
    obtain ⟨xs, hx⟩ := rd_of_cells hl hm (by simpa using hz) hc2 hwz
    exact ⟨(some x, l, c, xs), rfl, hx⟩
/-- What a struct of seven cells that came in is. -/
theorem act_of_trod {H : Type} {enc : TypeId × Value → H} {W : World} {n : Nat} {cs : List Value} {y : DataW H × List MemPlace} (h : DataW.trod enc Try.prog W 0 (fun _ => true) true n 35 cs = some y) : ∃ a : AcV, cs = a.cells ∧ a.Ok W := by
  obtain ⟨y0, y1, y2, y3, y4, y5, m, hl, h0, h1, h2, h3, h4, h5⟩ := trod_struct6 Try.underlying35 h
  have e7 : Try.prog.cellsOf 35 = 7 := by kernel_rfl
  have ei : Try.prog.cellsOf 3 = 1 := by kernel_rfl
  have eu : Try.prog.cellsOf 5 = 1 := by kernel_rfl
  have eb : Try.prog.cellsOf 4 = 1 := by kernel_rfl
  have es : Try.prog.cellsOf 30 = 1 := by kernel_rfl
  have ez : Try.prog.cellsOf 31 = 1 := by kernel_rfl
  have ep : Try.prog.cellsOf 33 = 2 := by kernel_rfl
  rw [e7] at hl
  match cs, hl with
  | [c0, c1, c2, c3, c4, c5, c6], _ =>
    have k0 : DataW.trod enc Try.prog W 0 (fun _ => true) true m 3 [c0] = some y0 := by simpa [ei] using h0
    have k1 : DataW.trod enc Try.prog W 0 (fun _ => true) true m 3 [c1] = some y1 := by simpa [ei] using h1
    have k2 : DataW.trod enc Try.prog W 0 (fun _ => true) true m 5 [c2] = some y2 := by simpa [eu] using h2
    have k3 : DataW.trod enc Try.prog W 0 (fun _ => true) true m 4 [c3] = some y3 := by simpa [eb] using h3
    have k4 : DataW.trod enc Try.prog W 0 (fun _ => true) true m 30 [c4] = some y4 := by simpa [es] using h4
    have k5 : DataW.trod enc Try.prog W 0 (fun _ => true) true m 33 [c5, c6] = some y5 := by simpa [ep] using h5
    obtain ⟨z0, z1, m', _, _, p0, p1⟩ := trod_struct2 Try.underlying33 k5
    have q0 : DataW.trod enc Try.prog W 0 (fun _ => true) true m' 31 [c5] = some z0 := by simpa [ez] using p0
    have q1 : DataW.trod enc Try.prog W 0 (fun _ => true) true m' 3 [c6] = some z1 := by simpa [ei] using p1
    obtain ⟨v0, rfl, _⟩ := i64_of_trod k0
    obtain ⟨v1, rfl, l1⟩ := i64_of_trod k1
    obtain ⟨v2, rfl⟩ := u8_of_trod k2
    obtain ⟨v3, e3, _⟩ := DataW.trod_bool Try.underlying4 k3
    obtain ⟨v4, rfl, r4⟩ := row_of_trod k4
    obtain ⟨v5, rfl, r5⟩ := open_zi q0
    obtain ⟨v6, rfl, _⟩ := i64_of_trod q1
    simp at e3
    exact ⟨⟨v0, v1, v2, v3, v4.1, v4.2.1, v4.2.2.1, v4.2.2.2, v5.1, v5.2.1, v5.2.2.1, v5.2.2.2, v6⟩, by rw [e3]; rfl, r4, r5, l1⟩
/-- A row of steps that came in. -/
theorem open_acts {H : Type} {enc : TypeId × Value → H} {W : World} {v : Value} {d : DataW H} {p : List MemPlace} {base : Nat}
    (hv : Value.okWide Try.prog W .any base 22 v) (h : DataW.Trod enc Try.prog W 0 (fun _ => true) true 22 v d p) :
    ∃ y : Option Addr × Nat × Nat × List AcV, v = .slice y.1 y.2.1 y.2.2.1 ∧ RA W y.1 y.2.1 y.2.2.1 y.2.2.2 := by
  obtain ⟨A, len, cap, rfl⟩ := okWide_slice Try.underlying22 hv
  obtain ⟨fuel, hf⟩ := h
  rcases Go.Deep.open_slice Try.underlying22 hf with ⟨hcs, _⟩ | ⟨a, l, c, m, n, D, Pl, hcs, _, hl, hm, hmm, _, hx⟩
  · simp [Value.cells] at hcs
    obtain ⟨rfl, rfl, rfl⟩ := hcs
    exact ⟨(none, 0, 0, []), rfl, ⟨rfl, Nat.le_refl _, by simp [maxLen], fun _ => rfl, fun h => absurd h (by simp)⟩⟩
  · simp [Value.cells] at hcs
    obtain ⟨rfl, rfl, rfl⟩ := hcs
    have hmc : m = cap := by simpa using hmm
    subst hmc
    have h7 : Try.prog.cellsOf 35 = 7 := by kernel_rfl
    rw [h7] at hx
    obtain ⟨X, hX⟩ := Go.Deep.choose_lt (α := AcV) (p := fun i y => y.Ok W ∧ ∀ q, q < 7 → W.cell? ((a.add (i * 7)).add q) = y.cells[q]?) (fun i hi => by
      obtain ⟨cs', hc, ht⟩ := hx i hi
      obtain ⟨_, hlen, hat⟩ := World.cells?_some hc
      obtain ⟨y, e, hy⟩ := act_of_trod ht
      refine ⟨y, hy, fun q hq => ?_⟩
      have := hat q hq
      rw [e] at this
      exact this)
    refine ⟨(some a, len, m, (List.range len).map X), rfl, ⟨by simp, hl, hm, (fun h => by cases h), fun hn => ?_⟩⟩
    have hn' : 0 < len := hn
    obtain ⟨b, off, spot⟩ := a
    have h0 := (hX 0 (by omega)).2 0 (by omega)
    rw [Go.Deep.add_add] at h0
    have hspot : spot = none := by simpa [Addr.add] using World.cell?_spot (h0.trans (by rfl))
    subst hspot
    refine ⟨b, off, rfl, World.block_lt_of_cell? W _ (h0.trans (by rfl)), fun j hj => ?_⟩
    have hj' : j < len := hj
    have e : ((List.range len).map X).getD j default = X j := by simp [List.getD, hj']
    rw [e]
    refine ⟨(hX j (by omega)).1, fun q hq => ?_⟩
    have h1 := (hX j (by omega)).2 q hq
    rw [Go.Deep.add_add, Go.WideShapes.add_plain] at h1
    rw [Nat.add_assoc]
    exact h1
end Go.Proofs.Ytammgingmkdfhaa.S19
