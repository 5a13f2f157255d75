/-
  Texts put together: XmO, OpenA, Open, WpO, XmV, YfX, ArrX. No statement is proved here.
-/
import Derived.Test.YtkpfppiedadmbaaGreatDoorWo43
import Derived.Test.YtkpfppiedadmbaaGreatDoorWo37
import Derived.Test.YtkpfppiedadmbaaGreatDoorRows
import Derived.ProofKit
import Derived.OpenShut
import Derived.ShutString
import Derived.ChangeOld
import Derived.Below
import Derived.Test.YtkpfppiedadmbaaGreatDoorWo01
import Derived.Test.YtkpfppiedadmbaaGreatDoorWo02
import Derived.Test.YtkpfppiedadmbaaGreatDoorWo40
import Derived.Lib.SmallJoins
import Derived.Test.YtkpfppiedadmbaaGreatDoorWo16
import Derived.Test.YtkpfppiedadmbaaGreatDoorWo41
import Derived.Test.YtkpfppiedadmbaaGreatDoorWo08
import Derived.Lib.LaidU8
import Derived.Lay
import Derived.SevenTiedAt
import Derived.Test.YtkpfppiedadmbaaGreatDoorTie

/-
  What the landed package xmss does: the structure's contracts. No statement is proved here.
-/
namespace Go.Proofs.YtkpfppiedadmbaaGreatDoor.S16
set_option linter.unusedSimpArgs false
set_option linter.unusedVariables false
set_option maxRecDepth 1024
open Go.RowKit S15

theorem sign16_any (L H : Int) (As : Option Addr) (ns cs : Nat) (sec : List UInt8) (Al : Option Addr) (nl cl : Nat) (salt : List UInt8) (Ae : Option Addr) (ne ce : Nat) (sd : List UInt8) (n : Nat) (At : Option Addr) (nt ct : Nat) (text : List UInt8) (w : World) (hk : GK w) (hs : Rd w As ns cs sec) (hl : Rd w Al nl cl salt) (he : Rd w Ae ne ce sd) (ht : Rd w At nt ct text) :
    Calls Tryz.prog 7 #[.agg (shA L H), .agg (mkA As ns cs Al nl cl Ae ne ce), .int .u64 (n : Int), .slice At nt ct] w (GivesS w (sigX L H sec salt sd n text) (codeX L H sec salt sd n text)) := by
  unfold sigX codeX
  rw [hs.len, hl.len, he.len, ht.len]
  by_cases h : madeX L H ns nl ne = true
  · by_cases h9 : nt ≤ 65536
    · obtain ⟨hx, h6, rfl, rfl, rfl⟩ := madeX_iff.1 h
      obtain ⟨l, k, rfl, rfl, h1, h2, h3, h4, h5⟩ := mayX_nat hx
      by_cases hn : n < totN l k
      · rw [if_pos ⟨h, h9, hn⟩, if_pos ⟨h, h9⟩, if_pos (show n < totN ((l : Int)).toNat ((k : Int)).toNat from hn)]
        exact sign_may16 sec salt sd l k As cs Al cl Ae ce n At nt ct text w hk hs hl he ht h h1 h2 h3 h4 h5 (by omega) h9 hn
      · rw [if_neg fun c => hn c.2.2, if_pos ⟨h, h9⟩, if_neg (show ¬ n < totN ((l : Int)).toNat ((k : Int)).toNat from hn)]
        exact sign_out l k As cs Al cl Ae ce n At nt ct w h h9 (by omega)
    · rw [if_neg fun c => h9 c.2.1, if_neg fun c => h9 c.2]
      exact sign_arg L H As ns cs Al nl cl Ae ne ce n At nt ct w (.inr (by omega))
  · rw [if_neg fun c => h c.1, if_neg fun c => h c.1]
    exact sign_arg L H As ns cs Al nl cl Ae ne ce n At nt ct w (.inl (by simpa using h))
/-- The landed package's contracts, where its tables hold what the text lays. -/
noncomputable def X0 : XC where
  ok := GK
  bel := fun h hb => h.bel hb
  may := fun L H w _ => may16_any L H w
  total := fun L H w _ => tot_any L H w
  size := fun L H w _ => size_any L H w
  root := fun L H As ns cs sec Al nl cl salt Ae ne ce sd ly tr w hk hs hl he h1 h2 => root16_any L H As ns cs sec Al nl cl salt Ae ne ce sd ly tr w hk hs hl he h1 h2
  pub := fun L H As ns cs sec Al nl cl salt Ae ne ce sd w hk hs hl he => pub16_any L H As ns cs sec Al nl cl salt Ae ne ce sd w hk hs hl he
  sign := fun L H As ns cs sec Al nl cl salt Ae ne ce sd n At nt ct text w hk hs hl he _ ht => sign16_any L H As ns cs sec Al nl cl salt Ae ne ce sd n At nt ct text w hk hs hl he ht
  fits := fun L H Ap np cp pub At nt ct text Ag ng cg sig w hk hp ht hg => fits_any L H Ap np cp pub At nt ct text Ag ng cg sig w hk hp ht hg
end Go.Proofs.YtkpfppiedadmbaaGreatDoor.S16

/-
  How an argument that came in reads: an array of numbers.
-/
namespace Go.Proofs.YtkpfppiedadmbaaGreatDoor
set_option linter.unusedSimpArgs false
set_option linter.unusedVariables false
open Go.ChangeShapes Go.WideShapes Go.ChangeAt Go.RowKit

theorem okWide_array {P : Program} {w : World} {r : Reach} {base : Nat} {t e : TypeId} {n : Nat} {v : Value} (ht : P.underlying t = some (.array n e)) (h : Value.okWide P w r base t v) : ∃ cs, v = .agg cs ∧ cs.size = P.cellsOf t := by
  simp only [Value.okWide, ht] at h
  obtain ⟨cs, h1, h2, _⟩ := h
  exact ⟨cs, h1, h2⟩
def numOf (v : Value) : Int := match v with
  | .int _ z => z
  | _ => 0
theorem open_array {H : Type} {enc : TypeId × Value → H} {P : Program} {W : World} {v : Value} {d : DataW H} {p : List MemPlace} {base b : Nat} {sp : Nat → Bool} {held : Bool} {t e : TypeId} {n : Nat} {k : IntKind} {r : Reach}
    (ht : P.underlying t = some (.array n e)) (he : P.underlying e = some (.int k)) (hce : P.cellsOf e = 1) (hct : P.cellsOf t = n)
    (hv : Value.okWide P W r base t v) (h : DataW.Trod enc P W b sp held t v d p) :
    ∃ zs : List Int, zs.length = n ∧ v = .agg (zs.map fun z => Value.int k z).toArray ∧ ∀ z ∈ zs, (Lit.int k z).wf = true := by
  obtain ⟨cs, rfl, hs⟩ := okWide_array ht hv
  obtain ⟨fuel, hf⟩ := h
  obtain ⟨xs, m, _, _, hl, hxl, hall⟩ := DataW.trod_array ht hf
  have hcs : ((Value.agg cs).cells).toList = cs.toList := rfl
  rw [hcs] at hl hall
  have one : ∀ i, i < n → ∃ z, cs.toList[i]? = some (.int k z) ∧ (Lit.int k z).wf = true := fun i hi => by
    have h1 := hall i hi
    rw [hce, Nat.mul_one, List.getElem?_eq_getElem (by omega)] at h1
    obtain ⟨z, hz, _, wz⟩ := DataW.trod_int he h1
    refine ⟨z, ?_, wz⟩
    have := congrArg (·[0]?) hz
    simpa [List.getElem?_take, List.getElem?_drop] using this
  have hlen : cs.toList.length = n := by rw [hl, hct]
  refine ⟨cs.toList.map numOf, by simpa using hlen, ?_, fun z hz => ?_⟩
  · congr 1
    have : cs.toList = (cs.toList.map numOf).map fun z => Value.int k z := by
      apply List.ext_getElem?
      intro i
      by_cases hi : i < n
      · obtain ⟨z, h1, _⟩ := one i hi
        simp only [List.getElem?_map, h1, Option.map_some, numOf]
      · rw [List.getElem?_eq_none (by omega), List.getElem?_eq_none (by simp only [List.length_map]; omega)]
    rw [← this]
  · obtain ⟨v, hv, rfl⟩ := List.mem_map.1 hz
    obtain ⟨i, hi, hiv⟩ := List.getElem_of_mem hv
    obtain ⟨z, h1, h2⟩ := one i (by omega)
    rw [List.getElem?_eq_getElem hi, hiv] at h1
    injection h1 with h1
    subst h1
    exact h2
theorem own_ : ownKnob Tryz.prog.godebug = none := by kernel_rfl
theorem laid_ : laidOutB Tryz.prog = true := by kernel_rfl
theorem places_lt {H : Type} {enc : TypeId × Value → H} {W : World} {t : TypeId} {v : Value} {d : DataW H} {p : List MemPlace}
    (h : DataW.Trod enc Tryz.prog W 0 (fun _ => true) true t v d p) : ∀ x ∈ p, x.block < W.heap.size := by
  obtain ⟨m, hm⟩ := h
  exact DataW.trod_lt m _ _ _ hm
end Go.Proofs.YtkpfppiedadmbaaGreatDoor

/-
  How an argument that came in reads: a row of bytes.
-/
namespace Go.Proofs.YtkpfppiedadmbaaGreatDoor
set_option linter.unusedSimpArgs false
set_option linter.unusedVariables false
set_option maxRecDepth 4096
open Go.ChangeShapes Go.WideShapes Go.ChangeAt Go.RowKit

theorem rd_of_cells {w : World} {x : Addr} {len cap : Nat} {zs : List Int} (hl : len ≤ cap) (hm : cap ≤ maxLen) (hz : zs.length = cap)
    (hc : ∀ i, i < zs.length → w.cell? (x.add i) = some (.int .u8 (zs.getD i 0))) (hwf : ∀ n ∈ zs, (Lit.int .u8 n).wf = true) : ∃ xs, Rd w (some x) len cap xs := by
  refine ⟨(zs.take len).map fun z => UInt8.ofNat z.toNat, by simp; omega, hl, hm, (fun h => by cases h), fun hn => ?_⟩
  obtain ⟨b, off, rfl, hcell⟩ := ints_at hc (by omega)
  refine ⟨b, off, rfl, ?_, fun j hj => ?_⟩
  · have := hcell 0 (by omega)
    exact World.block_lt_of_cell? w _ this
  · rw [hcell j (by omega)]
    have hj' : j < zs.length := by omega
    have hw := hwf zs[j] (List.getElem_mem hj')
    have hb := bounds_u8 hw
    simp only [List.getD_eq_getElem?_getD, List.getElem?_eq_getElem hj', List.getElem?_map, List.getElem?_take, if_pos hj, Option.map_some, Option.getD_some, UInt8.toNat_ofNat']
    congr 2
    omega

/-- A slice of bytes that came in: its value, and how it reads. -/
theorem open_bytes {H : Type} {enc : TypeId × Value → H} {W : World} {v : Value} {d : DataW H} {p : List MemPlace} {base : Nat}
    (hv : Value.okWide Tryz.prog W .any base 24 v) (h : DataW.Trod enc Tryz.prog W 0 (fun _ => true) true 24 v d p) :
    ∃ (A : Option Addr) (len cap : Nat) (xs : List UInt8), v = .slice A len cap ∧ Rd W A len cap xs := by
  obtain ⟨A, len, cap, rfl⟩ := okWide_slice Tryz.underlying24 hv
  obtain ⟨fuel, hf⟩ := h
  rcases open_ints Tryz.underlying24 Tryz.underlying5 (by kernel_rfl) hf with ⟨hcs, _⟩ | ⟨x, l, c, zs, hcs, _, hl, hm, hz, _, hcell, hwz⟩
  · simp [Value.cells] at hcs
    obtain ⟨rfl, rfl, rfl⟩ := hcs
    exact ⟨none, 0, 0, [], rfl, Rd.nil_ W⟩
  · simp [Value.cells] at hcs
    obtain ⟨rfl, rfl, rfl⟩ := hcs
    obtain ⟨xs, hx⟩ := rd_of_cells hl hm (by simpa using hz) hcell hwz
    exact ⟨_, _, _, xs, rfl, hx⟩
end Go.Proofs.YtkpfppiedadmbaaGreatDoor

/-
  How arguments that came in read: secrets; a leaf and a sum. No statement is proved here.
-/
namespace Go.Proofs.YtkpfppiedadmbaaGreatDoor.S15
set_option linter.unusedSimpArgs false
set_option linter.unusedVariables false
set_option maxRecDepth 4096
open Go.ChangeShapes Go.WideShapes Go.ChangeAt Go.RowKit Go.Joins

/-- A row of bytes, as it reads. -/
abbrev Rw := Option Addr × Nat × Nat × List UInt8
theorem open_row1 {H : Type} {enc : TypeId × Value → H} {W : World} {c : Value} {x : DataW H × List MemPlace} {fuel : Nat}
    (h : DataW.trod enc Tryz.prog W 0 (fun _ => true) true fuel 24 [c] = some x) : ∃ y : Rw, c = .slice y.1 y.2.1 y.2.2.1 ∧ Rd W y.1 y.2.1 y.2.2.1 y.2.2.2 := by
  rcases open_ints Tryz.underlying24 Tryz.underlying5 (by kernel_rfl) h with ⟨hcs, _⟩ | ⟨x, l, c, zs, hcs, _, hl, hm, hz, hD, hc2, hwz⟩
  · simp at hcs
    subst hcs
    exact ⟨(none, 0, 0, []), rfl, Rd.nil_ W⟩
  · simp at hcs
    subst hcs
    obtain ⟨xs, hx⟩ := rd_of_cells hl hm (by simpa using hz) hc2 hwz
    exact ⟨(some x, l, c, xs), rfl, hx⟩
theorem open_u32 {H : Type} {enc : TypeId × Value → H} {W : World} {c : Value} {x : DataW H × List MemPlace} {fuel : Nat}
    (h : DataW.trod enc Tryz.prog W 0 (fun _ => true) true fuel 35 [c] = some x) : ∃ z : Nat, c = .int .u32 (z : Int) ∧ z < 4294967296 := by
  obtain ⟨z, e, _, hw⟩ := DataW.trod_int Tryz.underlying35 h
  have hw' : 0 ≤ z ∧ z ≤ 4294967295 := by simpa [Lit.wf, IntKind.min, IntKind.max, IntKind.signed, IntKind.bits] using hw
  obtain ⟨Z, rfl⟩ := Int.eq_ofNat_of_zero_le hw'.1
  simp at e
  exact ⟨Z, e, by omega⟩
theorem open_u64 {H : Type} {enc : TypeId × Value → H} {W : World} {c : Value} {x : DataW H × List MemPlace} {fuel : Nat}
    (h : DataW.trod enc Tryz.prog W 0 (fun _ => true) true fuel 27 [c] = some x) : ∃ z : Nat, c = .int .u64 (z : Int) ∧ z < 18446744073709551616 := by
  obtain ⟨z, e, _, hw⟩ := DataW.trod_int Tryz.underlying27 h
  have hw' : 0 ≤ z ∧ z ≤ 18446744073709551615 := by simpa [Lit.wf, IntKind.min, IntKind.max, IntKind.signed, IntKind.bits] using hw
  obtain ⟨Z, rfl⟩ := Int.eq_ofNat_of_zero_le hw'.1
  simp at e
  exact ⟨Z, e, by omega⟩
/-- Secrets that came in. -/
theorem open_masked {H : Type} {enc : TypeId × Value → H} {W : World} {v : Value} {d : DataW H} {p : List MemPlace} {base : Nat}
    (hv : Value.okWide Tryz.prog W .any base 26 v) (h : DataW.Trod enc Tryz.prog W 0 (fun _ => true) true 26 v d p) :
    ∃ y : Rw × Rw × Rw, v = .agg (mkA y.1.1 y.1.2.1 y.1.2.2.1 y.2.1.1 y.2.1.2.1 y.2.1.2.2.1 y.2.2.1 y.2.2.2.1 y.2.2.2.2.1) ∧ Rd W y.1.1 y.1.2.1 y.1.2.2.1 y.1.2.2.2 ∧ Rd W y.2.1.1 y.2.1.2.1 y.2.1.2.2.1 y.2.1.2.2.2 ∧ Rd W y.2.2.1 y.2.2.2.1 y.2.2.2.2.1 y.2.2.2.2.2 := by
  obtain ⟨c0, c1, c2, y0, y1, y2, m, rfl, _, _, hy0, hy1, hy2⟩ := open_agg3 Tryz.underlying26 (by kernel_rfl) (by kernel_rfl) hv h
  obtain ⟨r0, rfl, h0⟩ := open_row1 hy0
  obtain ⟨r1, rfl, h1⟩ := open_row1 hy1
  obtain ⟨r2, rfl, h2⟩ := open_row1 hy2
  exact ⟨(r0, r1, r2), rfl, h0, h1, h2⟩
end Go.Proofs.YtkpfppiedadmbaaGreatDoor.S15

/-
  How arguments that came in read: a shape, an index and a text, a text and a signature. No statement is proved here.
-/
namespace Go.Proofs.YtkpfppiedadmbaaGreatDoor.S16
set_option linter.unusedSimpArgs false
set_option linter.unusedVariables false
set_option maxRecDepth 4096
open Go.ChangeShapes Go.WideShapes Go.ChangeAt Go.RowKit Go.Joins S15

theorem open_i64 {H : Type} {enc : TypeId × Value → H} {W : World} {c : Value} {x : DataW H × List MemPlace} {fuel : Nat}
    (h : DataW.trod enc Tryz.prog W 0 (fun _ => true) true fuel 3 [c] = some x) : ∃ z : Int, c = .int .i64 z := by
  obtain ⟨z, e, _, hw⟩ := DataW.trod_int Tryz.underlying3 h
  simp at e
  exact ⟨z, e⟩
/-- A shape that came in. -/
theorem open_shape {H : Type} {enc : TypeId × Value → H} {W : World} {v : Value} {d : DataW H} {p : List MemPlace} {base : Nat}
    (hv : Value.okWide Tryz.prog W .any base 23 v) (h : DataW.Trod enc Tryz.prog W 0 (fun _ => true) true 23 v d p) :
    ∃ y : Int × Int, v = .agg (shA y.1 y.2) := by
  obtain ⟨c0, c1, y0, y1, m, rfl, _, _, hy0, hy1⟩ := open_agg2 Tryz.underlying23 (by kernel_rfl) (by kernel_rfl) hv h
  obtain ⟨z0, rfl⟩ := open_i64 hy0
  obtain ⟨z1, rfl⟩ := open_i64 hy1
  exact ⟨(z0, z1), rfl⟩
/-- An index and a text that came in. -/
theorem open_told {H : Type} {enc : TypeId × Value → H} {W : World} {v : Value} {d : DataW H} {p : List MemPlace} {base : Nat}
    (hv : Value.okWide Tryz.prog W .any base 29 v) (h : DataW.Trod enc Tryz.prog W 0 (fun _ => true) true 29 v d p) :
    ∃ y : Nat × Rw, v = .agg #[.int .u64 (y.1 : Int), .slice y.2.1 y.2.2.1 y.2.2.2.1] ∧ y.1 < 18446744073709551616 ∧ Rd W y.2.1 y.2.2.1 y.2.2.2.1 y.2.2.2.2 := by
  obtain ⟨c0, c1, y0, y1, m, rfl, _, _, hy0, hy1⟩ := open_agg2 Tryz.underlying29 (by kernel_rfl) (by kernel_rfl) hv h
  obtain ⟨z0, rfl, h0⟩ := open_u64 hy0
  obtain ⟨r1, rfl, h1⟩ := open_row1 hy1
  exact ⟨(z0, r1), rfl, h0, h1⟩
/-- A text and a signature that came in. -/
theorem open_signed {H : Type} {enc : TypeId × Value → H} {W : World} {v : Value} {d : DataW H} {p : List MemPlace} {base : Nat}
    (hv : Value.okWide Tryz.prog W .any base 41 v) (h : DataW.Trod enc Tryz.prog W 0 (fun _ => true) true 41 v d p) :
    ∃ y : Rw × Rw, v = .agg #[.slice y.1.1 y.1.2.1 y.1.2.2.1, .slice y.2.1 y.2.2.1 y.2.2.2.1] ∧ Rd W y.1.1 y.1.2.1 y.1.2.2.1 y.1.2.2.2 ∧ Rd W y.2.1 y.2.2.1 y.2.2.2.1 y.2.2.2.2 := by
  obtain ⟨c0, c1, y0, y1, m, rfl, _, _, hy0, hy1⟩ := open_agg2 Tryz.underlying41 (by kernel_rfl) (by kernel_rfl) hv h
  obtain ⟨r0, rfl, h0⟩ := open_row1 hy0
  obtain ⟨r1, rfl, h1⟩ := open_row1 hy1
  exact ⟨(r0, r1), rfl, h0, h1⟩
end Go.Proofs.YtkpfppiedadmbaaGreatDoor.S16

/-
  The walk of layer 16's second statement, as its frame calls it. No statement is proved here.
-/
namespace Go.Proofs.YtkpfppiedadmbaaGreatDoor.S16
open Go.RowKit S15
abbrev IsMkZ (W : World) (v : Value) (y : Rw × Rw × Rw) : Prop := v = .agg (mkA y.1.1 y.1.2.1 y.1.2.2.1 y.2.1.1 y.2.1.2.1 y.2.1.2.2.1 y.2.2.1 y.2.2.2.1 y.2.2.2.2.1) ∧ Rd W y.1.1 y.1.2.1 y.1.2.2.1 y.1.2.2.2 ∧ Rd W y.2.1.1 y.2.1.2.1 y.2.1.2.2.1 y.2.1.2.2.2 ∧ Rd W y.2.2.1 y.2.2.2.1 y.2.2.2.2.1 y.2.2.2.2.2
abbrev IsToZ (W : World) (v : Value) (y : Nat × Rw) : Prop := v = .agg #[.int .u64 (y.1 : Int), .slice y.2.1 y.2.2.1 y.2.2.2.1] ∧ y.1 < 18446744073709551616 ∧ Rd W y.2.1 y.2.2.1 y.2.2.2.1 y.2.2.2.2
theorem xmssSigns_frame (w : World) (hk : X0.ok w) (v0 : Value) (y0 : Int × Int) (o0 : v0 = .agg (shA y0.1 y0.2)) (v1 : Value) (y1 : Rw × Rw × Rw) (o1 : IsMkZ w v1 y1) (v2 : Value) (y2 : Nat × Rw) (o2 : IsToZ w v2 y2) :
    Calls Tryz.prog 3 #[v0, v1, v2] w fun e w' => e = .returned (.bool true) ∧ Below w.heap.size w w' := by
  subst o0
  obtain ⟨rfl, h1, h2, h3⟩ := o1
  obtain ⟨rfl, k1, k2⟩ := o2
  exact xmssSigns_walk X0 w hk y0.1 y0.2 _ _ _ _ h1 _ _ _ _ h2 _ _ _ _ h3 _ k1 _ _ _ _ k2
end Go.Proofs.YtkpfppiedadmbaaGreatDoor.S16

/-
  What the listed variables hold: the widths of layer 7, the constants of layer 2, for the statements of layer 16.
-/
namespace Go.Proofs.YtkpfppiedadmbaaGreatDoor
set_option linter.unusedSimpArgs false
set_option linter.unusedVariables false
set_option maxRecDepth 4096
open Go.ChangeShapes Go.WideShapes Go.ChangeAt Go.RowKit

/-- What the rows list. -/
abbrev laidL : List (String × DataW Unit) := [("tearoff/digits.widths", Rows.laid_tearoff_digits_widths), ("tearoff/sha2.start", Rows.laid_tearoff_sha2_start), ("tearoff/sha2.rounds", Rows.laid_tearoff_sha2_rounds)]
theorem cells_of_reads {P : Program} {W : World} {name : String} {k : IntKind} {zs : List Int} {g : Nat} {t e : TypeId} {n : Nat} (h : Lib.VarReads P W name (Lib.tabData k zs))
    (hg : P.globalNamed name = some g) (hty : (P.globals[g]?).map (·.type) = some t) (ht : P.underlying t = some (.array n e)) (he : P.underlying e = some (.int k)) (hce : P.cellsOf e = 1) (hct : P.cellsOf t = n) :
    ∀ i, i < zs.length → W.cell? ⟨g, i, none⟩ = some (.int k (zs.getD i 0)) := by
  obtain ⟨g', t', cs, fuel, p, h1, h2, h3, h4⟩ := h
  obtain rfl := Option.some.inj (hg.symm.trans h1)
  obtain rfl := Option.some.inj (hty.symm.trans h2)
  have e := Lib.cells_of_tab ht he hce hct h4
  have hT : Lib.TabIs P W name k zs := by
    unfold Lib.TabIs
    rw [h3, ← e]
  exact hT.cell hg
theorem kN_word2 : ∀ z ∈ S2.kN, ((UInt32.ofNat z.toNat).toNat : Int) = z := by decide +kernel
theorem kN_get (i : Nat) (h : i < 64) : Value.int .u32 (S2.kN.getD i 0) = .int .u32 ((S2.kT.getD i 0).toNat : Int) := by
  have h1 : i < S2.kN.length := h
  have := kN_word2 S2.kN[i] (List.getElem_mem h1)
  simp only [S2.kT, List.getD, List.getElem?_map, List.getElem?_eq_getElem h1, Option.map_some, Option.getD_some]
  rw [this]
theorem gok2_of_laid {W : World} (h : laidMetH Tryz.prog laidL W) : S2.GOk W := by
  rw [MakeChecks.laidMetH_plain _ _ _ (by kernel_rfl)] at h
  have h1 : Lib.VarReads Tryz.prog W "tearoff/sha2.start" (Lib.tabData .u32 [1779033703, 3144134277, 1013904242, 2773480762, 1359893119, 2600822924, 528734635, 1541459225]) := Lib.laidMet.reads h (.tail _ (.head _))
  have h2 : Lib.VarReads Tryz.prog W "tearoff/sha2.rounds" (Lib.tabData .u32 S2.kN) := Lib.laidMet.reads h (.tail _ (.tail _ (.head _)))
  refine ⟨fun i hi => ?_, fun i hi => ?_⟩
  · rw [← kN_get i hi]
    exact cells_of_reads (g := 2) (t := 132) h2 (by kernel_rfl) (by kernel_rfl) Tryz.underlying132 Tryz.underlying35 (by kernel_rfl) (by kernel_rfl) i hi
  · have := cells_of_reads (g := 0) (t := 114) h1 (by kernel_rfl) (by kernel_rfl) Tryz.underlying114 Tryz.underlying35 (by kernel_rfl) (by kernel_rfl) i hi
    refine this.trans ?_
    match i, hi with
    | 0, _ | 1, _ | 2, _ | 3, _ | 4, _ | 5, _ | 6, _ | 7, _ => rfl
theorem lt_of_cell {W : World} {g i : Nat} {v : Value} (h : W.cell? ⟨g, i, none⟩ = some v) : g < W.heap.size := by
  apply Classical.byContradiction
  intro h9
  simp [World.cell?, Array.getElem?_eq_none (show W.heap.size ≤ g by omega)] at h
theorem gok7_of_laid {W : World} (h : laidMetH Tryz.prog laidL W) : S7.WOk W := by
  rw [MakeChecks.laidMetH_plain _ _ _ (by kernel_rfl)] at h
  have h1 : Lib.VarReads Tryz.prog W "tearoff/digits.widths" (Lib.tabData .i64 [1, 2, 4, 8]) := Lib.laidMet.reads h (.head _)
  intro i hi
  have := cells_of_reads (g := 1) (t := 139) h1 (by kernel_rfl) (by kernel_rfl) Tryz.underlying139 Tryz.underlying3 (by kernel_rfl) (by kernel_rfl) i hi
  exact ⟨this, lt_of_cell this⟩
theorem gok_of_laid {W : World} (h : laidMetH Tryz.prog laidL W) : S16.X0.ok W := ⟨gok2_of_laid h, gok7_of_laid h⟩
end Go.Proofs.YtkpfppiedadmbaaGreatDoor
