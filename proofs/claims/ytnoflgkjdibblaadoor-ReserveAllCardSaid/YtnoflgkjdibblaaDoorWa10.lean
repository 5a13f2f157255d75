/-
  Texts put together: RTurn. No statement is proved here.
-/
import Derived.Test.YtnoflgkjdibblaaDoorWa03
import Derived.Test.YtnoflgkjdibblaaDoorWa04

/-
  What the document's own call of one block does: constants, Turn, K.
-/
namespace Go.Proofs.YtnoflgkjdibblaaDoor.S2
set_option linter.unusedSimpArgs false
set_option linter.unusedVariables false
set_option maxRecDepth 1024
open Go.RowKit

theorem Tryd.info64 : (Tryd.prog.info? 132).map (·.size) = some 64 := by kernel_rfl
theorem kN_word : ∀ z ∈ kN, ((UInt32.ofNat z.toNat).toNat : Int) = z := by decide +kernel
theorem kT_cells : uA kT = (kN.map fun z => Value.int .u32 z).toArray := by
  unfold uA uv kT
  rw [List.map_map]
  refine congrArg List.toArray ?_
  exact List.map_congr_left fun z hz => by simp only [Function.comp]; rw [kN_word z hz]
theorem Tryd.built64 : Tryd.prog.built 132 (((List.range 64).zip kN).map fun x => (x.1, Value.int .u32 x.2)) = some (kN.map fun z => Value.int .u32 z).toArray := by kernel_rfl
/-- What the document's call keeps in memory over its loops. -/
structure RT (w wr : World) (B1 : Nat) (s : St) (z cs : Array Value) (A : Option Addr) (c : Nat) (xs : List UInt8) : Prop where
  bel : Below w.heap.size w wr
  b0 : Bk wr w.heap.size 126 (sA s)
  bz : Bk wr (w.heap.size + 1) 126 z
  bk : Bk wr B1 132 cs
  rd : Rd wr A 64 c xs
  lt : w.heap.size + 1 + 1 ≤ B1
theorem RT.drewN {w wr : World} {B1 : Nat} {s : St} {z cs : Array Value} {A : Option Addr} {c : Nat} {xs : List UInt8} (h : RT w wr B1 s z cs A c xs) (n : Nat) : RT w (wr.drewN n) B1 s z cs A c xs :=
  ⟨below_drewN h.bel n, h.b0, h.bz, h.bk, h.rd.below ⟨rfl, rfl, rfl, Nat.le_refl _, fun _ _ => rfl⟩, h.lt⟩
theorem RT.drew {w wr : World} {B1 : Nat} {s : St} {z cs : Array Value} {A : Option Addr} {c : Nat} {xs : List UInt8} (h : RT w wr B1 s z cs A c xs) : RT w wr.drew B1 s z cs A c xs := h.drewN 1
theorem RT.put {w wr : World} {B1 : Nat} {s : St} {z cs : Array Value} {A : Option Addr} {c : Nat} {xs : List UInt8} (h : RT w wr B1 s z cs A c xs) (h0 : Rd w A 64 c xs) (k : Nat) (v : Value) : RT w (wr.setCell ⟨B1 + 1, k, none⟩ v) B1 s z cs A c xs := by
  have hl := h.lt
  have hb := h.bel.setCell (p := ⟨B1 + 1, k, none⟩) (by simp; omega) v
  exact ⟨hb, h.b0.far (by simp; omega) _, h.bz.far (by simp; omega) _, h.bk.far (by simp) _, h0.below hb, hl⟩
theorem put_eq {w : World} {p : Addr} {v v' : Value} {g : Nat} {T : TypeId} {cs : Array Value} (h : v = v') (hb : Bk (w.setCell p v') g T cs) : Bk (w.setCell p v) g T cs := by rw [h]; exact hb
theorem take4 (xs : List UInt8) (n : Nat) (h : n + 4 ≤ xs.length) : (xs.drop n).take 4 = [xs.getD n 0, xs.getD (n + 1) 0, xs.getD (n + 2) 0, xs.getD (n + 3) 0] := by
  apply List.ext_getElem?
  intro i
  simp only [List.getElem?_take, List.getElem?_drop, List.getD]
  match i with
  | 0 => simp [show n < xs.length by omega]
  | 1 => simp [show n + 1 < xs.length by omega]
  | 2 => simp [show n + 2 < xs.length by omega]
  | 3 => simp [show n + 3 < xs.length by omega]
  | i + 4 => simp; omega
theorem w4_four (xs : List UInt8) (k : Nat) (h : 4 * k + 4 ≤ xs.length) (x0 x1 x2 x3 : UInt8) (h0 : x0 = xs.getD (4 * k) 0) (h1 : x1 = xs.getD (4 * k + 1) 0) (h2 : x2 = xs.getD (4 * k + 2) 0) (h3 : x3 = xs.getD (4 * k + 3) 0) :
    ((x0.toNat : Int) % 4294967296 * 16777216 + (x1.toNat : Int) % 4294967296 * 65536 + (x2.toNat : Int) % 4294967296 * 256 + (x3.toNat : Int)) % 4294967296 = ((w4 xs k).toNat : Int) := by
  rw [w4, take4 xs _ h, ← h0, ← h1, ← h2, ← h3]
  have b0 := x0.toNat_lt
  have b1 := x1.toNat_lt
  have b2 := x2.toNat_lt
  have b3 := x3.toNat_lt
  simp [getL]
  omega
theorem mul_i64 (k i : Nat) (hk : k ≤ 4294967296) (hi : i ≤ 4294967296) : IntKind.i64.wrap (4 * (k : Int)) = 4 * (k : Int) ∧ IntKind.i64.wrap (4 * (k : Int) + (i : Int)) = 4 * (k : Int) + (i : Int) ∧ (4 * (k : Int) + (i : Int)).toNat = 4 * k + i := by
  rw [IntKind.wrap_i64, IntKind.wrap_i64]; omega

theorem u32_not' (x : UInt32) : bits .xor .u32 (x.toNat : Int) 4294967295 = ((no x).toNat : Int) := by
  have h := u32_bxor x 4294967295
  have e : xo x 4294967295 = no x := by
    unfold xo no
    exact UInt32.xor_neg_one
  rw [e] at h
  rw [← h]
  rfl
attribute [local go_sem] u32_add u32_band u32_bxor u32_shr3 u32_shr10 u32_not'
end Go.Proofs.YtnoflgkjdibblaaDoor.S2
