/-
  The landed disk in memory: where it lies, and what abides. No statement is proved here.
-/
import Derived.Test.YtammgingmkdfhaaDs1
import Derived.Test.YtammgingmkdfhaaDk7
import Derived.Test.YtammgingmkdfhaaLv
namespace Go.Proofs.Ytammgingmkdfhaa.S19
set_option linter.unusedSimpArgs false
set_option linter.unusedVariables false
set_option maxRecDepth 4096
open Go.RowKit

/-- The values that lie in the landed disk. -/
structure KnV where
  sb : Nat
  nb : Nat
  vP : Value
  fa : Option Addr
  fn : Nat
  fc : Nat
  zs : List Int
/-- Its cells. -/
abbrev knA (V : KnV) (k cnt : Nat) (st : Int) (off : Bool) : Array Value := #[.slice (some ⟨V.sb, 0, none⟩) k k, .slice (some ⟨V.nb, 0, none⟩) k k, V.vP, .int .i64 (cnt : Int), .slice V.fa V.fn V.fc, .int .i64 st, .bool off]
/-- All but the block of the disk itself. -/
structure In (N : Nat) (w : World) (g : Nat) (sure now : List (List UInt8)) (pend : List (Nat × List UInt8)) (fails : List Int) (F : Nat → Prop) (V : KnV) : Prop where
  sure : Bk w V.sb 68 (rowsV sure).toArray
  now : Bk w V.nb 68 (rowsV now).toArray
  pend : w.ownsRow N 71 65 V.vP pend.length (pendV pend)
  fl : RI w .i64 V.fa V.fn V.fc V.zs
  few : V.fn ≤ 1099511627776
  mem : ∀ z, z ∈ V.zs ↔ z ∈ fails
  srt : V.zs.Pairwise (· ≤ ·)
  fg : F g
  fs : F V.sb
  fnn : F V.nb
  fp : ∀ b, V.vP.ownBlock = some b → F b
  ff : ∀ a, 0 < V.fn → V.fa = some a → F a.block
  gN : ∀ b, F b → N ≤ b ∧ b < w.heap.size
  d1 : g ≠ V.sb
  d2 : g ≠ V.nb
  d3 : V.sb ≠ V.nb
  dP : ∀ b, V.vP.ownBlock = some b → b ≠ g ∧ b ≠ V.sb ∧ b ≠ V.nb
  dF : ∀ a, 0 < V.fn → V.fa = some a → a.block ≠ g ∧ a.block ≠ V.sb ∧ a.block ≠ V.nb ∧ V.vP.ownBlock ≠ some a.block
/-- The landed disk. -/
structure Kn (N : Nat) (w : World) (g : Nat) (D : Dk) (F : Nat → Prop) : Prop where
  ok : D.Ok
  ex : ∃ V, Bk w g 65 (knA V D.sure.length D.cnt D.stop D.off) ∧ In N w g D.sure (Dk.laid D.pend D.sure) D.pend D.fails F V
section
variable {N : Nat} {w w' : World} {g : Nat} {F F' : Nat → Prop} {V : KnV} {sure now : List (List UInt8)} {pend : List (Nat × List UInt8)} {fails : List Int} {D : Dk}
/-- What abides where the disk's blocks are as they were. -/
theorem In.keep (r : In N w g sure now pend fails F V) (hs : w.heap.size ≤ w'.heap.size) (hk : ∀ b, F b → b ≠ g → b < w.heap.size → w'.heap[b]? = w.heap[b]?) : In N w' g sure now pend fails F V :=
  ⟨(hk _ r.fs r.d1.symm r.sure.lt).trans r.sure, (hk _ r.fnn r.d2.symm r.now.lt).trans r.now, own_keepH r.pend fun b hb hlt => hk b (r.fp b hb) (r.dP b hb).1 hlt,
    r.fl.keep hs fun a h1 h2 h3 => hk _ (r.ff a h1 h2) (r.dF a h1 h2).1 h3, r.few, r.mem, r.srt, r.fg, r.fs, r.fnn, r.fp, r.ff, fun b hb => ⟨(r.gN b hb).1, Nat.lt_of_lt_of_le (r.gN b hb).2 hs⟩, r.d1, r.d2, r.d3, r.dP, r.dF⟩
theorem In.below (r : In N w g sure now pend fails F V) (hb : Below w.heap.size w w') : In N w' g sure now pend fails F V := r.keep hb.size fun b _ _ hlt => hb.block b hlt
/-- The disk's own block is written. -/
theorem In.poke (r : In N w g sure now pend fails F V) (i : Nat) (u : Value) : In N (w.setCell ⟨g, i, none⟩ u) g sure now pend fails F V :=
  r.keep (by simp) fun b _ hb _ => Below.heap_setCell w ⟨g, i, none⟩ u b hb
theorem In.drew (r : In N w g sure now pend fails F V) : In N w.drew g sure now pend fails F V := r.below (Below.refl _ _).drew
theorem In.gt (r : In N w g sure now pend fails F V) : g < w.heap.size := (r.gN g r.fg).2
theorem Kn.keep (t : Kn N w g D F) (hs : w.heap.size ≤ w'.heap.size) (hk : ∀ b, F b → b < w.heap.size → w'.heap[b]? = w.heap[b]?) : Kn N w' g D F := by
  obtain ⟨ok, V, hb, r⟩ := t
  exact ⟨ok, V, (hk g r.fg hb.lt).trans hb, r.keep hs fun b hF _ hlt => hk b hF hlt⟩
theorem Kn.below (t : Kn N w g D F) (hb : Below w.heap.size w w') : Kn N w' g D F := t.keep hb.size fun b _ hlt => hb.block b hlt
theorem Kn.lt (t : Kn N w g D F) : ∀ b, F b → N ≤ b ∧ b < w.heap.size := by
  obtain ⟨ok, V, hb, r⟩ := t
  exact r.gN
/-- What a poke of the disk's own block may touch. -/
theorem Mv.pokeK (hg : F g) (hN : N ≤ g) (i : Nat) (u : Value) : Mv N F w (w.setCell ⟨g, i, none⟩ u) :=
  ⟨(Below.refl _ _).setCell (show N ≤ (⟨g, i, none⟩ : Addr).block from hN) u, fun b _ hb => Below.heap_setCell w ⟨g, i, none⟩ u b fun e => hb (by rw [e]; exact hg)⟩
end
end Go.Proofs.Ytammgingmkdfhaa.S19
