/-
  Bytes that lie in a block that is known whole. Plain lemmas, no statement is proved here.
-/
import Derived.Test.YtammgingmkdfhaaWords
import Derived.Test.YtammgingmkdfhaaCel
namespace Go.Proofs.Ytammgingmkdfhaa
set_option linter.unusedSimpArgs false
set_option linter.unusedVariables false
set_option maxRecDepth 1024
open Go.RowKit

/-- Bytes that lie in a block. -/
theorem Rd.of_bk {w : World} {g : Nat} {t : TypeId} {cs : Array Value} (h : Bk w g t cs) {off n c : Nat} {ys : List UInt8} (hl : ys.length = n) (hc : n ≤ c) (hm : c ≤ maxLen)
    (hcell : ∀ j, j < n → cs[off + j]? = some (.int .u8 ((ys.getD j 0).toNat : Int))) : Rd w (some ⟨g, off, none⟩) n c ys :=
  ⟨hl, hc, hm, (fun e => by cases e), fun _ => ⟨g, off, rfl, h.lt, fun j hj => (h.cell _).trans (hcell j hj)⟩⟩
theorem bv_getElem? (xs : List UInt8) (i : Nat) (h : i < xs.length) : (bv xs).toArray[i]? = some (.int .u8 ((xs.getD i 0).toNat : Int)) := by
  simp [bv, h, List.getD]
end Go.Proofs.Ytammgingmkdfhaa
