/-
  The contracts of the landed package disk as one.
-/
import Derived.Test.YtammgingmkdfhaaDsF
import Derived.Test.YtammgingmkdfhaaDs7
namespace Go.Proofs.Ytammgingmkdfhaa.S19
open Go.RowKit
/-- What the calls of the landed disk do. -/
def D0 : DC where
  ok := fun _ => True
  bel := fun _ _ => trivial
  Is := Kn
  okD := fun t => t.ok
  lt := fun t => t.lt
  keep := fun t hs hk => t.keep hs fun b hF hlt => hk b (.inr hF) hlt
  new := fun N w k _ hN h1 h2 => new_any N w k hN h1 h2
  newNot := fun w k _ hk _ _ => newNot_any w k hk
  plan := fun N w g D F A n c fs st _ t hr hn => (plan_any N w g D F A n c fs st t hr hn).mono fun _ _ ⟨h1, F', h2, h3, h4⟩ => ⟨h1, F', h2, fun b hb => (h3 b hb).imp id .inl, h4⟩
  read := fun N w g D F i _ t => read_any N w g D F i t
  write := fun N w g D F i A n c b _ t hr hap hc => write_any N w g D F i A n c b t hr hap hc
  flush := fun N w g D F _ t hc => flush_any N w g D F t hc
  stop := fun N w g D F _ t => stop_any N w g D F t
  up := fun N w g D F A' n' c' ch A n c fs st _ t hch hap hfs haf hn => (up_any N w g D F A' n' c' ch A n c fs st t hch hap hfs haf hn).mono fun _ _ ⟨h1, F', h2, h3, h4⟩ => ⟨h1, F', h2, fun b hb => (h3 b hb).imp id .inl, h4⟩
  sure := fun N w g D F _ t => sure_any N w g D F t
  count := fun N w g D F _ t => count_any N w g D F t
end Go.Proofs.Ytammgingmkdfhaa.S19
