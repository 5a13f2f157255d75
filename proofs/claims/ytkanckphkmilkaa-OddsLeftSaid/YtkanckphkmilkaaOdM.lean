/-
  The contracts of the landed package odds as one. No statement is proved here.
-/
import Derived.Test.YtkanckphkmilkaaOdK6
namespace Go.Proofs.Ytkanckphkmilkaa.F
/-- What the calls of the landed odds do. -/
def O0 : OC where
  ok := fun _ => True
  bel := fun _ _ => trivial
  share := fun a b W _ => share_any a b W
  kind := fun a W _ => kind_any a W
  compare := fun a b W _ => compare_any a b W
  best := fun A n c xs W _ h h2 => best_any A n c xs W h h2
  mean := fun A n c xs W _ h h2 => mean_any A n c xs W h h2
  clamp := fun x l h W _ => clamp_any x l h W
  left := fun t b r x q W _ h1 h2 => left_any t b r x q W h1 h2
  days := fun t b r x q y W _ h1 h2 => days_any t b r x q y W h1 h2
end Go.Proofs.Ytkanckphkmilkaa.F
