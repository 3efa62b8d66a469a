/-
  OWN WORK. Within, by its contract.
-/
import Derived.Test.YtjoedamiilgajaaGreatW01
namespace Go.Proofs.YtjoedamiilgajaaGreat
open Go.RowKit
end Go.Proofs.YtjoedamiilgajaaGreat
