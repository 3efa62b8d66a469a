/-
  OWN WORK. Same, Roomy, Intact over bytes, by their contracts.
-/
import Derived.Test.YtjoedamiilgajaaGreatW01
namespace Go.Proofs.YtjoedamiilgajaaGreat
open Go.RowKit
end Go.Proofs.YtjoedamiilgajaaGreat
