/-
  OWN WORK. strings.Builder: what is drawn is told too.
-/
import Derived.Test.YtjoedamiilgajaaGreatWPaBuild
import Derived.Test.YtjoedamiilgajaaGreatWDrMono
namespace Go.Proofs.YtjoedamiilgajaaGreat
open Go.RowKit
namespace Dr
end Dr
end Go.Proofs.YtjoedamiilgajaaGreat
