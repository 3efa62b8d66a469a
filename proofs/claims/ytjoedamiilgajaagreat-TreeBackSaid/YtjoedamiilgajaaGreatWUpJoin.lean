/-
  OWN WORK. path.Join, and what it draws.
-/
import Derived.Test.YtjoedamiilgajaaGreatWUpBuild
import Derived.Test.YtjoedamiilgajaaGreatW02
namespace Go.Proofs.YtjoedamiilgajaaGreat
open Go.RowKit
namespace Dr
def joined (l:List Bs):Bs:=l.flatMap (47 :: ·)
end Dr
end Go.Proofs.YtjoedamiilgajaaGreat
