/-
  OWN WORK. The program's tree as an object: Names, Save, and law 11's sound; what played leaves.
-/
import Derived.Test.YtjoedamiilgajaaGreatQTwSound
import Derived.Test.YtjoedamiilgajaaGreatQ18
import Derived.Test.YtjoedamiilgajaaGreatQTwPlayed
import Derived.Test.YtjoedamiilgajaaGreatQTrKnown
namespace Go.Proofs.YtjoedamiilgajaaGreat
open Go.RowKit Rc
open Tr (Nm En T)
namespace Tm
variable {v:Value} {w0 w:World} {t:T} {B:Nat→Prop}
end Tm
namespace Tw
open Tm (One1 Turn1)
end Tw
end Go.Proofs.YtjoedamiilgajaaGreat
