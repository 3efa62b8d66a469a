/-
  OWN WORK. What the document writes of a node.
-/
import Derived.Test.YtombmeppdhhjhaaGreatQ01
import Derived.Test.YtombmeppdhhjhaaGreatQCpRefI
namespace Go.Proofs.YtombmeppdhhjhaaGreat
open Go.RowKit

end Go.Proofs.YtombmeppdhhjhaaGreat
