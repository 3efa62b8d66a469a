/-
  OWN WORK. node.Decode, by its contract.
-/
import Derived.Test.YtombmeppdhhjhaaGreatQNoRight
import Derived.Test.YtombmeppdhhjhaaGreatQ05
import Derived.Test.YtombmeppdhhjhaaGreatQCpMake
namespace Go.Proofs.YtombmeppdhhjhaaGreat
open Go.RowKit Rc

end Go.Proofs.YtombmeppdhhjhaaGreat
