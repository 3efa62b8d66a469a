/-
  OWN WORK. permafrostref10.Decode, by its contract.
-/
import Derived.Test.YtombmeppdhhjhaaGreatQNoRight
import Derived.Test.YtombmeppdhhjhaaGreatQ05
import Derived.Test.YtombmeppdhhjhaaGreatQCpRefS
import Derived.Test.YtombmeppdhhjhaaGreatQCpOne
namespace Go.Proofs.YtombmeppdhhjhaaGreat
open Go.RowKit Rc

end Go.Proofs.YtombmeppdhhjhaaGreat
