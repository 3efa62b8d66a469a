/-
  OWN WORK. The document's own writers (permafrostref4), by their contracts.
-/
import Derived.Test.YtombmeppdhhjhaaGreatQ01
namespace Go.Proofs.YtombmeppdhhjhaaGreat
open Go.RowKit

end Go.Proofs.YtombmeppdhhjhaaGreat
