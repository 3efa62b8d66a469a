/-
  OWN WORK. The document's own writers of numbers (permafrostref4), for any int.
-/
import Derived.Test.YtombmeppdhhjhaaGreatQCpRefW
namespace Go.Proofs.YtombmeppdhhjhaaGreat
open Go.RowKit

end Go.Proofs.YtombmeppdhhjhaaGreat
