/-
  OWN WORK. The document's own reader (permafrostref4): flags, texts, what is left, the end.
-/
import Derived.Test.YtombmeppdhhjhaaGreatQCpRefN
namespace Go.Proofs.YtombmeppdhhjhaaGreat
open Go.RowKit

end Go.Proofs.YtombmeppdhhjhaaGreat
