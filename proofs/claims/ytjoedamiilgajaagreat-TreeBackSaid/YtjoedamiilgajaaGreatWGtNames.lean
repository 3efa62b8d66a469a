/-
  OWN WORK. The program's tree: Names.
-/
import Derived.Test.YtjoedamiilgajaaGreatWGtEye
import Derived.Test.YtjoedamiilgajaaGreatWGtSorted
import Derived.Deep.CutBlock
import Derived.Shelf.SlSortCmp.NoneTotal
namespace Go.Proofs.YtjoedamiilgajaaGreat
open Go.RowKit Rc
open Tr (Nm En T)
namespace Gt
open Tm (Eye Shows Shown EAt TIn TrS ptrOf WPre WMid SOwn)
end Gt
end Go.Proofs.YtjoedamiilgajaaGreat
