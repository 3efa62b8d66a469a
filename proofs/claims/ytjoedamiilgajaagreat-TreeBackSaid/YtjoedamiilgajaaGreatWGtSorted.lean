/-
  OWN WORK. The program's tree: slices.SortFunc over a row of rows, in their order.
-/
import Derived.Test.YtjoedamiilgajaaGreatWGtSort
namespace Go.Proofs.YtjoedamiilgajaaGreat
open Go.RowKit Rc
open Tr (Nm En T)
namespace Gt
section
variable {α:Type} [Inhabited α] {enc:α→Value} {w:World} {blk off m:Nat} {dk:Array α} {os:Array Obj}
end
end Gt
end Go.Proofs.YtjoedamiilgajaaGreat
