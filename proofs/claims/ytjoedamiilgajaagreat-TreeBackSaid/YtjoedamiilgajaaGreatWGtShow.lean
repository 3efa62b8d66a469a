/-
  OWN WORK. The program's tree: what Names' closure is shown.
-/
import Derived.Test.YtjoedamiilgajaaGreatW13
import Derived.Test.YtjoedamiilgajaaGreatWMsRows
import Derived.Test.YtjoedamiilgajaaGreatW03
namespace Go.Proofs.YtjoedamiilgajaaGreat
open Go.RowKit Rc
open Tr (Nm En T)
namespace Gt
/-! A list of rows in a box, in a region that draws. -/
section
variable {F:Nat→Rc.Fact} {cons:List (Nat × Nat)} {E:Nat→(Nat→Value)→Value→Prop} {V:Nat→Value} {S:Nat→Nat→Prop} {j:Nat} {o:Oper} {b:Act} {w:World}
end
end Gt
end Go.Proofs.YtjoedamiilgajaaGreat
