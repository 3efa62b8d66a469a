/-
  OWN WORK. Regions that draw and only make memory: a text's bytes; rows of texts.
-/
import Derived.Test.YtjoedamiilgajaaGreatW02
import Derived.Test.YtjoedamiilgajaaGreatW19
import Derived.Test.YtjoedamiilgajaaGreatW13
namespace Go.Proofs.YtjoedamiilgajaaGreat
open Go.RowKit Rc
namespace Ag
section
variable {F:Nat→Rc.Fact} {cons:List (Nat × Nat)} {E:Nat→(Nat→Value)→Value→Prop} {V:Nat→Value} {S:Nat→Nat→Prop} {j:Nat} {o:Oper} {b:Act} {w:World}
end
end Ag
end Go.Proofs.YtjoedamiilgajaaGreat
