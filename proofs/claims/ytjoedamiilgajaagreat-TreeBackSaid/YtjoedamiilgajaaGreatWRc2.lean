/-
  OWN WORK. Regions that draw their order, by facts (Rc): a slot may be read ahead and written behind, where the order says so.
-/
import Derived.Test.YtjoedamiilgajaaGreatW02
namespace Go.Proofs.YtjoedamiilgajaaGreat.Rc
open Go Go.RowKit Go.Proofs.YtjoedamiilgajaaGreat.Rg
section
variable {P:Program} {ops:Array Oper} {Q:Exit→Act→World→Prop} {F:Nat→Fact} {cons:List (Nat × Nat)} {E:Nat→(Nat→Value)→Value→Prop}
end
end Go.Proofs.YtjoedamiilgajaaGreat.Rc
