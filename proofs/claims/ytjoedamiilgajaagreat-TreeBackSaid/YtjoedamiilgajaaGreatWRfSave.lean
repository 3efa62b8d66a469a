/-
  OWN WORK. The document's tree: Save.
-/
import Derived.Test.YtjoedamiilgajaaGreatW08
import Derived.Test.YtjoedamiilgajaaGreatW18
import Derived.Test.YtjoedamiilgajaaGreatWArg
import Derived.Test.YtjoedamiilgajaaGreatWRc2
namespace Go.Proofs.YtjoedamiilgajaaGreat
open Go.RowKit Rc
open Tr (Nm En T)
namespace Rf
theorem wBytes_len {x:Bs} (h:x.length≤65535):(Co.wBytes x).length=2+x.length:=by
 unfold Co.wBytes Co.wShort
 simp only [List.length_append,List.length_cons,List.length_nil,List.length_take]
 omega
variable {p:Nat} {nv dv ev:Value} {D:Nat→Prop} {t:T} {w:World}
end Rf
end Go.Proofs.YtjoedamiilgajaaGreat
