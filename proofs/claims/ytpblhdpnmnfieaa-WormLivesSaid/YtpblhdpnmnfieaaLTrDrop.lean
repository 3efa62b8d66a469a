/-
  OWN WORK. The program's directories: a name is dropped, a node's names are forgotten.
-/
import Derived.Test.YtpblhdpnmnfieaaLTrPut
import Derived.Shelf.Abstract
namespace Go.Proofs.Ytpblhdpnmnfieaa
open Go.RowKit Rc
open Tr (Nm En T)
namespace Tm

end Tm
end Go.Proofs.Ytpblhdpnmnfieaa
