/-
  OWN WORK. Cut, by its contract.
-/
import Derived.Test.YtpblhdpnmnfieaaB01
namespace Go.Proofs.Ytpblhdpnmnfieaa
open Go.RowKit

end Go.Proofs.Ytpblhdpnmnfieaa
