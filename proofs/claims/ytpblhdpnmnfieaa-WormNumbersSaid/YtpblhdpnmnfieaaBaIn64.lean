/-
  OWN WORK. The reach of int.
-/
import Derived.Test.YtpblhdpnmnfieaaBaMem
namespace Go.Proofs.Ytpblhdpnmnfieaa
open Go.RowKit
def In64 (n : Int) : Prop := -9223372036854775808 ≤ n ∧ n ≤ 9223372036854775807
end Go.Proofs.Ytpblhdpnmnfieaa
