/-
  OWN WORK. The document's Leaf and Pair, by their contracts.
-/
import Derived.Test.YtbdbccdkimkhbaaDoorShPad
import Derived.Test.YtbdbccdkimkhbaaDoorShRefSum
namespace Go.Proofs.YtbdbccdkimkhbaaDoor
open Go.RowKit Sh

theorem refSum_sum (w : World) (l : List UInt8) (A : Option Addr) (cap : Nat) (hr : Rd w A l) (hl : l.length ≤ 1099511627000) :
    Calls Tryd.prog 8 #[.slice A l.length cap] w fun e w' => ∃ v, e = .returned v ∧ w'.ownsRow w.heap.size 5 1 v 32 (Lib.byteCells (Sh.sum l)) ∧ Below w.heap.size w w' := by
  have := refSum_any w l A cap hr hl
  rw [padded_sum] at this
  exact this
end Go.Proofs.YtbdbccdkimkhbaaDoor
