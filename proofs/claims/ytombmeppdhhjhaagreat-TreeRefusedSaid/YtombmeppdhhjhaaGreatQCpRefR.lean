/-
  OWN WORK. The document's own reader (permafrostref4), by its contracts.
-/
import Derived.Test.YtombmeppdhhjhaaGreatQCpRefW
namespace Go.Proofs.YtombmeppdhhjhaaGreat
open Go.RowKit
def RHd (g : Nat) (T : TypeId) (A : Option Addr) (L : List UInt8) (cap : Nat) (s : Co.Rs) (w : World) : Prop :=
  ∃ k, k ≤ L.length ∧ s.rem = L.drop k ∧ Blk w g T [.slice A L.length cap, .int .i64 (k : Nat), .int .i64 (s.why : Nat)]
end Go.Proofs.YtombmeppdhhjhaaGreat
