/-
  OWN WORK. The document's own reader (permafrostref4), as one of the readers.
-/
import Derived.Test.YtombmeppdhhjhaaGreatQCpRd
import Derived.Test.YtombmeppdhhjhaaGreatQCpRefT
namespace Go.Proofs.YtombmeppdhhjhaaGreat
open Go.RowKit Rc
theorem RHd.keep {g : Nat} {T : TypeId} {A : Option Addr} {L : List UInt8} {cap : Nat} {s : Co.Rs} {w w' : World} (h : RHd g T A L cap s w) (hb : w'.heap[g]? = w.heap[g]?) : RHd g T A L cap s w' := by
  obtain ⟨k, h1, h2, h3⟩ := h
  exact ⟨k, h1, h2, hb.trans h3⟩

end Go.Proofs.YtombmeppdhhjhaaGreat
