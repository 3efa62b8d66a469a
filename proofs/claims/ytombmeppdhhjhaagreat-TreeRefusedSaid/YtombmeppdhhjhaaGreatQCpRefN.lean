/-
  OWN WORK. The document's own reader (permafrostref4): numbers, flags, what is left.
-/
import Derived.Test.YtombmeppdhhjhaaGreatQCpRefR
namespace Go.Proofs.YtombmeppdhhjhaaGreat
open Go.RowKit
structure RIn (g : Nat) (T : TypeId) (A : Option Addr) (L : List UInt8) (cap : Nat) (s : Co.Rs) (w : World) : Prop where
  hd : RHd g T A L cap s w
  rd : Rd w A L
  off : 0 < L.length → A.map (·.block) ≠ some g
  fits : L.length ≤ cap
  small : L.length ≤ 1099511620000
theorem RHd.lt {g : Nat} {T : TypeId} {A : Option Addr} {L : List UInt8} {cap : Nat} {s : Co.Rs} {w : World} (h : RHd g T A L cap s w) : g < w.heap.size := by
  obtain ⟨_, _, _, h⟩ := h; exact h.lt
theorem RIn.next {g : Nat} {T : TypeId} {A : Option Addr} {L : List UInt8} {cap : Nat} {s s' : Co.Rs} {w w' : World} (h : RIn g T A L cap s w) (hk : Keeps w w' g) (hd : RHd g T A L cap s' w') : RIn g T A L cap s' w' :=
  ⟨hd, h.rd.keeps hk h.off, h.off, h.fits, h.small⟩
theorem RIn.below {g : Nat} {T : TypeId} {A : Option Addr} {L : List UInt8} {cap : Nat} {s : Co.Rs} {w w' : World} (h : RIn g T A L cap s w) (hb : Below w.heap.size w w') : RIn g T A L cap s w' := by
  obtain ⟨⟨k, h1, h2, h3⟩, h4, h5, h6, h7⟩ := h
  exact ⟨⟨k, h1, h2, h3.below hb h3.lt⟩, h4.below hb, h5, h6, h7⟩
end Go.Proofs.YtombmeppdhhjhaaGreat
