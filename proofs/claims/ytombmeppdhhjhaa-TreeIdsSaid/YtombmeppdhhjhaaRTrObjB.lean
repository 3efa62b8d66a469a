/-
  OWN WORK. The program's tree as an object: Unlink, Rmdir, Rename; Look, List.
-/
import Derived.Test.YtombmeppdhhjhaaRTrObjA
import Derived.Test.YtombmeppdhhjhaaRTrUnlink
import Derived.Test.YtombmeppdhhjhaaRTrRmdir
import Derived.Test.YtombmeppdhhjhaaRTrList
import Derived.Test.YtombmeppdhhjhaaRTrRename
namespace Go.Proofs.Ytombmeppdhhjhaa
open Go.RowKit Rc
open Tr (Nm En T)
namespace Tm
variable {v : Value} {w0 w : World} {t : T} {B : Nat → Prop}
theorem o_unlink (h : One1 v w0 t B w) (hG : Tr.Good t) (A : Option Addr) (q : List Bs) (cap : Nat) (hr : RdS w A q) (hc : q.length ≤ cap) (hl : q.length ≤ 1000000) (hs : ∀ s ∈ q, s.length ≤ 1000000) :
    Calls Try.prog 51 #[v, .slice A q.length cap] w (Turn1 v w0 (Tr.unlink t q).2 B (.int .i64 ((Tr.unlink t q).1 : Nat)) w) := by
  obtain ⟨p, av, gs, S, hv, hT, hB⟩ := h.parts
  subst hv hB
  exact (unlink_any hT hG A q cap hr hc hl hs).mono fun e w' ht => h.turns rfl ht
theorem o_rmdir (h : One1 v w0 t B w) (hG : Tr.Good t) (A : Option Addr) (q : List Bs) (cap : Nat) (hr : RdS w A q) (hc : q.length ≤ cap) (hl : q.length ≤ 1000000) (hs : ∀ s ∈ q, s.length ≤ 1000000) :
    Calls Try.prog 17 #[v, .slice A q.length cap] w (Turn1 v w0 (Tr.rmdir t q).2 B (.int .i64 ((Tr.rmdir t q).1 : Nat)) w) := by
  obtain ⟨p, av, gs, S, hv, hT, hB⟩ := h.parts
  subst hv hB
  exact (rmdir_any hT hG A q cap hr hc hl hs).mono fun e w' ht => h.turns rfl ht
theorem o_rename (h : One1 v w0 t B w) (hG : Tr.Good t) (A A2 : Option Addr) (q r : List Bs) (cap cap2 : Nat) (hr : RdS w A q) (hc : q.length ≤ cap) (hl : q.length ≤ 1000000) (hs : ∀ s ∈ q, s.length ≤ 1000000) (hr2 : RdS w A2 r) (hc2 : r.length ≤ cap2) (hl2 : r.length ≤ 1000000) (hs2 : ∀ s ∈ r, s.length ≤ 1000000) :
    Calls Try.prog 54 #[v, .slice A q.length cap, .slice A2 r.length cap2] w (Turn1 v w0 (Tr.rename t q r).2 B (.int .i64 ((Tr.rename t q r).1 : Nat)) w) := by
  obtain ⟨p, av, gs, S, hv, hT, hB⟩ := h.parts
  subst hv hB
  exact (rename_any hT hG A A2 q r cap cap2 hr hc hl hs hr2 hc2 hl2 hs2).mono fun e w' ht => h.turns rfl ht
theorem o_look (h : One1 v w0 t B w) (hG : Tr.Good t) (A : Option Addr) (q : List Bs) (cap : Nat) (hr : RdS w A q) (hc : q.length ≤ cap) (hl : q.length ≤ 1000000) (hs : ∀ s ∈ q, s.length ≤ 1000000) :
    Calls Try.prog 61 #[v, .slice A q.length cap] w fun e w' => e = .returned (.tuple #[.int .i64 (Tr.look t q).1, .int .i64 ((Tr.look t q).2 : Nat)]) ∧ Below w.heap.size w w' := by
  obtain ⟨p, av, gs, S, hv, hT, hB⟩ := h.parts
  subst hv
  exact look_any hT hG A q cap hr hc hl hs
theorem o_list (h : One1 v w0 t B w) (hG : Tr.Good t) (i : Int) :
    Calls Try.prog 64 #[v, .int .i64 i] w (LAns (Tr.list t i).1 (Tr.list t i).2 w) := by
  obtain ⟨p, av, gs, S, hv, hT, hB⟩ := h.parts
  subst hv
  exact list_any hT hG i
end Tm
end Go.Proofs.Ytombmeppdhhjhaa
