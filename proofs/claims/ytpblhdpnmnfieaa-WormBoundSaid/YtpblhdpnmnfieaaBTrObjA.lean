/-
  OWN WORK. The program's tree as an object: New, Make, Link, Append, Seal, Keep, Drop; Read, Node, Count.
-/
import Derived.Test.YtpblhdpnmnfieaaBTrRead
import Derived.Test.YtpblhdpnmnfieaaBTrDropT
import Derived.Test.YtpblhdpnmnfieaaBTrKept
namespace Go.Proofs.Ytpblhdpnmnfieaa
open Go.RowKit Rc
open Tr (Nm En T)
namespace Tm
/-- A tree that a law has made. -/
abbrev One1 (v : Value) (w0 : World) (t : T) (B : Nat → Prop) (w : World) : Prop := Ob.One tobj v w0 w0 (fun _ => False) t B w
/-- How it is turned. -/
def Turn1 (v : Value) (w0 : World) (t' : T) (B : Nat → Prop) (x : Value) (w : World) (e : Ending) (w' : World) : Prop :=
  e = .returned x ∧ ∃ B', One1 v w0 t' B' w' ∧ Mod w w' B ∧ ∀ b, B' b → B b ∨ w.heap.size ≤ b
variable {v : Value} {w0 w : World} {t : T} {B : Nat → Prop}
theorem One1.parts (h : One1 v w0 t B w) : ∃ p av gs S, v = .pointer (some ⟨p, 0, none⟩) ∧ TIn p av gs S t w ∧ B = TrS p av S := h.at_
theorem One1.turns (h : One1 v w0 t B w) {p : Nat} {x : Value} {t' : T} {e : Ending} {w' : World} (hv : v = .pointer (some ⟨p, 0, none⟩)) (ht : TTurn p t' x B w e w') : Turn1 v w0 t' B x w e w' := by
  obtain ⟨he, S', h1, h2, h3⟩ := ht
  refine ⟨he, S', ?_, h2, h3⟩
  subst hv
  exact h.turn h1 h2 h3
theorem o_new (w : World) : Calls Try.prog 12 #[] w fun e w' => ∃ p B, e = .returned (.pointer (some ⟨p, 0, none⟩)) ∧ One1 (.pointer (some ⟨p, 0, none⟩)) w Tr.new B w' := by
  refine (new_any w).mono ?_
  rintro e w' ⟨p, av, gs, S, rfl, h, hb, hS⟩
  exact ⟨p, TrS p av S, rfl, h.at_, Mod.of_below hb _, fun b h1 => .inr (hS b h1), hb, hS⟩
theorem o_make (h : One1 v w0 t B w) (hG : Tr.Good t) (A : Option Addr) (q : List Bs) (cap : Nat) (kind : Int) (hr : RdS w A q) (hc : q.length ≤ cap) (hl : q.length ≤ 1000000) (hs : ∀ s ∈ q, s.length ≤ 1000000) :
    Calls Try.prog 13 #[v, .slice A q.length cap, .int .i64 kind] w (Turn1 v w0 (Tr.make t q kind).2 B (.tuple #[.int .i64 (Tr.make t q kind).1.1, .int .i64 ((Tr.make t q kind).1.2 : Nat)]) w) := by
  obtain ⟨p, av, gs, S, hv, hT, hB⟩ := h.parts
  subst hv hB
  refine (make_any hT hG A q cap kind hr hc hl hs).mono ?_
  intro e w' ht
  exact h.turns rfl ht
theorem o_seal (h : One1 v w0 t B w) (hG : Tr.Good t) (i : Int) (u : Nat) (hu : u ≤ 18446744073709551615) :
    Calls Try.prog 14 #[v, .int .i64 i, .int .u64 (u : Nat)] w (Turn1 v w0 (Tr.seal_ t i u).2 B (.int .i64 ((Tr.seal_ t i u).1 : Nat)) w) := by
  obtain ⟨p, av, gs, S, hv, hT, hB⟩ := h.parts
  subst hv hB
  refine (seal_any hT hG i u hu).mono ?_
  intro e w' ht
  exact h.turns rfl ht
theorem o_node (h : One1 v w0 t B w) (hG : Tr.Good t) (i : Int) :
    Calls Try.prog 15 #[v, .int .i64 i] w fun e w' => e = .returned (.tuple #[(Tr.node t i).1.val, .bool (Tr.node t i).2]) ∧ Below w.heap.size w w' := by
  obtain ⟨p, av, gs, S, hv, hT, hB⟩ := h.parts
  subst hv
  exact node_any hT hG i
theorem o_count (h : One1 v w0 t B w) : Calls Try.prog 20 #[v] w fun e w' => e = .returned (.int .i64 (t.length : Nat)) ∧ w' = w := by
  obtain ⟨p, av, gs, S, hv, hT, hB⟩ := h.parts
  subst hv
  exact count_any hT
end Tm
end Go.Proofs.Ytpblhdpnmnfieaa
