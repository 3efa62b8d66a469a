/-
  OWN WORK. A reader that is made.
-/
import Derived.Test.YtombmeppdhhjhaaGreatQCpOne
namespace Go.Proofs.YtombmeppdhhjhaaGreat
open Go.RowKit Rc
abbrev codecFns : RFns where
  byte := some 169
  short := some 103
  long := some 170
  flag := some 171
  bytes := some 143
  raw := some 172
  left := none
  fin := some 105
structure RMake (R : RSaid codecFns) : Prop where
  new : ∀ (w : World) (A : Option Addr) (L : List UInt8) (cap : Nat), Rd w A L → L.length ≤ cap → L.length ≤ 140737488351232 → Calls Tryz.prog 102 #[.slice A L.length cap] w fun e w' => ∃ v S, e = .returned v ∧ R.At v A L ⟨L, 0⟩ S w' ∧ Below w.heap.size w w' ∧ ∀ b, S b → w.heap.size ≤ b
theorem RMake.one {R : RSaid codecFns} (h : RMake R) (w : World) (A : Option Addr) (L : List UInt8) (cap : Nat) (hr : Rd w A L) (hc : L.length ≤ cap) (hl : L.length ≤ 140737488351232) : Calls Tryz.prog 102 #[.slice A L.length cap] w fun e w' => ∃ a, e = .returned (.pointer (some a)) ∧ Hid (OneAt R (.pointer (some a)) A L w (fun _ => False) ⟨L, 0⟩ w') := by
  refine (h.new w A L cap hr hc hl).mono ?_
  rintro e w' ⟨v, S, rfl, hat, hb, hS⟩
  obtain ⟨a, rfl⟩ := R.ptr hat
  exact ⟨a, rfl, S, Mod.of_below hb _, hr, fun _ _ _ hf => hf, hat, fun b h => .inr (hS b h)⟩
theorem OneAt.low {f : RFns} {C : RSaid f} {v : Value} {A : Option Addr} {L : List UInt8} {W0 w : World} {s : Co.Rs} (h : OneAt C v A L W0 (fun _ => False) s w) : Below W0.heap.size W0 w := h.mod.below fun _ hf => hf.elim
end Go.Proofs.YtombmeppdhhjhaaGreat
