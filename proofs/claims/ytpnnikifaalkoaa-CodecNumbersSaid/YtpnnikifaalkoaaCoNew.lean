/-
  OWN WORK. Two readers, made over the same bytes.
-/
import Derived.Test.YtpnnikifaalkoaaCoGet
import Derived.Test.YtpnnikifaalkoaaCoWr
namespace Go.Proofs.Ytpnnikifaalkoaa
open Go.RowKit Rc

theorem apart_new {A : Option Addr} {b : List UInt8} {S7 : Nat → Prop} {w6 w7 : World} (hb7 : Below w6.heap.size w6 w7) (hS : ∀ k, S7 k → w6.heap.size ≤ k) (hr : Rd w6 A b) : Apart A b (fun k => S7 k ∨ k = w7.heap.size) := fun hl2 k hk hk2 => by
  obtain ⟨b', off, rfl, hlt, _⟩ := hr hl2
  simp at hk
  have := hb7.size
  rcases hk2 with h | h
  · have := hS k h
    omega
  · omega
theorem GetOut.to {f : RFns} {C : RSaid f} {v vr : Value} {A1 A2 : Option Addr} {L : List UInt8} {W0 : World} {X0 : Nat → Prop} {e : Ending} {w' : World} (h : GetOut C v vr A1 A2 L W0 X0 e w') : e = .returned (.bool true) ∧ Hid (∃ s B1 B2, Two C v vr A1 A2 L W0 X0 s s B1 B2 w') := h
theorem two_new (R : RSaid codecFns) {v : Value} {A1 X3 : Option Addr} {b : List UInt8} {c4 : Nat} {S7 : Nat → Prop} {w6 w7 : World} (hat : R.At v A1 b ⟨b, 0⟩ S7 w7) (hb7 : Below w6.heap.size w6 w7) (hS : ∀ k, S7 k → w6.heap.size ≤ k) (hr1 : Rd w6 A1 b) (hr2 : Rd w6 X3 b) (hc : b.length ≤ c4) (hl : b.length ≤ 1099511620000) :
    Two R v (.pointer (some ⟨w7.heap.size, 0, none⟩)) A1 X3 b (w7.alloc (.cells #[.slice X3 b.length c4, .int .i64 0, .int .i64 0] 28)) (fun k => S7 k ∨ k = w7.heap.size) ⟨b, 0⟩ ⟨b, 0⟩ S7 (fun k => k = w7.heap.size) (w7.alloc (.cells #[.slice X3 b.length c4, .int .i64 0, .int .i64 0] 28)) := by
  have hA := below_new w7 (.cells #[.slice X3 b.length c4, .int .i64 0, .int .i64 0] 28)
  have ap : ∀ A : Option Addr, Rd w6 A b → Apart A b (fun k => S7 k ∨ k = w7.heap.size) := fun A hr hl2 k hk hk2 => by
    obtain ⟨b', off, rfl, hlt, _⟩ := hr hl2
    simp at hk
    have := hb7.size
    rcases hk2 with h | h
    · have := hS k h
      omega
    · omega
  refine ⟨Mod.refl _ _, (hr1.below hb7).below hA, (hr2.below hb7).below hA, ap _ hr1, ap _ hr2, R.keep hat hA.size (fun k hk => hA.block k (R.lt hat k hk)), ⟨w7.heap.size, c4, rfl, ⟨0, by omega, by simp, ?_⟩, hc, hl, rfl⟩, fun k hk => .inl (.inl hk), fun k hk => .inl (.inr hk), fun k hk hk2 => ?_⟩
  · exact Blk.new w7 _ [.slice X3 b.length c4, .int .i64 0, .int .i64 0]
  · have := R.lt hat k hk
    omega
end Go.Proofs.Ytpnnikifaalkoaa
