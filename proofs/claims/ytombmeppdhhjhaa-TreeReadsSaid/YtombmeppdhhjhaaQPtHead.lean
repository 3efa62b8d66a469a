/-
  OWN WORK. Head: no more of a text than this.
-/
import Derived.Test.YtombmeppdhhjhaaQPtNames
namespace Go.Proofs.Ytombmeppdhhjhaa
open Go.RowKit

set_option maxHeartbeats 1000000 in
set_option maxRecDepth 100000 in
theorem head_any (l : Bs) (n : Nat) (w : World) (_hl : l.length ≤ 9223372036854775807) (_hn : n ≤ 1000000) : Calls Try.prog 11 #[.string (strOf l), .int .i64 (n : Nat)] w fun e w' => e = .returned (.string (strOf (l.take n))) ∧ w = w' := by
  have e0 := strOf_size l
  by_cases h : n < l.length
  · have hsl := fun wx => str_h l n (by omega) wx
    go_enter Try.func11, Try.ntmps11
    go_wp2
    go_ret
    exact ⟨rfl, rfl⟩
  · have HE : Hid (l.take n = l) := List.take_of_length_le (by omega)
    go_enter Try.func11, Try.ntmps11
    go_wp2
    go_ret
    exact ⟨by rw [HE.out]; rfl, rfl⟩
end Go.Proofs.Ytombmeppdhhjhaa
