/-
  OWN WORK. Law 12's WormBound, at the numbers of any arguments.
-/
import Derived.Test.YtpblhdpnmnfieaaBWoBound
namespace Go.Proofs.Ytpblhdpnmnfieaa
open Go.RowKit
namespace Wo
theorem bound_top (W : World) (a b : Int) (op : Bool) (ha : 0 ≤ a ∧ a ≤ 18446744073709551615) (hb : 0 ≤ b ∧ b ≤ 18446744073709551615) :
    Calls Try.prog 7 #[.int .u64 a, .int .u64 b, .bool op] W fun e w' => e = .returned (.bool true) ∧ Below W.heap.size W w' := by
  have := bounds_any W a.toNat b.toNat op
  rw [Int.toNat_of_nonneg ha.1, Int.toNat_of_nonneg hb.1] at this
  exact this
end Wo
end Go.Proofs.Ytpblhdpnmnfieaa
