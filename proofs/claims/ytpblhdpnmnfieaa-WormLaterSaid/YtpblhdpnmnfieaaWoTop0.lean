/-
  OWN WORK. Law 12's walks, at the numbers of any arguments.
-/
import Derived.Test.YtpblhdpnmnfieaaWoTells
import Derived.Test.YtpblhdpnmnfieaaWoLater
import Derived.Test.YtpblhdpnmnfieaaNoFrame
namespace Go.Proofs.Ytpblhdpnmnfieaa
open Go.RowKit
namespace Wo
theorem tells_top (n : Nd) (W : World) (a b : Int) (ha : 0 ≤ a ∧ a ≤ 18446744073709551615) (hb : 0 ≤ b ∧ b ≤ 18446744073709551615) : Calls Try.prog 4 #[n.val, .int .u64 a, .int .u64 b] W fun e w' => e = .returned (.bool true) ∧ Below W.heap.size W w' := by
  have := tells_any n a.toNat b.toNat W
  rw [Int.toNat_of_nonneg ha.1, Int.toNat_of_nonneg hb.1] at this
  exact this
theorem later_top (n : Nd) (W : World) (a b c : Int) (ha : 0 ≤ a ∧ a ≤ 18446744073709551615) (hb : 0 ≤ b ∧ b ≤ 18446744073709551615) (hc : 0 ≤ c ∧ c ≤ 18446744073709551615) : Calls Try.prog 6 #[n.val, .int .u64 a, .int .u64 b, .int .u64 c] W fun e w' => e = .returned (.bool true) ∧ Below W.heap.size W w' := by
  have := later_any n a.toNat b.toNat c.toNat W
  rw [Int.toNat_of_nonneg ha.1, Int.toNat_of_nonneg hb.1, Int.toNat_of_nonneg hc.1] at this
  exact this
end Wo
end Go.Proofs.Ytpblhdpnmnfieaa
