/-
  OWN WORK. Law 12's walks over trees, at the numbers of any arguments.
-/
import Derived.Test.YtpblhdpnmnfieaaLWoLives
import Derived.Test.YtpblhdpnmnfieaaL01
namespace Go.Proofs.Ytpblhdpnmnfieaa
open Go.RowKit
namespace Wo
theorem lives_top (W : World) (us : List Int) (AU : Option Addr) (cu : Nat) (os : List Bool) (AO : Option Addr) (co : Nat) (a b : Int) (hr : RdU W AU us ∧ ∀ x ∈ us, 0 ≤ x) (hcu : us.length ≤ cu) (hlu : us.length ≤ 9223372036854775807) (hro : RdB W AO os) (hco : os.length ≤ co) (hlo : os.length ≤ 9223372036854775807) (ha : 0 ≤ a ∧ a ≤ 18446744073709551615) (hb : 0 ≤ b ∧ b ≤ 18446744073709551615) :
    Calls Try.prog 5 #[.slice AU us.length cu, .slice AO os.length co, .int .u64 a, .int .u64 b] W fun e w' => e = .returned (.bool true) ∧ Below W.heap.size W w' := by
  have := lives_any W AU us cu AO os co a.toNat b.toNat hr.1 hcu hlu hr.2 hro hco hlo
  rw [Int.toNat_of_nonneg ha.1, Int.toNat_of_nonneg hb.1] at this
  exact this
end Wo
end Go.Proofs.Ytpblhdpnmnfieaa
