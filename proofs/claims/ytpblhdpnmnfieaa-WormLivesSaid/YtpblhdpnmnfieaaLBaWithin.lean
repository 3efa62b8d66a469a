/-
  OWN WORK. Within, by its contract.
-/
import Derived.Test.YtpblhdpnmnfieaaL01
namespace Go.Proofs.Ytpblhdpnmnfieaa
open Go.RowKit

theorem emod_of_tmod (n d : Int) (h : 0 < d) : (n.tmod d < 0 → n % d = n.tmod d + d) ∧ (¬ n.tmod d < 0 → n % d = n.tmod d) := by
  have l1 := Int.lt_tmod_of_pos n h
  have l2 := Int.tmod_lt_of_pos n h
  have e : n.tmod d % d = n % d := by rw [Int.tmod_def, Int.sub_mul_emod_self_left]
  constructor
  · intro hn
    rw [← e, ← Int.add_emod_right]
    exact Int.emod_eq_of_lt (by omega) (by omega)
  · intro hn
    rw [← e]
    exact Int.emod_eq_of_lt (by omega) (by omega)

/-- A number brought into 0 .. m. -/
def within0 (n : Int) (m : Nat) : Nat := (n % ((m : Int) + 1)).toNat

theorem within0_le (n : Int) (m : Nat) : within0 n m ≤ m := by
  have := Int.emod_lt_of_pos n (b := (m : Int) + 1) (by omega)
  unfold within0; omega

theorem within0_cast (n : Int) (m : Nat) : ((within0 n m : Nat) : Int) = n % ((m : Int) + 1) := by
  have := Int.emod_nonneg n (b := (m : Int) + 1) (by omega)
  unfold within0; omega

def withinI (n lo hi : Int) : Int := lo + n % (hi - lo + 1)

theorem withinI_ge (n lo hi : Int) (h : lo ≤ hi) : lo ≤ withinI n lo hi := by
  have := Int.emod_nonneg n (b := hi - lo + 1) (by omega)
  unfold withinI; omega

theorem withinI_le (n lo hi : Int) (h : lo ≤ hi) : withinI n lo hi ≤ hi := by
  have := Int.emod_lt_of_pos n (b := hi - lo + 1) (by omega)
  unfold withinI; omega

end Go.Proofs.Ytpblhdpnmnfieaa
