/-
  OWN WORK. Within, by its contract, for greater numbers (BaWithin with another bound).
-/
import Derived.Test.YtombmeppdhhjhaaR01
namespace Go.Proofs.Ytombmeppdhhjhaa
open Go.RowKit
namespace Wi

theorem emod_of_tmod (n d : Int) (h : 0 < d) : (n.tmod d < 0 → n % d = n.tmod d + d) ∧ (¬ n.tmod d < 0 → n % d = n.tmod d) := by
  have l1 := Int.lt_tmod_of_pos n h
  have l2 := Int.tmod_lt_of_pos n h
  have e : n.tmod d % d = n % d := by rw [Int.tmod_def, Int.sub_mul_emod_self_left]
  constructor
  · intro hn
    rw [← e, ← Int.add_emod_right]
    exact Int.emod_eq_of_lt (by omega) (by omega)
  · intro hn
    rw [← e]
    exact Int.emod_eq_of_lt (by omega) (by omega)

/-- A number brought into 0 .. m. -/
def within0 (n : Int) (m : Nat) : Nat := (n % ((m : Int) + 1)).toNat

theorem within0_le (n : Int) (m : Nat) : within0 n m ≤ m := by
  have := Int.emod_lt_of_pos n (b := (m : Int) + 1) (by omega)
  unfold within0; omega

theorem within0_cast (n : Int) (m : Nat) : ((within0 n m : Nat) : Int) = n % ((m : Int) + 1) := by
  have := Int.emod_nonneg n (b := (m : Int) + 1) (by omega)
  unfold within0; omega

theorem within_any (n : Int) (m : Nat) (w : World) (h2 : m ≤ 2000000) (_hn0 : -9223372036854775808 ≤ n) (_hn1 : n ≤ 9223372036854775807) :
    Calls Try.prog 10 #[.int .i64 n, .int .i64 0, .int .i64 m] w fun e w' => e = .returned (.int .i64 (within0 n m)) ∧ w = w' := by
  have l1 := Int.lt_tmod_of_pos n (b := (m : Int) + 1) (by omega)
  have l2 := Int.tmod_lt_of_pos n (b := (m : Int) + 1) (by omega)
  have em := emod_of_tmod n ((m : Int) + 1) (by omega)
  by_cases hn : n.tmod ((m : Int) + 1) < 0
  · have HD : Hid (((within0 n m : Nat) : Int) = n.tmod ((m : Int) + 1) + m + 1) := by
      show _ = _
      rw [within0_cast, em.1 hn]
      omega
    clear em
    go_enter Try.func10, Try.ntmps10
    go_wp2
    go_ret
    exact ⟨ret_num HD.out, rfl⟩
  · have HD : Hid (((within0 n m : Nat) : Int) = n.tmod ((m : Int) + 1)) := by
      show _ = _
      rw [within0_cast, em.2 hn]
    clear em
    go_enter Try.func10, Try.ntmps10
    go_wp2
    go_ret
    exact ⟨ret_num HD.out, rfl⟩

/-- Within, its bound spelled as a difference. -/
theorem within_to (n x : Int) (m : Nat) (w : World) (hx : x = m) (h2 : m ≤ 2000000) (hn0 : -9223372036854775808 ≤ n) (hn1 : n ≤ 9223372036854775807) :
    Calls Try.prog 10 #[.int .i64 n, .int .i64 0, .int .i64 x] w fun e w' => ∃ k : Nat, k ≤ m ∧ e = .returned (.int .i64 k) ∧ w = w' := by
  subst hx
  exact (within_any n m w h2 hn0 hn1).mono fun e w' ⟨h3, h4⟩ => ⟨within0 n m, within0_le n m, h3, h4⟩

def withinI (n lo hi : Int) : Int := lo + n % (hi - lo + 1)

theorem withinI_ge (n lo hi : Int) (h : lo ≤ hi) : lo ≤ withinI n lo hi := by
  have := Int.emod_nonneg n (b := hi - lo + 1) (by omega)
  unfold withinI; omega

theorem withinI_le (n lo hi : Int) (h : lo ≤ hi) : withinI n lo hi ≤ hi := by
  have := Int.emod_lt_of_pos n (b := hi - lo + 1) (by omega)
  unfold withinI; omega

theorem withinI_any (n lo hi : Int) (w : World) (h0 : 0 ≤ lo) (h1 : lo ≤ hi) (h2 : hi ≤ 2000000) (_hn0 : -9223372036854775808 ≤ n) (_hn1 : n ≤ 9223372036854775807) :
    Calls Try.prog 10 #[.int .i64 n, .int .i64 lo, .int .i64 hi] w fun e w' => e = .returned (.int .i64 (withinI n lo hi)) ∧ w = w' := by
  have l1 := Int.lt_tmod_of_pos n (b := hi - lo + 1) (by omega)
  have l2 := Int.tmod_lt_of_pos n (b := hi - lo + 1) (by omega)
  have em := emod_of_tmod n (hi - lo + 1) (by omega)
  by_cases hn : n.tmod (hi - lo + 1) < 0
  · have HD : Hid (withinI n lo hi = lo + (n.tmod (hi - lo + 1) + hi - lo + 1)) := by
      show withinI n lo hi = _
      unfold withinI
      rw [em.1 hn]
      omega
    clear em
    go_enter Try.func10, Try.ntmps10
    go_wp2
    go_ret
    exact ⟨ret_num HD.out, rfl⟩
  · have HD : Hid (withinI n lo hi = lo + n.tmod (hi - lo + 1)) := by
      show withinI n lo hi = _
      unfold withinI
      rw [em.2 hn]
    clear em
    go_enter Try.func10, Try.ntmps10
    go_wp2
    go_ret
    exact ⟨ret_num HD.out, rfl⟩

/-- Within, between two numbers. -/
theorem within_nat (n x y : Int) (lo hi : Nat) (w : World) (hx : x = lo) (hy : y = hi) (h : lo ≤ hi) (h2 : hi ≤ 2000000) (hn0 : -9223372036854775808 ≤ n) (hn1 : n ≤ 9223372036854775807) :
    Calls Try.prog 10 #[.int .i64 n, .int .i64 x, .int .i64 y] w fun e w' => ∃ k : Nat, lo ≤ k ∧ k ≤ hi ∧ e = .returned (.int .i64 k) ∧ w = w' := by
  subst hx hy
  have h3 := withinI_ge n lo hi (by omega)
  have h4 := withinI_le n lo hi (by omega)
  refine (withinI_any n lo hi w (by omega) (by omega) (by omega) hn0 hn1).mono fun e w' ⟨h5, h6⟩ => ?_
  obtain ⟨k, hk⟩ : ∃ k : Nat, withinI n lo hi = k := ⟨(withinI n lo hi).toNat, by omega⟩
  exact ⟨k, by omega, by omega, by rw [h5, hk], h6⟩
end Wi
end Go.Proofs.Ytombmeppdhhjhaa
