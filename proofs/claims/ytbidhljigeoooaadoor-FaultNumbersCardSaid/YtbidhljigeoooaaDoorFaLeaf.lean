/-
  OWN WORK. Small functions by their contracts: Head, Within, the Fault's own fields.
-/
import Derived.Test.YtbidhljigeoooaaDoorFaAsT
import Derived.WalkLawsBesides
import Derived.RegionTactic
namespace Go.Proofs.YtbidhljigeoooaaDoor
open Go.RowKit

theorem ret_str {a b : ByteArray} (h : a = b) : Ending.returned (.string b) = Ending.returned (.string a) := by rw [h]
theorem ret_num {k : IntKind} {a b : Int} (h : a = b) : Ending.returned (.int k b) = Ending.returned (.int k a) := by rw [h]

def headB (s : ByteArray) (n : Nat) : ByteArray := if n < s.size then s.extract 0 n else s

theorem head_any (s : ByteArray) (n : Nat) (w : World) (_hs : s.size ≤ 9223372036854775807) (hn : n ≤ 1000) :
    Calls Tryd.prog 21 #[.string s, .int .i64 n] w fun e w' => e = .returned (.string (headB s n)) ∧ w = w' := by
  by_cases h : n < s.size
  · have HD : Hid (headB s n = s.extract 0 n) := by show headB s n = s.extract 0 n; unfold headB; rw [if_pos h]
    go_enter Tryd.func21, Tryd.ntmps21
    go_wp2
    go_ret
    exact ⟨ret_str HD.out, rfl⟩
  · have HD : Hid (headB s n = s) := by show headB s n = s; unfold headB; rw [if_neg h]
    go_enter Tryd.func21, Tryd.ntmps21
    go_wp2
    go_ret
    exact ⟨ret_str HD.out, rfl⟩

theorem emod_of_tmod (n d : Int) (h : 0 < d) : (n.tmod d < 0 → n % d = n.tmod d + d) ∧ (¬ n.tmod d < 0 → n % d = n.tmod d) := by
  have l1 := Int.lt_tmod_of_pos n h
  have l2 := Int.tmod_lt_of_pos n h
  have e : n.tmod d % d = n % d := by rw [Int.tmod_def, Int.sub_mul_emod_self_left]
  constructor
  · intro hn
    rw [← e, ← Int.add_emod_right]
    exact Int.emod_eq_of_lt (by omega) (by omega)
  · intro hn
    rw [← e]
    exact Int.emod_eq_of_lt (by omega) (by omega)

def withinI (n lo hi : Int) : Int := lo + n % (hi - lo + 1)
theorem withinI_ge (n lo hi : Int) (h : lo ≤ hi) : lo ≤ withinI n lo hi := by
  have := Int.emod_nonneg n (b := hi - lo + 1) (by omega)
  unfold withinI; omega
theorem withinI_le (n lo hi : Int) (h : lo ≤ hi) : withinI n lo hi ≤ hi := by
  have := Int.emod_lt_of_pos n (b := hi - lo + 1) (by omega)
  unfold withinI; omega

theorem within_any (n lo hi : Int) (w : World) (h0 : 0 ≤ lo) (h1 : lo ≤ hi) (h2 : hi ≤ 1000000) (_hn0 : -9223372036854775808 ≤ n) (_hn1 : n ≤ 9223372036854775807) :
    Calls Tryd.prog 18 #[.int .i64 n, .int .i64 lo, .int .i64 hi] w fun e w' => e = .returned (.int .i64 (withinI n lo hi)) ∧ w = w' := by
  have l1 := Int.lt_tmod_of_pos n (b := hi - lo + 1) (by omega)
  have l2 := Int.tmod_lt_of_pos n (b := hi - lo + 1) (by omega)
  have em := emod_of_tmod n (hi - lo + 1) (by omega)
  by_cases hn : n.tmod (hi - lo + 1) < 0
  · have HD : Hid (withinI n lo hi = lo + (n.tmod (hi - lo + 1) + hi - lo + 1)) := by
      show withinI n lo hi = _
      unfold withinI
      rw [em.1 hn]
      omega
    clear em
    go_enter Tryd.func18, Tryd.ntmps18
    go_wp2
    go_ret
    exact ⟨ret_num HD.out, rfl⟩
  · have HD : Hid (withinI n lo hi = lo + n.tmod (hi - lo + 1)) := by
      show withinI n lo hi = _
      unfold withinI
      rw [em.2 hn]
    clear em
    go_enter Tryd.func18, Tryd.ntmps18
    go_wp2
    go_ret
    exact ⟨ret_num HD.out, rfl⟩
end Go.Proofs.YtbidhljigeoooaaDoor
