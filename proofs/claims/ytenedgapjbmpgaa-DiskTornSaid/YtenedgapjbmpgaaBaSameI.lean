/-
  OWN WORK. Same over numbers, by its contract.
-/
import Derived.Test.YtenedgapjbmpgaaBaRg
namespace Go.Proofs.Ytenedgapjbmpgaa
open Go.RowKit

set_option maxHeartbeats 1000000 in
theorem same_ints (l : List Int) (A1 A2 : Option Addr) (c1 c2 : Nat) (w : World) (h1 : RdI w A1 l) (h2 : RdI w A2 l) (hl : l.length ≤ 9223372036854775807) :
    Calls Try.prog 23 #[.slice A1 l.length c1, .slice A2 l.length c2] w fun e w' => e = .returned (.bool true) ∧ ∃ n, w' = w.drewN n := by
  have H1 : Hid (RdI w A1 l) := h1
  have H2 : Hid (RdI w A2 l) := h2
  have tl : (((l.length : Nat) : Int) != ((l.length : Nat) : Int)) = false := by simp
  clear h1 h2
  go_enter Try.func23, Try.ntmps23
  go_wp2_with fail
  go_loopw [5] (fun t5 wr => ∃ k : Nat, k ≤ l.length ∧ t5 = .int .i64 k ∧ ∃ n, Hid (wr = w.drewN n)) (fun t5 _ => l.length - (intOf t5).toNat)
  case atStart => exact ⟨0, by omega, rfl, 0, rfl⟩
  case round =>
    obtain ⟨k, hk, rfl, n, hw⟩ := hrel
    obtain rfl := hw.out
    by_cases hlt : k < l.length
    · obtain ⟨x, hx⟩ : ∃ x, l[k]? = some x := ⟨_, List.getElem?_eq_getElem hlt⟩
      obtain ⟨_, b1, o1, rfl, _, d1⟩ := H1.out k x hx
      obtain ⟨_, b2, o2, rfl, _, d2⟩ := H2.out k x hx
      have tx : (x != x) = false := by simp
      clear hx
      go_wp2_with fail
      go_quiet (fail)
      go_wp2_with fail
      go_roundw
      case rel => first | exact ⟨k + 1, by omega, by go_num, n + nq, rfl⟩ | exact ⟨k + 1, by omega, by go_num, _, rfl⟩
      case measure => simp [intOf]; omega
    · go_wp2_with fail
      go_ret
      exact ⟨rfl, n, rfl⟩
end Go.Proofs.Ytenedgapjbmpgaa
