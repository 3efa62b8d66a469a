/-
  OWN WORK. ClockTells: the law's walk, by what is a time and which is the greater.
-/
import Derived.Test.YtcjmolakcmconaaClCode
namespace Go.Proofs.Ytcjmolakcmconaa
open Go.RowKit

set_option maxHeartbeats 8000000 in
set_option maxRecDepth 100000 in
theorem tells_any (w : World) (a b : Int) : Calls Try.prog 4 #[.int .u64 a, .int .u64 b] w fun e w' => e = .returned (.bool true) ∧ w' = w := by
  go_enter Try.func4, Try.ntmps4
  have e0 : nextOf a b = if b ≤ 1099511627776 ∧ a < b then b else a := by
    unfold nextOf
    by_cases h : b ≤ 1099511627776 <;> by_cases h2 : a < b <;> simp [h, h2]
  have E0 := Lib.hid e0
  clear e0
  by_cases hb : b ≤ 1099511627776 <;> by_cases hlt : a < b <;> by_cases ha : a ≤ 1099511627776 <;> by_cases hge : a ≤ b
  all_goals try omega
  all_goals
    have HB := Lib.hid hb
    have HL := Lib.hid hlt
    have HA := Lib.hid ha
    have HG := Lib.hid hge
    go_wp2_with fail
    refine (next_any _ a b).mono ?_
    rintro e _ ⟨rfl, rfl⟩
    have e1 := E0.out
    have q1 := HB.out
    have q2 := HL.out
    first
      | rw [if_pos (by omega)] at e1
      | rw [if_neg (by omega)] at e1
    clear q1 q2
    rw [e1]
    clear e1
    go_wp2_with fail
    refine (due_any _ a b).mono ?_
    rintro e _ ⟨rfl, rfl⟩
    have q1 := HB.out
    have q2 := HL.out
    have q3 := HA.out
    have q4 := HG.out
    first
      | rw [show (decide (b ≤ a)) = true from by simp; omega]
      | rw [show (decide (b ≤ a)) = false from by simp; omega]
    clear q1 q2 q3 q4
    go_wp2_with fail
    refine (longer_any _ a b).mono ?_
    rintro e _ ⟨rfl, rfl⟩
    have q1 := HB.out
    have q2 := HL.out
    have q3 := HA.out
    have q4 := HG.out
    first
      | rw [show (decide (b ≤ 1099511627776) && decide (a ≤ b)) = true from by simp; omega]
      | rw [show (decide (b ≤ 1099511627776) && decide (a ≤ b)) = false from by simp; omega]
    clear q1 q2 q3 q4
    go_wp2_with fail
    refine (right_any _ a).mono ?_
    rintro e _ ⟨rfl, rfl⟩
    have q1 := HB.out
    have q2 := HL.out
    have q3 := HA.out
    have q4 := HG.out
    first
      | rw [show (decide (a ≤ 1099511627776)) = true from by simp; omega]
      | rw [show (decide (a ≤ 1099511627776)) = false from by simp; omega]
    clear q1 q2 q3 q4
    go_wp2_with fail
    refine (known_any _).mono ?_
    rintro e _ ⟨rfl, rfl⟩
    go_wp2_with fail
    go_ret
    refine ⟨?_, rfl⟩
    first
      | rfl
      | (show Ending.returned (.bool _) = _; simp; omega)

theorem tells_top (w : World) (a b : Int) : Calls Try.prog 4 #[.int .u64 a, .int .u64 b] w fun e w' => e = .returned (.bool true) ∧ Below w.heap.size w w' :=
  (tells_any w a b).mono fun _ _ h => ⟨h.1, by rw [h.2]; exact Below.refl _ _⟩
end Go.Proofs.Ytcjmolakcmconaa
