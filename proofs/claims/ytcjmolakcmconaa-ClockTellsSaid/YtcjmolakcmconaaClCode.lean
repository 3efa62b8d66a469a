/-
  OWN WORK. Right, Due, Longer, Next: what each answers; the world stays as it is.
-/
import Derived.Test.YtcjmolakcmconaaBaMem
import Derived.Lib.Hide
namespace Go.Proofs.Ytcjmolakcmconaa
open Go.RowKit

/-- The greater of both, if the tick is a time; else now. -/
def nextOf (now tick : Int) : Int := if tick ≤ 1099511627776 then (if tick > now then tick else now) else now

theorem right_any (w : World) (t : Int) : Calls Try.prog 10 #[.int .u64 t] w fun e w' => e = .returned (.bool (decide (t ≤ 1099511627776))) ∧ w' = w := by
  go_enter Try.func10, Try.ntmps10
  go_wp2
  go_ret
  exact ⟨rfl, rfl⟩

theorem due_any (w : World) (now until_ : Int) : Calls Try.prog 8 #[.int .u64 now, .int .u64 until_] w fun e w' => e = .returned (.bool (decide (until_ ≤ now))) ∧ w' = w := by
  go_enter Try.func8, Try.ntmps8
  go_wp2
  go_ret
  exact ⟨by simp, rfl⟩

theorem longer_any (w : World) (old until_ : Int) : Calls Try.prog 9 #[.int .u64 old, .int .u64 until_] w fun e w' => e = .returned (.bool (decide (until_ ≤ 1099511627776) && decide (old ≤ until_))) ∧ w' = w := by
  go_enter Try.func9, Try.ntmps9
  go_wp2_with fail
  refine (right_any w until_).mono ?_
  rintro e _ ⟨rfl, rfl⟩
  by_cases h : until_ ≤ 1099511627776
  · rw [decide_eq_true h]
    by_cases h2 : old ≤ until_
    · go_wp2_with fail
      go_ret
      exact ⟨by simp [h, h2], rfl⟩
    · go_wp2_with fail
      go_ret
      exact ⟨by simp [h, h2], rfl⟩
  · rw [decide_eq_false h]
    go_wp2_with fail
    go_ret
    exact ⟨by simp; omega, rfl⟩

theorem next_any (w : World) (now tick : Int) : Calls Try.prog 7 #[.int .u64 now, .int .u64 tick] w fun e w' => e = .returned (.int .u64 (nextOf now tick)) ∧ w' = w := by
  go_enter Try.func7, Try.ntmps7
  go_wp2_with fail
  refine (right_any w tick).mono ?_
  rintro e _ ⟨rfl, rfl⟩
  by_cases h : tick ≤ 1099511627776
  · have e : nextOf now tick = if tick > now then tick else now := if_pos h
    have E := Lib.hid e
    rw [decide_eq_true h]
    clear h e
    by_cases h2 : now < tick
    · go_wp2_with fail
      go_ret
      exact ⟨by rw [E.out, if_pos h2]; rfl, rfl⟩
    · go_wp2_with fail
      go_ret
      exact ⟨by rw [E.out, if_neg (by omega)]; rfl, rfl⟩
  · have e : nextOf now tick = now := if_neg h
    have E := Lib.hid e
    rw [decide_eq_false h]
    clear h e
    go_wp2_with fail
    go_ret
    exact ⟨by rw [E.out]; rfl, rfl⟩

theorem known_any (w : World) : Calls Try.prog 11 #[] w fun e w' => e = .returned (.bool true) ∧ w' = w := by
  go_enter Try.func11, Try.ntmps11
  go_wp2_with fail
  refine (next_any w 5 3).mono ?_
  rintro e _ ⟨rfl, rfl⟩
  rw [show nextOf 5 3 = 5 from by decide]
  go_wp2_with fail
  refine (next_any _ 5 9).mono ?_
  rintro e _ ⟨rfl, rfl⟩
  rw [show nextOf 5 9 = 9 from by decide]
  go_wp2_with fail
  refine (due_any _ 0 0).mono ?_
  rintro e _ ⟨rfl, rfl⟩
  go_wp2_with fail
  go_ret
  exact ⟨rfl, rfl⟩
end Go.Proofs.Ytcjmolakcmconaa
