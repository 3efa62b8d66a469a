/-
  OWN WORK. ClockLonger: the law's walk, way by way.
-/
import Derived.Test.YtcjmolakcmconaaClCode
namespace Go.Proofs.Ytcjmolakcmconaa
open Go.RowKit

theorem lo_in {x y : Int} (h : (decide (y ≤ 1099511627776) && decide (x ≤ y)) = true) : y ≤ 1099511627776 ∧ x ≤ y := by simpa using h
theorem lo_of {x y : Int} (h : y ≤ 1099511627776) (h2 : x ≤ y) : (decide (y ≤ 1099511627776) && decide (x ≤ y)) = true := by simp [h, h2]
theorem lo_self (x : Int) : (decide (x ≤ 1099511627776) && decide (x ≤ x)) = decide (x ≤ 1099511627776) := by simp
theorem nextOf_ge (now tick : Int) : now ≤ nextOf now tick := by
  unfold nextOf
  by_cases h : tick ≤ 1099511627776 <;> by_cases h2 : now < tick <;> simp [h, h2] <;> omega

set_option maxHeartbeats 8000000 in
set_option maxRecDepth 100000 in
theorem longer_law (w : World) (a b c now : Int) : Calls Try.prog 6 #[.int .u64 a, .int .u64 b, .int .u64 c, .int .u64 now] w fun e w' => e = .returned (.bool true) ∧ w' = w := by
  go_enter Try.func6, Try.ntmps6
  have HR : Hid (decide (a ≤ 1099511627776) = true) ∨ Hid (decide (a ≤ 1099511627776) = false) := by cases decide (a ≤ 1099511627776) <;> simp [Hid]
  cases hA : (decide (b ≤ 1099511627776) && decide (a ≤ b))
  · have A := Lib.hid hA
    clear hA
    go_wp2_with fail
    refine (longer_any _ a b).mono ?_
    rintro e _ ⟨rfl, rfl⟩
    rw [A.out]
    go_wp2_with fail
    refine (longer_any _ a b).mono ?_
    rintro e _ ⟨rfl, rfl⟩
    rw [A.out]
    go_wp2_with fail
    refine (longer_any _ a b).mono ?_
    rintro e _ ⟨rfl, rfl⟩
    rw [A.out]
    go_wp2_with fail
    rcases HR with R | R
    all_goals
      refine (longer_any _ a a).mono ?_
      rintro e _ ⟨rfl, rfl⟩
      rw [lo_self, R.out]
      go_wp2_with fail
      refine (right_any _ a).mono ?_
      rintro e _ ⟨rfl, rfl⟩
      rw [R.out]
      go_wp2_with fail
      refine (next_any _ now a).mono ?_
      rintro e _ ⟨rfl, rfl⟩
      go_wp2_with fail
      refine (due_any _ (nextOf now a) now).mono ?_
      rintro e _ ⟨rfl, rfl⟩
      rw [decide_eq_true (nextOf_ge now a)]
      go_wp2_with fail
      refine (known_any _).mono ?_
      rintro e _ ⟨rfl, rfl⟩
      go_wp2_with fail
      go_ret
      exact ⟨rfl, rfl⟩
  · obtain ⟨h1, h2⟩ := lo_in hA
    have A := Lib.hid hA
    have H1 := Lib.hid h1
    have H2 := Lib.hid h2
    clear hA h1 h2
    have hn : (b < a) = False := by have := H2.out; simp; omega
    go_wp2_with fail
    refine (longer_any _ a b).mono ?_
    rintro e _ ⟨rfl, rfl⟩
    rw [A.out]
    go_wp2_with fail
    refine (right_any _ b).mono ?_
    rintro e _ ⟨rfl, rfl⟩
    rw [decide_eq_true H1.out]
    go_wp2_with fail
    clear hn
    cases hB : (decide (c ≤ 1099511627776) && decide (b ≤ c))
    · have B := Lib.hid hB
      clear hB
      refine (longer_any _ a b).mono ?_
      rintro e _ ⟨rfl, rfl⟩
      rw [A.out]
      go_wp2_with fail
      refine (longer_any _ b c).mono ?_
      rintro e _ ⟨rfl, rfl⟩
      rw [B.out]
      go_wp2_with fail
      cases hD : decide (b ≤ now)
      · have DD := Lib.hid hD
        clear hD
        refine (longer_any _ a b).mono ?_
        rintro e _ ⟨rfl, rfl⟩
        rw [A.out]
        go_wp2_with fail
        refine (due_any _ now b).mono ?_
        rintro e _ ⟨rfl, rfl⟩
        rw [DD.out]
        go_wp2_with fail
        rcases HR with R | R
        all_goals
          refine (longer_any _ a a).mono ?_
          rintro e _ ⟨rfl, rfl⟩
          rw [lo_self, R.out]
          go_wp2_with fail
          refine (right_any _ a).mono ?_
          rintro e _ ⟨rfl, rfl⟩
          rw [R.out]
          go_wp2_with fail
          refine (next_any _ now a).mono ?_
          rintro e _ ⟨rfl, rfl⟩
          go_wp2_with fail
          refine (due_any _ (nextOf now a) now).mono ?_
          rintro e _ ⟨rfl, rfl⟩
          rw [decide_eq_true (nextOf_ge now a)]
          go_wp2_with fail
          refine (known_any _).mono ?_
          rintro e _ ⟨rfl, rfl⟩
          go_wp2_with fail
          go_ret
          exact ⟨rfl, rfl⟩
      · have DD := Lib.hid hD
        have D2 : Hid (decide (a ≤ now) = true) := by
          have h := of_decide_eq_true hD
          have h2 := H2.out
          exact decide_eq_true (by omega)
        clear hD
        refine (longer_any _ a b).mono ?_
        rintro e _ ⟨rfl, rfl⟩
        rw [A.out]
        go_wp2_with fail
        refine (due_any _ now b).mono ?_
        rintro e _ ⟨rfl, rfl⟩
        rw [DD.out]
        go_wp2_with fail
        refine (due_any _ now a).mono ?_
        rintro e _ ⟨rfl, rfl⟩
        rw [D2.out]
        go_wp2_with fail
        rcases HR with R | R
        all_goals
          refine (longer_any _ a a).mono ?_
          rintro e _ ⟨rfl, rfl⟩
          rw [lo_self, R.out]
          go_wp2_with fail
          refine (right_any _ a).mono ?_
          rintro e _ ⟨rfl, rfl⟩
          rw [R.out]
          go_wp2_with fail
          refine (next_any _ now a).mono ?_
          rintro e _ ⟨rfl, rfl⟩
          go_wp2_with fail
          refine (due_any _ (nextOf now a) now).mono ?_
          rintro e _ ⟨rfl, rfl⟩
          rw [decide_eq_true (nextOf_ge now a)]
          go_wp2_with fail
          refine (known_any _).mono ?_
          rintro e _ ⟨rfl, rfl⟩
          go_wp2_with fail
          go_ret
          exact ⟨rfl, rfl⟩
    · have B := Lib.hid hB
      have B2 : Hid ((decide (c ≤ 1099511627776) && decide (a ≤ c)) = true) := lo_of (lo_in hB).1 (Int.le_trans H2.out (lo_in hB).2)
      clear hB
      refine (longer_any _ a b).mono ?_
      rintro e _ ⟨rfl, rfl⟩
      rw [A.out]
      go_wp2_with fail
      refine (longer_any _ b c).mono ?_
      rintro e _ ⟨rfl, rfl⟩
      rw [B.out]
      go_wp2_with fail
      refine (longer_any _ a c).mono ?_
      rintro e _ ⟨rfl, rfl⟩
      rw [B2.out]
      go_wp2_with fail
      cases hD : decide (b ≤ now)
      · have DD := Lib.hid hD
        clear hD
        refine (longer_any _ a b).mono ?_
        rintro e _ ⟨rfl, rfl⟩
        rw [A.out]
        go_wp2_with fail
        refine (due_any _ now b).mono ?_
        rintro e _ ⟨rfl, rfl⟩
        rw [DD.out]
        go_wp2_with fail
        rcases HR with R | R
        all_goals
          refine (longer_any _ a a).mono ?_
          rintro e _ ⟨rfl, rfl⟩
          rw [lo_self, R.out]
          go_wp2_with fail
          refine (right_any _ a).mono ?_
          rintro e _ ⟨rfl, rfl⟩
          rw [R.out]
          go_wp2_with fail
          refine (next_any _ now a).mono ?_
          rintro e _ ⟨rfl, rfl⟩
          go_wp2_with fail
          refine (due_any _ (nextOf now a) now).mono ?_
          rintro e _ ⟨rfl, rfl⟩
          rw [decide_eq_true (nextOf_ge now a)]
          go_wp2_with fail
          refine (known_any _).mono ?_
          rintro e _ ⟨rfl, rfl⟩
          go_wp2_with fail
          go_ret
          exact ⟨rfl, rfl⟩
      · have DD := Lib.hid hD
        have D2 : Hid (decide (a ≤ now) = true) := by
          have h := of_decide_eq_true hD
          have h2 := H2.out
          exact decide_eq_true (by omega)
        clear hD
        refine (longer_any _ a b).mono ?_
        rintro e _ ⟨rfl, rfl⟩
        rw [A.out]
        go_wp2_with fail
        refine (due_any _ now b).mono ?_
        rintro e _ ⟨rfl, rfl⟩
        rw [DD.out]
        go_wp2_with fail
        refine (due_any _ now a).mono ?_
        rintro e _ ⟨rfl, rfl⟩
        rw [D2.out]
        go_wp2_with fail
        rcases HR with R | R
        all_goals
          refine (longer_any _ a a).mono ?_
          rintro e _ ⟨rfl, rfl⟩
          rw [lo_self, R.out]
          go_wp2_with fail
          refine (right_any _ a).mono ?_
          rintro e _ ⟨rfl, rfl⟩
          rw [R.out]
          go_wp2_with fail
          refine (next_any _ now a).mono ?_
          rintro e _ ⟨rfl, rfl⟩
          go_wp2_with fail
          refine (due_any _ (nextOf now a) now).mono ?_
          rintro e _ ⟨rfl, rfl⟩
          rw [decide_eq_true (nextOf_ge now a)]
          go_wp2_with fail
          refine (known_any _).mono ?_
          rintro e _ ⟨rfl, rfl⟩
          go_wp2_with fail
          go_ret
          exact ⟨rfl, rfl⟩

theorem longer_top (w : World) (a b c now : Int) : Calls Try.prog 6 #[.int .u64 a, .int .u64 b, .int .u64 c, .int .u64 now] w fun e w' => e = .returned (.bool true) ∧ Below w.heap.size w w' :=
  (longer_law w a b c now).mono fun _ _ h => ⟨h.1, by rw [h.2]; exact Below.refl _ _⟩
end Go.Proofs.Ytcjmolakcmconaa
