/-
  OWN WORK. BmapGrows: the law's walk.
-/
import Derived.Test.YtkjkmdhbodjeeaaBmRef
import Derived.Test.YtkjkmdhbodjeeaaBaWithin
namespace Go.Proofs.Ytkjkmdhbodjeeaa
open Go.RowKit
namespace Bm
theorem way_up (n : Int) (h0 : 0 ≤ n) (h1 : n + 1 < 276) : wl n < wl (n + 1) ∨ (wl n = wl (n + 1) ∧ wa n < wa (n + 1)) ∨ (wl n = wl (n + 1) ∧ wa n = wa (n + 1) ∧ wb n < wb (n + 1)) := by
  rcases ways n h0 (by omega) with ⟨h, e1, e2, e3⟩ | ⟨h, h', e1, e2, e3⟩ | ⟨h, e1, e2, e3⟩ <;>
  rcases ways (n + 1) (by omega) h1 with ⟨k, f1, f2, f3⟩ | ⟨k, k', f1, f2, f3⟩ | ⟨k, f1, f2, f3⟩ <;> omega
theorem xs_up (n : Int) (_h0 : 0 ≤ n) (_h1 : n + 1 < 276) : xs n ≤ xs (n + 1) ∧ xs (n + 1) - xs n ≤ 2 ∧ (xs (n + 1) - xs n = 2 ↔ n = 20) := by
  unfold xs
  rcases Int.lt_or_le n 4 with h | h
  · rw [if_pos (by omega), if_pos (by omega)]; omega
  · rcases Int.lt_or_le n 5 with h2 | h2
    · rw [if_pos (by omega), if_neg (by omega), if_pos (by omega)]; omega
    · rcases Int.lt_or_le n 20 with h3 | h3
      · rw [if_neg (by omega), if_pos (by omega), if_neg (by omega), if_pos (by omega)]; omega
      · rcases Int.lt_or_le n 21 with h4 | h4
        · rw [if_neg (by omega), if_pos (by omega), if_neg (by omega), if_neg (by omega)]; omega
        · rw [if_neg (by omega), if_neg (by omega), if_neg (by omega), if_neg (by omega)]; omega
end Bm

set_option maxHeartbeats 8000000 in
set_option maxRecDepth 100000 in
theorem grows_any (w : World) (n : Int) (hn0 : -9223372036854775808 ≤ n) (hn1 : n ≤ 9223372036854775807) :
    Calls Try.prog 6 #[.int .i64 n] w fun e w' => e = .returned (.bool true) ∧ Below w.heap.size w w' := by
  go_enter Try.func6, Try.ntmps6
  go_wp2_with fail
  refine (within_to n 274 274 _ rfl (by omega) hn0 hn1).mono ?_
  rintro e _ ⟨q, hq, rfl, rfl⟩
  have hu := Bm.way_up q (by omega) (by omega)
  obtain ⟨x0, x1, x2⟩ := Bm.xs_up q (by omega) (by omega)
  have hb := Bm.xs_le q (by omega)
  have hb' := Bm.xs_le ((q : Int) + 1) (by omega)
  have EX := Lib.hid (Bm.extra_xs (n := q) (by omega))
  have EY := Lib.hid (Bm.extra_xs (n := (q : Int) + 1) (by omega))
  have HV : Hid (Bm.way q = .tuple #[.int .i64 (Bm.wl q), .int .i64 (Bm.wa q), .int .i64 (Bm.wb q), .int .i64 0]) := by show _ = _; unfold Bm.way; rw [Bm.we_ok q (by omega) (by omega)]
  have HU : Hid (Bm.way ((q : Int) + 1) = .tuple #[.int .i64 (Bm.wl ((q : Int) + 1)), .int .i64 (Bm.wa ((q : Int) + 1)), .int .i64 (Bm.wb ((q : Int) + 1)), .int .i64 0]) := by show _ = _; unfold Bm.way; rw [Bm.we_ok _ (by omega) (by omega)]
  generalize Bm.wl q = l at *
  generalize Bm.wa q = a at *
  generalize Bm.wb q = b at *
  generalize Bm.wl ((q : Int) + 1) = l2 at *
  generalize Bm.wa ((q : Int) + 1) = a2 at *
  generalize Bm.wb ((q : Int) + 1) = b2 at *
  generalize Bm.xs q = x at *
  generalize Bm.xs ((q : Int) + 1) = y at *
  obtain ⟨p, hp⟩ : ∃ p, decide (y - x = 2) = p := ⟨_, rfl⟩
  have hp2 : decide ((q : Int) = 20) = p := by rw [← hp]; exact decide_eq_decide.2 ⟨fun h => x2.2 h, fun h => x2.1 h⟩
  have P1 := Lib.hid hp
  have P2 := Lib.hid hp2
  have p1 : (y - x == 2) = p := by have := P1.out; rw [← this]; rfl
  have p2 : ((q : Int) == 20) = p := by have := P2.out; rw [← this]; rfl
  clear x2 hp hp2
  go_wp2_with fail
  refine (way_any _ q).mono ?_
  rintro e _ ⟨rfl, rfl⟩
  rw [HV.out]
  go_wp2_with fail
  refine (way_any _ ((q : Int) + 1)).mono ?_
  rintro e _ ⟨rfl, rfl⟩
  rw [HU.out]
  go_wp2_with fail
  refine (extra_any _ q).mono ?_
  rintro e _ ⟨rfl, rfl⟩
  rw [EX.out]
  go_wp2_with fail
  refine (extra_any _ ((q : Int) + 1)).mono ?_
  rintro e _ ⟨rfl, rfl⟩
  rw [EY.out]
  obtain ⟨bx, _⟩ := hb
  obtain ⟨_, by_⟩ := hb'
  rcases hu with h | ⟨rfl, h⟩ | ⟨rfl, rfl, h⟩
  all_goals
    go_wp2_with fail
    refine (known_any _).mono ?_
    rintro e _ ⟨rfl, rfl⟩
    go_wp2_with fail
    go_ret
    exact ⟨rfl, Below.refl _ _⟩
end Go.Proofs.Ytkjkmdhbodjeeaa
