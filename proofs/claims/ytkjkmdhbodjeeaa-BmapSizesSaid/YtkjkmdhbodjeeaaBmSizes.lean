/-
  OWN WORK. BmapSizes: the law's walk.
-/
import Derived.Test.YtkjkmdhbodjeeaaBmRef
import Derived.Test.YtkjkmdhbodjeeaaBaWithin
namespace Go.Proofs.Ytkjkmdhbodjeeaa
open Go.RowKit

set_option maxHeartbeats 8000000 in
set_option maxRecDepth 100000 in
theorem sizes_any (w : World) (n : Int) (hn0 : -9223372036854775808 ≤ n) (hn1 : n ≤ 9223372036854775807) :
    Calls Try.prog 8 #[.int .i64 n] w fun e w' => e = .returned (.bool true) ∧ Below w.heap.size w w' := by
  go_enter Try.func8, Try.ntmps8
  go_wp2_with fail
  refine (within_to n 4096 4096 _ rfl (by omega) hn0 hn1).mono ?_
  rintro e _ ⟨q, hq, rfl, rfl⟩
  go_wp2_with fail
  refine (blocks_any _ q (by omega)).mono ?_
  rintro e _ ⟨rfl, rfl⟩
  obtain ⟨k, hk⟩ : ∃ k, Bm.bl q = k := ⟨_, rfl⟩
  rw [hk]
  have hk' : k = if (q : Int) < 1 then 0 else ((q : Int) - 1) / 128 + 1 := hk.symm
  have f1 : 0 ≤ k ∧ k ≤ 32 ∧ q ≤ k * 128 ∧ (k - 1) * 128 < q + 1 ∧ (k = 0 ↔ (q : Int) = 0) ∧ (k = 0 ∨ (k - 1) * 128 < q) := by
    by_cases h : (q : Int) < 1
    · rw [if_pos h] at hk'; omega
    · rw [if_neg h] at hk'; omega
  obtain ⟨g0, g1, g2, _, g3, g4⟩ := f1
  have hx := Bm.extra_xs (n := k) (by omega)
  obtain ⟨x, hxx⟩ : ∃ x, Bm.xs k = x := ⟨_, rfl⟩
  have f2 : 0 ≤ x ∧ (x = 0 ↔ k ≤ 4) := by
    have : x = if k ≤ 4 then 0 else if k ≤ 20 then 1 else (k - 21) / 16 + 3 := hxx.symm
    by_cases h : k ≤ 4
    · rw [if_pos h] at this; omega
    · rw [if_neg h] at this
      by_cases h2 : k ≤ 20
      · rw [if_pos h2] at this; omega
      · rw [if_neg h2] at this; omega
  rw [hxx] at hx
  have HX := Lib.hid hx
  have HF := Lib.hid f2.2
  have f3 := f2.1
  have HG := Lib.hid g3
  have HH := Lib.hid g4
  clear hk hk' hx hxx f2 g3 g4
  go_wp2_with fail
  refine (extra_any _ k).mono ?_
  rintro e _ ⟨rfl, rfl⟩
  rw [HX.out]
  by_cases hk : k = 0
  · have hq0 : q = 0 := by have := HG.out.1 hk; omega
    have hx0 : x = 0 := HF.out.2 (by omega)
    subst hk hq0 hx0
    go_wp2_with fail
    refine (known_any _).mono ?_
    rintro e _ ⟨rfl, rfl⟩
    go_wp2_with fail
    go_ret
    exact ⟨rfl, Below.refl _ _⟩
  · have ek : (k == 0) = false := by simp [hk]
    have eq0 : ((q : Int) == 0) = false := by have h := HG.out; simp; omega
    have g4 : (k - 1) * 128 < q := HH.out.resolve_left hk
    by_cases h4 : k ≤ 4
    · have ex : (x == 0) = true := by simp; exact HF.out.2 h4
      go_wp2_with fail
      refine (known_any _).mono ?_
      rintro e _ ⟨rfl, rfl⟩
      go_wp2_with fail
      go_ret
      exact ⟨rfl, Below.refl _ _⟩
    · have ex : (x == 0) = false := by have h := HF.out; simp; omega
      go_wp2_with fail
      refine (known_any _).mono ?_
      rintro e _ ⟨rfl, rfl⟩
      go_wp2_with fail
      go_ret
      refine ⟨?_, Below.refl _ _⟩
      show Ending.returned (.bool (!decide (k ≤ 4))) = _
      rw [decide_eq_false (by omega)]
      rfl
end Go.Proofs.Ytkjkmdhbodjeeaa
