/-
  OWN WORK. BmapOwn: the law's walk.
-/
import Derived.Test.YtkjkmdhbodjeeaaBmRef
import Derived.Test.YtkjkmdhbodjeeaaBaWithin
namespace Go.Proofs.Ytkjkmdhbodjeeaa
open Go.RowKit
namespace Bm
theorem way_own (i j : Int) (h0 : 0 ≤ i) (h1 : i < 276) (k0 : 0 ≤ j) (k1 : j < 276) : (wl i = wl j ∧ wa i = wa j ∧ wb i = wb j) ↔ i = j := by
  constructor
  · intro ⟨e1, e2, e3⟩
    rw [← (bk_way i h0 h1).1, ← (bk_way j k0 k1).1, e1, e2, e3]
  · rintro rfl
    exact ⟨rfl, rfl, rfl⟩
theorem way_room (i : Int) (h0 : 0 ≤ i) (h1 : i < 276) : (wl i = 0 ∧ 0 ≤ wa i ∧ wa i < 4 ∧ wb i = 0 ∧ wa i = i) ∨ (wl i = 1 ∧ 0 ≤ wa i ∧ wa i < 16 ∧ wb i = 0) ∨ (wl i = 2 ∧ 0 ≤ wa i ∧ wa i < 16 ∧ 0 ≤ wb i ∧ wb i < 16) := by
  rcases ways i h0 (by omega) with ⟨h, e1, e2, e3⟩ | ⟨h, h', e1, e2, e3⟩ | ⟨h, e1, e2, e3⟩ <;> omega
end Bm

set_option maxHeartbeats 8000000 in
set_option maxRecDepth 100000 in
theorem own_any (w : World) (i j : Int) (hi0 : -9223372036854775808 ≤ i) (hi1 : i ≤ 9223372036854775807) (hj0 : -9223372036854775808 ≤ j) (hj1 : j ≤ 9223372036854775807) :
    Calls Try.prog 7 #[.int .i64 i, .int .i64 j] w fun e w' => e = .returned (.bool true) ∧ Below w.heap.size w w' := by
  go_enter Try.func7, Try.ntmps7
  go_wp2_with fail
  refine (within_to i 275 275 _ rfl (by omega) hi0 hi1).mono ?_
  rintro e _ ⟨p, hp, rfl, rfl⟩
  go_wp2_with fail
  refine (within_to j 275 275 _ rfl (by omega) hj0 hj1).mono ?_
  rintro e _ ⟨q, hq, rfl, rfl⟩
  have ho := Bm.way_own p q (by omega) (by omega) (by omega) (by omega)
  have hr := Bm.way_room p (by omega) (by omega)
  have HV : Hid (Bm.way p = .tuple #[.int .i64 (Bm.wl p), .int .i64 (Bm.wa p), .int .i64 (Bm.wb p), .int .i64 0]) := by show _ = _; unfold Bm.way; rw [Bm.we_ok p (by omega) (by omega)]
  have HU : Hid (Bm.way q = .tuple #[.int .i64 (Bm.wl q), .int .i64 (Bm.wa q), .int .i64 (Bm.wb q), .int .i64 0]) := by show _ = _; unfold Bm.way; rw [Bm.we_ok _ (by omega) (by omega)]
  obtain ⟨l, hl⟩ : ∃ l, l = Bm.wl p := ⟨_, rfl⟩
  obtain ⟨a, ha⟩ : ∃ a, a = Bm.wa p := ⟨_, rfl⟩
  obtain ⟨b, hb⟩ : ∃ b, b = Bm.wb p := ⟨_, rfl⟩
  obtain ⟨x, hx⟩ : ∃ x, x = Bm.wl q := ⟨_, rfl⟩
  obtain ⟨y, hy⟩ : ∃ y, y = Bm.wa q := ⟨_, rfl⟩
  obtain ⟨z, hz⟩ : ∃ z, z = Bm.wb q := ⟨_, rfl⟩
  rw [← hl, ← ha, ← hb] at hr HV
  rw [← hx, ← hy, ← hz] at HU
  rw [← hl, ← ha, ← hb, ← hx, ← hy, ← hz] at ho
  clear hl ha hb hx hy hz
  obtain ⟨c, hc⟩ : ∃ c, ((p : Int) == (q : Int)) = c := ⟨_, rfl⟩
  have HC : Hid ((decide (l = x) && (decide (a = y) && decide (b = z))) = c) := by
    show _ = _
    rw [← hc]
    have : ((p : Int) == (q : Int)) = decide ((p : Int) = (q : Int)) := rfl
    rw [this, ← Bool.decide_and, ← Bool.decide_and]
    exact decide_eq_decide.2 ho
  clear ho
  obtain ⟨c1, hc1⟩ : ∃ c, (l == x) = c := ⟨_, rfl⟩
  obtain ⟨c2, hc2⟩ : ∃ c, (a == y) = c := ⟨_, rfl⟩
  obtain ⟨c3, hc3⟩ : ∃ c, (b == z) = c := ⟨_, rfl⟩
  have hcc : (c1 && (c2 && c3)) = c := by rw [← HC.out, ← hc1, ← hc2, ← hc3]; rfl
  have HC2 := Lib.hid hcc
  clear HC hcc
  go_wp2_with fail
  refine (way_any _ p).mono ?_
  rintro e _ ⟨rfl, rfl⟩
  rw [HV.out]
  go_wp2_with fail
  refine (way_any _ q).mono ?_
  rintro e _ ⟨rfl, rfl⟩
  rw [HU.out]
  clear HV HU
  have K1 := Lib.hid hc1
  have K2 := Lib.hid hc2
  have K3 := Lib.hid hc3
  have K4 := Lib.hid hc
  clear hc1 hc2 hc3 hc
  have H40 : (c1 = true ∧ c2 = true ∧ c3 = true ∧ c = true ∨ c1 = false ∧ c = false ∨ c1 = true ∧ c2 = false ∧ c = false ∨ c1 = true ∧ c2 = true ∧ c3 = false ∧ c = false) := by
    have := HC2.out
    clear hr
    revert this
    cases c1 <;> cases c2 <;> cases c3 <;> cases c <;> simp
  have H4 := Lib.hid H40
  clear HC2 H40
  rcases H4.out with ⟨rfl, rfl, rfl, rfl⟩ | ⟨rfl, rfl⟩ | ⟨rfl, rfl, rfl⟩ | ⟨rfl, rfl, rfl, rfl⟩
  all_goals
    clear H4
    have k1 := K1.out
    have k2 := K2.out
    have k3 := K3.out
    have k4 := K4.out
    rcases hr with ⟨rfl, r1, r2, rfl, r3⟩ | ⟨rfl, r1, r2, rfl⟩ | ⟨rfl, r1, r2, r3, r4⟩
  all_goals
    try subst r3
    go_wp2_with fail
    refine (known_any _).mono ?_
    rintro e _ ⟨rfl, rfl⟩
    go_wp2_with fail
    go_ret
    exact ⟨rfl, Below.refl _ _⟩
end Go.Proofs.Ytkjkmdhbodjeeaa
