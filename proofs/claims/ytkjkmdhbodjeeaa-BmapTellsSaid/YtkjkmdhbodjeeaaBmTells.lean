/-
  OWN WORK. BmapTells: the law's walk.
-/
import Derived.Test.YtkjkmdhbodjeeaaBmRef
import Derived.Test.YtkjkmdhbodjeeaaBaWithin
namespace Go.Proofs.Ytkjkmdhbodjeeaa
open Go.RowKit

set_option maxHeartbeats 8000000 in
set_option maxRecDepth 100000 in
theorem tells_any (w : World) (k n size : Int) (hk0 : -9223372036854775808 ≤ k) (hk1 : k ≤ 9223372036854775807) (hs : size ≤ 9223372036854775807) :
    Calls Try.prog 4 #[.int .i64 k, .int .i64 n, .int .i64 size] w fun e w' => e = .returned (.bool true) ∧ Below w.heap.size w w' := by
  go_enter Try.func4, Try.ntmps4
  obtain ⟨l, a, b, c, hw⟩ : ∃ l a b c, Bm.way k = .tuple #[.int .i64 l, .int .i64 a, .int .i64 b, .int .i64 c] := ⟨_, _, _, _, rfl⟩
  obtain ⟨x, y, hx⟩ : ∃ x y, Bm.extra n = .tuple #[.int .i64 x, .int .i64 y] := ⟨_, _, rfl⟩
  have HW := Lib.hid hw
  have HX := Lib.hid hx
  clear hw hx
  go_wp2_with fail
  refine (way_any _ k).mono ?_
  rintro e _ ⟨rfl, rfl⟩
  rw [HW.out]
  go_wp2_with fail
  refine (refWay_any _ k).mono ?_
  rintro e _ ⟨rfl, rfl⟩
  rw [HW.out]
  go_wp2_with fail
  refine (extra_any _ n).mono ?_
  rintro e _ ⟨rfl, rfl⟩
  rw [HX.out]
  go_wp2_with fail
  refine (refExtra_any _ n).mono ?_
  rintro e _ ⟨rfl, rfl⟩
  rw [HX.out]
  go_wp2_with fail
  refine (blocks_any _ size hs).mono ?_
  rintro e _ ⟨rfl, rfl⟩
  obtain ⟨z, hz⟩ : ∃ z, Bm.bl size = z := ⟨_, rfl⟩
  rw [hz]
  have HZ := Lib.hid hz
  clear hz
  go_wp2_with fail
  refine (refBlocks_any _ size hs).mono ?_
  rintro e _ ⟨rfl, rfl⟩
  rw [HZ.out]
  go_wp2_with fail
  refine (within_to k 275 275 _ rfl (by omega) hk0 hk1).mono ?_
  rintro e _ ⟨q, hq, rfl, rfl⟩
  obtain ⟨l2, a2, b2, c2, hV, hB⟩ : ∃ l a b c, Bm.way (q : Nat) = .tuple #[.int .i64 l, .int .i64 a, .int .i64 b, .int .i64 c] ∧ Bm.back l a b = .tuple #[.int .i64 (q : Nat), .int .i64 0] :=
    ⟨_, _, _, _, rfl, by have h := Bm.bk_way (q : Nat) (by omega) (by omega); unfold Bm.back; rw [h.1, h.2]⟩
  have HV := Lib.hid hV
  have HB := Lib.hid hB
  clear hV hB
  go_wp2_with fail
  refine (way_any _ q).mono ?_
  rintro e _ ⟨rfl, rfl⟩
  rw [HV.out]
  go_wp2_with fail
  refine (back_any _ l2 a2 b2).mono ?_
  rintro e _ ⟨rfl, rfl⟩
  rw [HB.out]
  go_wp2_with fail
  refine (known_any _).mono ?_
  rintro e _ ⟨rfl, rfl⟩
  go_wp2_with fail
  go_ret
  exact ⟨rfl, Below.refl _ _⟩
end Go.Proofs.Ytkjkmdhbodjeeaa
