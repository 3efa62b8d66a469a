/-
  OWN WORK. BmapNumbers: the law's walk.
-/
import Derived.Test.YtkjkmdhbodjeeaaBmRef
namespace Go.Proofs.Ytkjkmdhbodjeeaa
open Go.RowKit

set_option maxHeartbeats 8000000 in
set_option maxRecDepth 100000 in
theorem numbers_any (w : World) : Calls Try.prog 3 #[] w fun e w' => e = .returned (.bool true) ∧ w' = w := by
  go_enter Try.func3, Try.ntmps3
  go_wp2_with fail
  go_loopw [1] (fun t1 wr => ∃ k : Int, -2 ≤ k ∧ k ≤ 280 ∧ t1 = .int .i64 k ∧ wr = w) (fun t1 _ => match t1 with | .int _ k => (280 - k).toNat | _ => 0)
  case atStart => exact ⟨-2, by omega, by omega, rfl, rfl⟩
  case round =>
    obtain ⟨k, h0, h1, rfl, rfl⟩ := hrel
    by_cases hlt : k < 280
    · obtain ⟨l, a, b, c, hw⟩ : ∃ l a b c, Bm.way k = .tuple #[.int .i64 l, .int .i64 a, .int .i64 b, .int .i64 c] := ⟨_, _, _, _, rfl⟩
      obtain ⟨x, y, hx⟩ : ∃ x y, Bm.extra k = .tuple #[.int .i64 x, .int .i64 y] := ⟨_, _, rfl⟩
      have HW := Lib.hid hw
      have HX := Lib.hid hx
      clear hw hx
      go_wp2_with fail
      refine (way_any _ k).mono ?_
      rintro e _ ⟨rfl, rfl⟩
      rw [HW.out]
      go_wp2_with fail
      refine (refWay_any _ k).mono ?_
      rintro e _ ⟨rfl, rfl⟩
      rw [HW.out]
      go_wp2_with fail
      refine (extra_any _ k).mono ?_
      rintro e _ ⟨rfl, rfl⟩
      rw [HX.out]
      go_wp2_with fail
      refine (refExtra_any _ k).mono ?_
      rintro e _ ⟨rfl, rfl⟩
      rw [HX.out]
      go_wp2_with fail
      go_roundw
      case rel => exact ⟨k + 1, by omega, by omega, rfl, by first | rfl | trivial⟩
      case measure => simp; omega
    · go_wp2_with fail
      go_loopw [14] (fun t14 wq => ∃ l : Int, -1 ≤ l ∧ l ≤ 4 ∧ t14 = .int .i64 l ∧ wq = wr) (fun t14 _ => match t14 with | .int _ k => (4 - k).toNat | _ => 0)
      case atStart => exact ⟨-1, by omega, by omega, rfl, rfl⟩
      case round =>
        obtain ⟨l, l0, l1, rfl, rfl⟩ := hrel
        by_cases hll : l < 4
        · go_wp2_with fail
          go_loopw [15] (fun t15 wq => ∃ a : Int, -1 ≤ a ∧ a ≤ 18 ∧ t15 = .int .i64 a ∧ wq = wr) (fun t15 _ => match t15 with | .int _ k => (18 - k).toNat | _ => 0)
          case atStart => exact ⟨-1, by omega, by omega, rfl, rfl⟩
          case round =>
            obtain ⟨a, a0, a1, rfl, rfl⟩ := hrel
            by_cases hla : a < 18
            · go_wp2_with fail
              go_loopw [16] (fun t16 wq => ∃ b : Int, -1 ≤ b ∧ b ≤ 18 ∧ t16 = .int .i64 b ∧ wq = wr) (fun t16 _ => match t16 with | .int _ k => (18 - k).toNat | _ => 0)
              case atStart => exact ⟨-1, by omega, by omega, rfl, rfl⟩
              case round =>
                obtain ⟨b, b0, b1, rfl, rfl⟩ := hrel
                by_cases hlb : b < 18
                · go_wp2_with fail
                  refine (back_any _ l a b).mono ?_
                  rintro e _ ⟨rfl, rfl⟩
                  by_cases hL : Bm.leads l a b
                  · obtain ⟨hk0, hk1, ew, ea, eb, ee⟩ := Bm.way_bk hL
                    have hB : Bm.back l a b = .tuple #[.int .i64 (Bm.bk l a b), .int .i64 0] := by unfold Bm.back Bm.be; rw [if_pos hL]
                    have hV : Bm.way (Bm.bk l a b) = .tuple #[.int .i64 l, .int .i64 a, .int .i64 b, .int .i64 0] := by unfold Bm.way; rw [ew, ea, eb, ee]
                    obtain ⟨q, hq⟩ : ∃ q, q = Bm.bk l a b := ⟨_, rfl⟩
                    rw [← hq] at hB hV hk0 hk1
                    rw [hB]
                    have HV := Lib.hid hV
                    clear ew ea eb ee hq hL hB hV
                    go_wp2_with fail
                    refine (refWay_any _ q).mono ?_
                    rintro e _ ⟨rfl, rfl⟩
                    rw [HV.out]
                    go_wp2_with fail
                    go_roundw
                    case rel => exact ⟨b + 1, by omega, by omega, rfl, by first | rfl | trivial⟩
                    case measure => simp; omega
                  · have hB : Bm.back l a b = .tuple #[.int .i64 0, .int .i64 1] := by unfold Bm.back Bm.be Bm.bk; rw [if_neg hL, if_neg hL]
                    rw [hB]
                    clear hL hB
                    go_wp2_with fail
                    refine (refWay_any _ 0).mono ?_
                    rintro e _ ⟨rfl, rfl⟩
                    rw [show Bm.way 0 = .tuple #[.int .i64 0, .int .i64 0, .int .i64 0, .int .i64 0] from rfl]
                    go_wp2_with fail
                    go_roundw
                    case rel => exact ⟨b + 1, by omega, by omega, rfl, by first | rfl | trivial⟩
                    case measure => simp; omega
                · go_wp2_with fail
                  go_roundw
                  case rel => exact ⟨a + 1, by omega, by omega, rfl, by first | rfl | trivial⟩
                  case measure => simp; omega
            · go_wp2_with fail
              go_roundw
              case rel => exact ⟨l + 1, by omega, by omega, rfl, by first | rfl | trivial⟩
              case measure => simp; omega
        · go_wp2_with fail
          refine (blocks_any _ (-5) (by omega)).mono ?_
          rintro e _ ⟨rfl, rfl⟩
          rw [show Bm.bl (-5) = 0 from rfl]
          go_wp2_with fail
          refine (blocks_any _ 0 (by omega)).mono ?_
          rintro e _ ⟨rfl, rfl⟩
          rw [show Bm.bl 0 = 0 from rfl]
          go_wp2_with fail
          refine (blocks_any _ 1 (by omega)).mono ?_
          rintro e _ ⟨rfl, rfl⟩
          rw [show Bm.bl 1 = 1 from rfl]
          go_wp2_with fail
          refine (blocks_any _ 128 (by omega)).mono ?_
          rintro e _ ⟨rfl, rfl⟩
          rw [show Bm.bl 128 = 1 from rfl]
          go_wp2_with fail
          refine (blocks_any _ 129 (by omega)).mono ?_
          rintro e _ ⟨rfl, rfl⟩
          rw [show Bm.bl 129 = 2 from rfl]
          go_wp2_with fail
          refine (blocks_any _ 4611686018427387904 (by omega)).mono ?_
          rintro e _ ⟨rfl, rfl⟩
          rw [show Bm.bl 4611686018427387904 = 36028797018963968 from rfl]
          go_wp2_with fail
          refine (known_any _).mono ?_
          rintro e _ ⟨rfl, rfl⟩
          go_wp2_with fail
          go_ret
          exact ⟨rfl, rfl⟩

theorem numbers_top (w : World) : Calls Try.prog 3 #[] w fun e w' => e = .returned (.bool true) ∧ Below w.heap.size w w' :=
  (numbers_any w).mono fun _ _ h => ⟨h.1, by rw [h.2]; exact Below.refl _ _⟩
end Go.Proofs.Ytkjkmdhbodjeeaa
