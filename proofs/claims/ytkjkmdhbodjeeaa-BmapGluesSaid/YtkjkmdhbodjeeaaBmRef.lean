/-
  OWN WORK. The document's Way, Extra, Blocks, and the runs that are known: what each answers; the world stays as it is.
-/
import Derived.Test.YtkjkmdhbodjeeaaBmCode
namespace Go.Proofs.Ytkjkmdhbodjeeaa
open Go.RowKit
namespace Bm
/-- Extra, as it is counted up. -/
def xs (n : Int) : Int := if n ≤ 4 then 0 else if n ≤ 20 then 1 else (n - 21) / 16 + 3
theorem extra_xs {n : Int} (h : ¬ (n < 0 ∨ 276 < n)) : extra n = .tuple #[.int .i64 (xs n), .int .i64 0] := by
  unfold extra xn xe xs
  rw [if_neg h, if_neg h]
theorem xs_le (n : Int) (h : n ≤ 276) : 0 ≤ xs n ∧ xs n ≤ 18 := by
  unfold xs
  split
  · omega
  · split <;> omega
end Bm

set_option maxHeartbeats 1000000 in
set_option maxRecDepth 100000 in
theorem refWay_any (w : World) (k : Int) : Calls Try.prog 10 #[.int .i64 k] w fun e w' => e = .returned (Bm.way k) ∧ w' = w := by
  go_enter Try.func10, Try.ntmps10
  have bad : (k < 0 ∨ 276 ≤ k) → Hid (Bm.way k = .tuple #[.int .i64 0, .int .i64 0, .int .i64 0, .int .i64 1]) := fun h => by
    show _ = _; unfold Bm.way Bm.wl Bm.wa Bm.wb Bm.we
    rw [if_pos h, if_pos h, if_pos (by omega), if_pos h]
  by_cases h0 : k < 0
  · have HD := bad (.inl h0)
    clear bad
    go_wp2_with fail
    (try simp only [Exit.inBlock, Exit.then]); refine bodyPost_ret (results_tmp4 rfl _ _ _) rfl ?_
    exact ⟨by rw [HD.out]; rfl, rfl⟩
  by_cases h1 : 276 ≤ k
  · have HD := bad (.inr h1)
    clear bad
    go_wp2_with fail
    (try simp only [Exit.inBlock, Exit.then]); refine bodyPost_ret (results_tmp4 rfl _ _ _) rfl ?_
    exact ⟨by rw [HD.out]; rfl, rfl⟩
  clear bad
  rcases Bm.ways k (by omega) (by omega) with ⟨h, e1, e2, e3⟩ | ⟨h, h', e1, e2, e3⟩ | ⟨h, e1, e2, e3⟩
  · have HD : Hid (Bm.way k = .tuple #[.int .i64 0, .int .i64 k, .int .i64 0, .int .i64 0]) := by show _ = _; unfold Bm.way; rw [e1, e2, e3, Bm.we_ok k (by omega) (by omega)]
    clear e1 e2 e3
    go_wp2_with fail
    (try simp only [Exit.inBlock, Exit.then]); refine bodyPost_ret (results_tmp4 rfl _ _ _) rfl ?_
    exact ⟨by rw [HD.out]; rfl, rfl⟩
  · have HD : Hid (Bm.way k = .tuple #[.int .i64 1, .int .i64 (k - 4), .int .i64 0, .int .i64 0]) := by show _ = _; unfold Bm.way; rw [e1, e2, e3, Bm.we_ok k (by omega) (by omega)]
    clear e1 e2 e3
    go_wp2_with fail
    (try simp only [Exit.inBlock, Exit.then]); refine bodyPost_ret (results_tmp4 rfl _ _ _) rfl ?_
    exact ⟨by rw [HD.out]; rfl, rfl⟩
  · have HD : Hid (Bm.way k = .tuple #[.int .i64 2, .int .i64 ((k - 4 - 16) / 16), .int .i64 ((k - 4) % 16), .int .i64 0]) := by show _ = _; unfold Bm.way; rw [e1, e2, e3, Bm.we_ok k (by omega) (by omega), show k - 4 - 16 = k - 20 by omega, show (k - 4) % 16 = (k - 20) % 16 by omega]
    clear e1 e2 e3
    have hq : (k - 4 - 16).tdiv 16 = (k - 4 - 16) / 16 := Int.tdiv_eq_ediv_of_nonneg (by omega)
    have hm : (k - 4 - 16).tmod 16 = (k - 4 - 16) % 16 := Int.tmod_eq_emod_of_nonneg (by omega)
    go_wp2_with fail
    (try simp only [Exit.inBlock, Exit.then]); refine bodyPost_ret (results_tmp4 rfl _ _ _) rfl ?_
    exact ⟨by rw [HD.out]; rfl, rfl⟩

theorem refBlocks_any (w : World) (x : Int) (_hx : x ≤ 9223372036854775807) : Calls Try.prog 16 #[.int .i64 x] w fun e w' => e = .returned (.int .i64 (Bm.bl x)) ∧ w' = w := by
  by_cases h : x < 1
  · have HD : Hid (Bm.bl x = 0) := if_pos h
    go_enter Try.func16, Try.ntmps16
    go_wp2
    go_ret
    exact ⟨by rw [HD.out]; rfl, rfl⟩
  · have HD : Hid (Bm.bl x = (x - 1) / 128 + 1) := if_neg h
    have hq : (x - 1).tdiv 128 = (x - 1) / 128 := Int.tdiv_eq_ediv_of_nonneg (by omega)
    go_enter Try.func16, Try.ntmps16
    go_wp2
    go_ret
    exact ⟨by rw [HD.out]; rfl, rfl⟩

set_option maxHeartbeats 4000000 in
set_option maxRecDepth 100000 in
theorem refExtra_any (w : World) (n : Int) : Calls Try.prog 12 #[.int .i64 n] w fun e w' => e = .returned (Bm.extra n) ∧ w' = w := by
  go_enter Try.func12, Try.ntmps12
  have bad : (n < 0 ∨ 276 < n) → Hid (Bm.extra n = .tuple #[.int .i64 0, .int .i64 1]) := fun h => by
    show _ = _; unfold Bm.extra Bm.xn Bm.xe
    rw [if_pos h, if_pos h]
  by_cases h0 : n < 0
  · have HD := bad (.inl h0)
    clear bad
    go_wp2_with fail
    go_ret2
    exact ⟨by rw [HD.out]; rfl, rfl⟩
  by_cases h1 : 276 < n
  · have HD := bad (.inr h1)
    clear bad
    go_wp2_with fail
    go_ret2
    exact ⟨by rw [HD.out]; rfl, rfl⟩
  have HD := Lib.hid (Bm.extra_xs (n := n) (by omega))
  clear bad
  obtain ⟨m, hm⟩ : ∃ m : Nat, n = m := ⟨n.toNat, by omega⟩
  subst hm
  go_wp2_with fail
  go_loopw [4, 5] (fun t4 t5 wr => ∃ k : Nat, k ≤ m ∧ t5 = .int .i64 k ∧ t4 = .int .i64 (Bm.xs k) ∧ wr = w) (fun _ t5 _ => m - (match t5 with | .int _ k => k.toNat | _ => 0))
  case atStart => exact ⟨0, Nat.zero_le _, rfl, rfl, rfl⟩
  case round =>
    obtain ⟨k, hk, rfl, rfl, rfl⟩ := hrel
    by_cases hlt : k < m
    · have hb1 := (Bm.xs_le k (by omega)).1
      have hb2 := (Bm.xs_le k (by omega)).2
      obtain ⟨x, hx⟩ : ∃ x, x = Bm.xs k := ⟨_, rfl⟩
      rw [← hx] at hb1 hb2 ⊢
      have HX := Lib.hid hx
      clear hx
      go_wp2_with fail
      refine (refWay_any _ k).mono ?_
      rintro e _ ⟨rfl, rfl⟩
      rcases Bm.ways k (by omega) (by omega) with ⟨h, e1, e2, e3⟩ | ⟨h, h', e1, e2, e3⟩ | ⟨h, e1, e2, e3⟩
      · have he : Bm.way k = .tuple #[.int .i64 0, .int .i64 k, .int .i64 0, .int .i64 0] := by unfold Bm.way; rw [e1, e2, e3, Bm.we_ok k (by omega) (by omega)]
        rw [he]
        have HN : Hid (Bm.xs ((k + 1 : Nat) : Int) = x) := by show _ = _; rw [HX.out]; unfold Bm.xs; rw [if_pos (by omega), if_pos (by omega)]
        clear e1 e2 e3 he
        go_wp2_with fail
        go_roundw
        case rel => exact ⟨k + 1, by omega, rfl, by rw [HN.out], by first | rfl | trivial⟩
        case measure => simp; omega
      · obtain ⟨z, hz⟩ : ∃ z, z = (k : Int) - 4 := ⟨_, rfl⟩
        have he : Bm.way k = .tuple #[.int .i64 1, .int .i64 z, .int .i64 0, .int .i64 0] := by unfold Bm.way; rw [e1, e2, e3, Bm.we_ok k (by omega) (by omega), hz]
        rw [he]
        clear e1 e2 e3 he
        by_cases h4 : (k : Int) = 4
        · have HN : Hid (Bm.xs ((k + 1 : Nat) : Int) = x + 1) := by show _ = _; rw [HX.out]; unfold Bm.xs; rw [if_neg (by omega), if_pos (by omega), if_pos (by omega)]; rfl
          have qz : (z == 0) = true := by simp; omega
          clear hz h4
          go_wp2_with fail
          go_roundw
          case rel => exact ⟨k + 1, by omega, rfl, by rw [HN.out], by first | rfl | trivial⟩
          case measure => simp; omega
        · have HN : Hid (Bm.xs ((k + 1 : Nat) : Int) = x) := by show _ = _; rw [HX.out]; unfold Bm.xs; rw [if_neg (by omega), if_pos (by omega), if_neg (by omega), if_pos (by omega)]
          have qz : (z == 0) = false := by simp; omega
          clear hz h4
          go_wp2_with fail
          go_roundw
          case rel => exact ⟨k + 1, by omega, rfl, by rw [HN.out], by first | rfl | trivial⟩
          case measure => simp; omega
      · obtain ⟨a, ha⟩ : ∃ a, a = ((k : Int) - 20) / 16 := ⟨_, rfl⟩
        obtain ⟨b, hb⟩ : ∃ b, b = ((k : Int) - 20) % 16 := ⟨_, rfl⟩
        have he : Bm.way k = .tuple #[.int .i64 2, .int .i64 a, .int .i64 b, .int .i64 0] := by unfold Bm.way; rw [e1, e2, e3, Bm.we_ok k (by omega) (by omega), ha, hb]
        rw [he]
        clear e1 e2 e3 he
        by_cases hb0 : b = 0
        · have qb : (b == 0) = true := by simp [hb0]
          by_cases ha0 : a = 0
          · have qa : (a == 0) = true := by simp [ha0]
            have HN : Hid (Bm.xs ((k + 1 : Nat) : Int) = x + 1 + 1) := by show _ = _; rw [HX.out]; unfold Bm.xs; rw [if_neg (by omega), if_neg (by omega), if_neg (by omega), if_pos (by omega)]; omega
            clear ha hb ha0 hb0
            go_wp2_with fail
            go_roundw
            case rel => exact ⟨k + 1, by omega, rfl, by rw [HN.out], by first | rfl | trivial⟩
            case measure => simp; omega
          · have qa : (a == 0) = false := by simp [ha0]
            have HN : Hid (Bm.xs ((k + 1 : Nat) : Int) = x + 1) := by show _ = _; rw [HX.out]; unfold Bm.xs; rw [if_neg (by omega), if_neg (by omega), if_neg (by omega), if_neg (by omega)]; omega
            clear ha hb ha0 hb0
            go_wp2_with fail
            go_roundw
            case rel => exact ⟨k + 1, by omega, rfl, by rw [HN.out], by first | rfl | trivial⟩
            case measure => simp; omega
        · have qb : (b == 0) = false := by simp [hb0]
          have HN : Hid (Bm.xs ((k + 1 : Nat) : Int) = x) := by show _ = _; rw [HX.out]; unfold Bm.xs; rw [if_neg (by omega), if_neg (by omega), if_neg (by omega), if_neg (by omega)]; omega
          have HA : Hid ((a == 0) = true ∨ (a == 0) = false) := by cases (a == 0) <;> simp [Hid]
          clear ha hb hb0
          rcases HA.out with qa | qa
          all_goals
            go_wp2_with fail
            go_roundw
            case rel => exact ⟨k + 1, by omega, rfl, by rw [HN.out], by first | rfl | trivial⟩
            case measure => simp; omega
    · obtain rfl : k = m := by omega
      obtain ⟨x, hx⟩ : ∃ x, x = Bm.xs k := ⟨_, rfl⟩
      rw [← hx]
      have HX := Lib.hid hx
      clear hx
      go_wp2_with fail
      go_ret2
      exact ⟨by rw [HD.out, ← HX.out]; rfl, rfl⟩

theorem known_any (w : World) : Calls Try.prog 15 #[] w fun e w' => e = .returned (.bool true) ∧ w' = w := by
  go_enter Try.func15, Try.ntmps15
  go_wp2_with fail
  refine (way_any w 4).mono ?_
  rintro e _ ⟨rfl, rfl⟩
  rw [show Bm.way 4 = .tuple #[.int .i64 1, .int .i64 0, .int .i64 0, .int .i64 0] from by rfl]
  go_wp2_with fail
  refine (way_any _ 20).mono ?_
  rintro e _ ⟨rfl, rfl⟩
  rw [show Bm.way 20 = .tuple #[.int .i64 2, .int .i64 0, .int .i64 0, .int .i64 0] from by rfl]
  go_wp2_with fail
  refine (extra_any _ 5).mono ?_
  rintro e _ ⟨rfl, rfl⟩
  rw [show Bm.extra 5 = .tuple #[.int .i64 1, .int .i64 0] from by rfl]
  go_wp2_with fail
  go_ret
  exact ⟨rfl, rfl⟩
end Go.Proofs.Ytkjkmdhbodjeeaa
