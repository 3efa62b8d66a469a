/-
  OWN WORK. Way, Back, Extra, Blocks and what they call: what each answers; the world stays as it is.
-/
import Derived.Test.YtkjkmdhbodjeeaaBmPure
namespace Go.Proofs.Ytkjkmdhbodjeeaa
open Go.RowKit

theorem results_tmp4 {fn : Func} {t u v x : Tmp} (h : fn.results = #[.tmp t, .tmp u, .tmp v, .tmp x]) (tmps : Array Value) (P : Program) (w : World) :
    (results fn tmps).run P w = .ok (.tuple #[tmps.getD t undef, tmps.getD u undef, tmps.getD v undef, tmps.getD x undef]) w := by
  simp [results, h]

theorem below_any (w : World) (x n : Int) : Calls Try.prog 21 #[.int .i64 x, .int .i64 n] w fun e w' => e = .returned (.bool (Bm.inn x n)) ∧ w' = w := by
  by_cases h : 0 ≤ x
  · have HD : Hid (Bm.inn x n = decide (x < n)) := by show _ = _; unfold Bm.inn; simp [h]
    go_enter Try.func21, Try.ntmps21
    go_wp2
    go_ret
    exact ⟨by rw [HD.out]; rfl, rfl⟩
  · have HD : Hid (Bm.inn x n = false) := Bm.inn_neg (by omega)
    go_enter Try.func21, Try.ntmps21
    go_wp2
    go_ret
    exact ⟨by rw [HD.out]; rfl, rfl⟩

theorem begun_any (w : World) (x : Int) (n : Int) (hn : 0 < n) (_h1 : n ≤ 1000) (_hx : x ≤ 9223372036854775807) : Calls Try.prog 22 #[.int .i64 x, .int .i64 n] w fun e w' => e = .returned (.int .i64 (if x < 1 then 0 else (x - 1) / n + 1)) ∧ w' = w := by
  by_cases h : x < 1
  · rw [if_pos h]
    go_enter Try.func22, Try.ntmps22
    go_wp2
    go_ret
    exact ⟨rfl, rfl⟩
  · rw [if_neg h]
    have hq : (x - 1).tdiv n = (x - 1) / n := Int.tdiv_eq_ediv_of_nonneg (by omega)
    have h2 : 0 ≤ (x - 1) / n := Int.ediv_nonneg (by omega) (by omega)
    have h3 : (x - 1) / n ≤ x - 1 := Int.ediv_le_self _ (by omega)
    go_enter Try.func22, Try.ntmps22
    go_wp2
    go_ret
    exact ⟨rfl, rfl⟩

theorem blocks_any (w : World) (x : Int) (hx : x ≤ 9223372036854775807) : Calls Try.prog 14 #[.int .i64 x] w fun e w' => e = .returned (.int .i64 (Bm.bl x)) ∧ w' = w := by
  go_enter Try.func14, Try.ntmps14
  go_wp2_with fail
  refine (begun_any w x 128 (by omega) (by omega) hx).mono ?_
  rintro e _ ⟨rfl, rfl⟩
  obtain ⟨y, hy⟩ : ∃ y, y = Bm.bl x := ⟨_, rfl⟩
  rw [show (if x < 1 then 0 else (x - 1) / 128 + 1) = y from hy.symm]
  have HY := Lib.hid hy
  clear hy
  go_wp2_with fail
  go_ret
  exact ⟨by rw [← HY.out]; rfl, rfl⟩

set_option maxHeartbeats 1000000 in
set_option maxRecDepth 100000 in
theorem way_any (w : World) (k : Int) : Calls Try.prog 9 #[.int .i64 k] w fun e w' => e = .returned (Bm.way k) ∧ w' = w := by
  go_enter Try.func9, Try.ntmps9
  go_wp2_with fail
  refine (below_any w k 276).mono ?_
  rintro e _ ⟨rfl, rfl⟩
  by_cases h : 0 ≤ k ∧ k < 276
  · rw [Bm.inn_pos h]
    obtain ⟨h0, h1⟩ := h
    rcases Bm.ways k h0 h1 with ⟨h, e1, e2, e3⟩ | ⟨h, h', e1, e2, e3⟩ | ⟨h, e1, e2, e3⟩
    · have HD : Hid (Bm.way k = .tuple #[.int .i64 0, .int .i64 k, .int .i64 0, .int .i64 0]) := by show _ = _; unfold Bm.way; rw [e1, e2, e3, Bm.we_ok k h0 h1]
      clear e1 e2 e3
      go_wp2_with fail
      (try simp only [Exit.inBlock, Exit.then]); refine bodyPost_ret (results_tmp4 rfl _ _ _) rfl ?_
      exact ⟨by rw [HD.out]; rfl, rfl⟩
    · have HD : Hid (Bm.way k = .tuple #[.int .i64 1, .int .i64 (k - 4), .int .i64 0, .int .i64 0]) := by show _ = _; unfold Bm.way; rw [e1, e2, e3, Bm.we_ok k h0 h1]
      clear e1 e2 e3
      go_wp2_with fail
      (try simp only [Exit.inBlock, Exit.then]); refine bodyPost_ret (results_tmp4 rfl _ _ _) rfl ?_
      exact ⟨by rw [HD.out]; rfl, rfl⟩
    · have HD : Hid (Bm.way k = .tuple #[.int .i64 2, .int .i64 ((k - 16 - 4) / 16), .int .i64 ((k - 16 - 4) % 16), .int .i64 0]) := by show _ = _; unfold Bm.way; rw [e1, e2, e3, Bm.we_ok k h0 h1, show k - 16 - 4 = k - 20 by omega]
      clear e1 e2 e3
      have hq : (k - 16 - 4).tdiv 16 = (k - 16 - 4) / 16 := Int.tdiv_eq_ediv_of_nonneg (by omega)
      have hm : (k - 16 - 4).tmod 16 = (k - 16 - 4) % 16 := Int.tmod_eq_emod_of_nonneg (by omega)
      go_wp2_with fail
      (try simp only [Exit.inBlock, Exit.then]); refine bodyPost_ret (results_tmp4 rfl _ _ _) rfl ?_
      exact ⟨by rw [HD.out]; rfl, rfl⟩
  · rw [Bm.inn_neg h]
    have HD : Hid (Bm.way k = .tuple #[.int .i64 0, .int .i64 0, .int .i64 0, .int .i64 1]) := by
      show _ = _; unfold Bm.way Bm.wl Bm.wa Bm.wb Bm.we
      rw [if_pos (by omega), if_pos (by omega), if_pos (by omega), if_pos (by omega)]
    clear h
    go_wp2_with fail
    (try simp only [Exit.inBlock, Exit.then]); refine bodyPost_ret (results_tmp4 rfl _ _ _) rfl ?_
    exact ⟨by rw [HD.out]; rfl, rfl⟩

set_option maxHeartbeats 1000000 in
set_option maxRecDepth 100000 in
theorem extra_any (w : World) (n : Int) : Calls Try.prog 11 #[.int .i64 n] w fun e w' => e = .returned (Bm.extra n) ∧ w' = w := by
  go_enter Try.func11, Try.ntmps11
  by_cases h0 : n < 0
  · have HD : Hid (Bm.extra n = .tuple #[.int .i64 0, .int .i64 1]) := by show _ = _; unfold Bm.extra Bm.xn Bm.xe; rw [if_pos (by omega), if_pos (by omega)]
    go_wp2_with fail
    go_ret2
    exact ⟨by rw [HD.out]; rfl, rfl⟩
  by_cases h1 : 276 < n
  · have HD : Hid (Bm.extra n = .tuple #[.int .i64 0, .int .i64 1]) := by show _ = _; unfold Bm.extra Bm.xn Bm.xe; rw [if_pos (by omega), if_pos (by omega)]
    go_wp2_with fail
    go_ret2
    exact ⟨by rw [HD.out]; rfl, rfl⟩
  have hbad : ¬ (n < 0 ∨ 276 < n) := by omega
  have he : Bm.extra n = .tuple #[.int .i64 (if n ≤ 4 then 0 else if n ≤ 20 then 1 else (n - 21) / 16 + 3), .int .i64 0] := by unfold Bm.extra Bm.xn Bm.xe; rw [if_neg hbad, if_neg hbad]
  clear hbad
  by_cases h4 : n ≤ 4
  · rw [if_pos h4] at he
    have HD := Lib.hid he
    clear he
    go_wp2_with fail
    go_ret2
    exact ⟨by rw [HD.out]; rfl, rfl⟩
  by_cases h20 : n ≤ 20
  · rw [if_neg h4, if_pos h20] at he
    have HD := Lib.hid he
    clear he
    go_wp2_with fail
    go_ret2
    exact ⟨by rw [HD.out]; rfl, rfl⟩
  · rw [if_neg h4, if_neg h20] at he
    have HD := Lib.hid he
    clear he
    go_wp2_with fail
    refine (begun_any w (n - 4 - 16) 16 (by omega) (by omega) (by omega)).mono ?_
    rintro e _ ⟨rfl, rfl⟩
    rw [if_neg (by omega)]
    obtain ⟨y, hy⟩ : ∃ y, y = (n - 4 - 16 - 1) / 16 := ⟨_, rfl⟩
    rw [← hy]
    have HE : Hid ((n - 21) / 16 + 3 = 1 + (y + 1) + 1) := by show _ = _; omega
    have b1 : 0 ≤ y := by omega
    have b2 : y < 16 := by omega
    clear hy
    go_wp2_with fail
    go_ret2
    exact ⟨by rw [HD.out, HE.out]; rfl, rfl⟩

set_option maxHeartbeats 1000000 in
set_option maxRecDepth 100000 in
theorem leads_any (w : World) (l a b : Int) : Calls Try.prog 23 #[.int .i64 l, .int .i64 a, .int .i64 b] w fun e w' => e = .returned (.bool (decide (Bm.leads l a b))) ∧ w' = w := by
  go_enter Try.func23, Try.ntmps23
  obtain ⟨y, hy⟩ : ∃ y, y = decide (Bm.leads l a b) := ⟨_, rfl⟩
  rw [← hy]
  have HY := Lib.hid hy
  clear hy
  by_cases h0 : l = 0
  · subst h0
    go_wp2_with fail
    refine (below_any w a 4).mono ?_
    rintro e _ ⟨rfl, rfl⟩
    by_cases ha : 0 ≤ a ∧ a < 4
    · rw [Bm.inn_pos ha]
      by_cases hb : b = 0
      · subst hb
        have HD : Hid (y = true) := by show _ = _; rw [HY.out]; exact decide_eq_true (by unfold Bm.leads; omega)
        go_wp2_with fail
        go_ret
        exact ⟨by rw [HD.out]; rfl, rfl⟩
      · have HD : Hid (y = false) := by show _ = _; rw [HY.out]; exact decide_eq_false (by unfold Bm.leads; omega)
        have hb2 : (b == 0) = false := by simp [hb]
        go_wp2_with fail
        go_ret
        exact ⟨by rw [HD.out]; rfl, rfl⟩
    · rw [Bm.inn_neg ha]
      have HD : Hid (y = false) := by show _ = _; rw [HY.out]; exact decide_eq_false (by unfold Bm.leads; omega)
      clear ha
      go_wp2_with fail
      go_ret
      exact ⟨by rw [HD.out]; rfl, rfl⟩
  have e0 : (l == 0) = false := by simp [h0]
  by_cases h1 : l = 1
  · subst h1
    go_wp2_with fail
    refine (below_any w a 16).mono ?_
    rintro e _ ⟨rfl, rfl⟩
    by_cases ha : 0 ≤ a ∧ a < 16
    · rw [Bm.inn_pos ha]
      by_cases hb : b = 0
      · subst hb
        have HD : Hid (y = true) := by show _ = _; rw [HY.out]; exact decide_eq_true (by unfold Bm.leads; omega)
        go_wp2_with fail
        go_ret
        exact ⟨by rw [HD.out]; rfl, rfl⟩
      · have HD : Hid (y = false) := by show _ = _; rw [HY.out]; exact decide_eq_false (by unfold Bm.leads; omega)
        have hb2 : (b == 0) = false := by simp [hb]
        go_wp2_with fail
        go_ret
        exact ⟨by rw [HD.out]; rfl, rfl⟩
    · rw [Bm.inn_neg ha]
      have HD : Hid (y = false) := by show _ = _; rw [HY.out]; exact decide_eq_false (by unfold Bm.leads; omega)
      clear ha
      go_wp2_with fail
      go_ret
      exact ⟨by rw [HD.out]; rfl, rfl⟩
  have e1 : (l == 1) = false := by simp [h1]
  by_cases h2 : l = 2
  · subst h2
    go_wp2_with fail
    refine (below_any w a 16).mono ?_
    rintro e _ ⟨rfl, rfl⟩
    by_cases ha : 0 ≤ a ∧ a < 16
    · rw [Bm.inn_pos ha]
      go_wp2_with fail
      refine (below_any _ b 16).mono ?_
      rintro e _ ⟨rfl, rfl⟩
      by_cases hb : 0 ≤ b ∧ b < 16
      · rw [Bm.inn_pos hb]
        have HD : Hid (y = true) := by show _ = _; rw [HY.out]; exact decide_eq_true (by unfold Bm.leads; omega)
        clear ha hb
        go_wp2_with fail
        go_ret
        exact ⟨by rw [HD.out]; rfl, rfl⟩
      · rw [Bm.inn_neg hb]
        have HD : Hid (y = false) := by show _ = _; rw [HY.out]; exact decide_eq_false (by unfold Bm.leads; omega)
        clear ha hb
        go_wp2_with fail
        go_ret
        exact ⟨by rw [HD.out]; rfl, rfl⟩
    · rw [Bm.inn_neg ha]
      have HD : Hid (y = false) := by show _ = _; rw [HY.out]; exact decide_eq_false (by unfold Bm.leads; omega)
      clear ha
      go_wp2_with fail
      go_ret
      exact ⟨by rw [HD.out]; rfl, rfl⟩
  · have e2 : (l == 2) = false := by simp [h2]
    have HD : Hid (y = false) := by show _ = _; rw [HY.out]; exact decide_eq_false (by unfold Bm.leads; omega)
    go_wp2_with fail
    go_ret
    exact ⟨by rw [HD.out]; rfl, rfl⟩

set_option maxHeartbeats 1000000 in
set_option maxRecDepth 100000 in
theorem back_any (w : World) (l a b : Int) : Calls Try.prog 13 #[.int .i64 l, .int .i64 a, .int .i64 b] w fun e w' => e = .returned (Bm.back l a b) ∧ w' = w := by
  go_enter Try.func13, Try.ntmps13
  go_wp2_with fail
  refine (leads_any w l a b).mono ?_
  rintro e _ ⟨rfl, rfl⟩
  by_cases h : Bm.leads l a b
  · rw [decide_eq_true h]
    have he : Bm.back l a b = .tuple #[.int .i64 (if l = 0 then a else if l = 1 then a + 4 else a * 16 + b + 20), .int .i64 0] := by unfold Bm.back Bm.bk Bm.be; rw [if_pos h, if_pos h]
    rcases h with ⟨rfl, h1, h2, rfl⟩ | ⟨rfl, h1, h2, rfl⟩ | ⟨rfl, h1, h2, h3, h4⟩
    · rw [if_pos rfl] at he
      have HD := Lib.hid he
      clear he
      go_wp2_with fail
      go_ret2
      exact ⟨by rw [HD.out]; rfl, rfl⟩
    · rw [if_neg (by omega), if_pos rfl] at he
      have HD := Lib.hid he
      clear he
      go_wp2_with fail
      go_ret2
      exact ⟨by rw [HD.out]; rfl, rfl⟩
    · rw [if_neg (by omega), if_neg (by omega), show a * 16 + b + 20 = a * 16 + b + 16 + 4 by omega] at he
      have HD := Lib.hid he
      clear he
      go_wp2_with fail
      go_ret2
      exact ⟨by rw [HD.out]; rfl, rfl⟩
  · rw [decide_eq_false h]
    have HD : Hid (Bm.back l a b = .tuple #[.int .i64 0, .int .i64 1]) := by show _ = _; unfold Bm.back Bm.bk Bm.be; rw [if_neg h, if_neg h]
    clear h
    go_wp2_with fail
    go_ret2
    exact ⟨by rw [HD.out]; rfl, rfl⟩
end Go.Proofs.Ytkjkmdhbodjeeaa
