/-
  OWN WORK. Law 12's rules and same: what the document says of a node is what worm answers.
-/
import Derived.Test.YtpblhdpnmnfieaaLWoCode
import Derived.OwnWalk
namespace Go.Proofs.Ytpblhdpnmnfieaa
open Go.RowKit
namespace Wo
set_option maxHeartbeats 2000000 in
set_option maxRecDepth 100000 in
theorem rules_any (n : Nd) (now u : Nat) (w : World) : Calls Try.prog 18 #[n.val, .int .u64 (now : Nat), .int .u64 (u : Nat)] w fun e w' => e = .returned (.tuple #[.int .i64 (write n : Nat), .int .i64 (remove n now : Nat), .int .i64 (keep n u : Nat)]) ∧ Below w.heap.size w w' := by
  obtain ⟨id, kind, links, size, till, shut⟩ := n
  show Calls _ _ #[.agg #[.int .i64 id, .int .i64 kind, .int .i64 links, .int .i64 size, .int .u64 (till : Nat), .bool shut], _, _] w _
  obtain ⟨a, ha⟩ : ∃ a, a = write ⟨id, kind, links, size, till, shut⟩ := ⟨_, rfl⟩
  obtain ⟨b, hb⟩ : ∃ b, b = remove ⟨id, kind, links, size, till, shut⟩ now := ⟨_, rfl⟩
  obtain ⟨c, hc⟩ : ∃ c, c = keep ⟨id, kind, links, size, till, shut⟩ u := ⟨_, rfl⟩
  rw [← ha, ← hb, ← hc]
  unfold write fileN at ha
  unfold remove fileN at hb
  unfold keep fileN at hc
  by_cases k2 : kind = 2
  · have HA : Hid (a = 22) := by show _ = _; rw [ha]; simp [k2]
    have HB : Hid (b = 22) := by show _ = _; rw [hb]; simp [k2]
    have HC : Hid (c = 22) := by show _ = _; rw [hc]; simp [k2]
    clear ha hb hc
    go_enter Try.func18, Try.ntmps18
    go_wp2_with fail
    (try simp only [Exit.inBlock, Exit.then]); refine bodyPost_ret (results_tmp3 rfl _ _ _) rfl ?_
    exact ⟨by rw [HA.out, HB.out, HC.out]; rfl, below_new _ _⟩
  · by_cases k1 : kind = 1
    · cases shut
      · have HA : Hid (a = 0) := by show _ = _; rw [ha]; simp [k1]
        have HB : Hid (b = 0) := by show _ = _; rw [hb]; simp [k1]
        have HC : Hid (c = 25) := by show _ = _; rw [hc]; simp [k1]
        clear ha hb hc
        go_enter Try.func18, Try.ntmps18
        go_wp2_with fail
        (try simp only [Exit.inBlock, Exit.then]); refine bodyPost_ret (results_tmp3 rfl _ _ _) rfl ?_
        exact ⟨by rw [HA.out, HB.out, HC.out]; rfl, below_new _ _⟩
      · by_cases hu : u < till
        · by_cases hl : links ≤ 1
          · by_cases hn : now < till
            · have HA : Hid (a = 27) := by show _ = _; rw [ha]; simp [k1, hl, hn, show ¬ (1 < links) by omega, hu]
              have HB : Hid (b = 28) := by show _ = _; rw [hb]; simp [k1, hl, hn, show ¬ (1 < links) by omega, hu]
              have HC : Hid (c = 28) := by show _ = _; rw [hc]; simp [k1, hl, hn, show ¬ (1 < links) by omega, hu]
              clear ha hb hc
              go_enter Try.func18, Try.ntmps18
              go_wp2_with fail
              (try simp only [Exit.inBlock, Exit.then]); refine bodyPost_ret (results_tmp3 rfl _ _ _) rfl ?_
              exact ⟨by rw [HA.out, HB.out, HC.out]; rfl, below_new _ _⟩
            · have HA : Hid (a = 27) := by show _ = _; rw [ha]; simp [k1, hl, hn, show ¬ (1 < links) by omega, hu]
              have HB : Hid (b = 0) := by show _ = _; rw [hb]; simp [k1, hl, hn, show ¬ (1 < links) by omega, hu]
              have HC : Hid (c = 28) := by show _ = _; rw [hc]; simp [k1, hl, hn, show ¬ (1 < links) by omega, hu]
              clear ha hb hc
              go_enter Try.func18, Try.ntmps18
              go_wp2_with fail
              (try simp only [Exit.inBlock, Exit.then]); refine bodyPost_ret (results_tmp3 rfl _ _ _) rfl ?_
              exact ⟨by rw [HA.out, HB.out, HC.out]; rfl, below_new _ _⟩
          · have HA : Hid (a = 27) := by show _ = _; rw [ha]; simp [k1, show 1 < links by omega, hu]
            have HB : Hid (b = 0) := by show _ = _; rw [hb]; simp [k1, show 1 < links by omega, hu]
            have HC : Hid (c = 28) := by show _ = _; rw [hc]; simp [k1, show 1 < links by omega, hu]
            clear ha hb hc
            go_enter Try.func18, Try.ntmps18
            go_wp2_with fail
            (try simp only [Exit.inBlock, Exit.then]); refine bodyPost_ret (results_tmp3 rfl _ _ _) rfl ?_
            exact ⟨by rw [HA.out, HB.out, HC.out]; rfl, below_new _ _⟩
        · by_cases hm : 1099511627776 < u
          · by_cases hl : links ≤ 1
            · by_cases hn : now < till
              · have HA : Hid (a = 27) := by show _ = _; rw [ha]; simp [k1, hl, hn, show ¬ (1 < links) by omega, hu, hm]
                have HB : Hid (b = 28) := by show _ = _; rw [hb]; simp [k1, hl, hn, show ¬ (1 < links) by omega, hu, hm]
                have HC : Hid (c = 1) := by show _ = _; rw [hc]; simp [k1, hl, hn, show ¬ (1 < links) by omega, hu, hm]
                clear ha hb hc
                go_enter Try.func18, Try.ntmps18
                go_wp2_with fail
                (try simp only [Exit.inBlock, Exit.then]); refine bodyPost_ret (results_tmp3 rfl _ _ _) rfl ?_
                exact ⟨by rw [HA.out, HB.out, HC.out]; rfl, below_new _ _⟩
              · have HA : Hid (a = 27) := by show _ = _; rw [ha]; simp [k1, hl, hn, show ¬ (1 < links) by omega, hu, hm]
                have HB : Hid (b = 0) := by show _ = _; rw [hb]; simp [k1, hl, hn, show ¬ (1 < links) by omega, hu, hm]
                have HC : Hid (c = 1) := by show _ = _; rw [hc]; simp [k1, hl, hn, show ¬ (1 < links) by omega, hu, hm]
                clear ha hb hc
                go_enter Try.func18, Try.ntmps18
                go_wp2_with fail
                (try simp only [Exit.inBlock, Exit.then]); refine bodyPost_ret (results_tmp3 rfl _ _ _) rfl ?_
                exact ⟨by rw [HA.out, HB.out, HC.out]; rfl, below_new _ _⟩
            · have HA : Hid (a = 27) := by show _ = _; rw [ha]; simp [k1, show 1 < links by omega, hu, hm]
              have HB : Hid (b = 0) := by show _ = _; rw [hb]; simp [k1, show 1 < links by omega, hu, hm]
              have HC : Hid (c = 1) := by show _ = _; rw [hc]; simp [k1, show 1 < links by omega, hu, hm]
              clear ha hb hc
              go_enter Try.func18, Try.ntmps18
              go_wp2_with fail
              (try simp only [Exit.inBlock, Exit.then]); refine bodyPost_ret (results_tmp3 rfl _ _ _) rfl ?_
              exact ⟨by rw [HA.out, HB.out, HC.out]; rfl, below_new _ _⟩
          · by_cases hl : links ≤ 1
            · by_cases hn : now < till
              · have HA : Hid (a = 27) := by show _ = _; rw [ha]; simp [k1, hl, hn, show ¬ (1 < links) by omega, hu, hm]
                have HB : Hid (b = 28) := by show _ = _; rw [hb]; simp [k1, hl, hn, show ¬ (1 < links) by omega, hu, hm]
                have HC : Hid (c = 0) := by show _ = _; rw [hc]; simp [k1, hl, hn, show ¬ (1 < links) by omega, hu, hm]
                clear ha hb hc
                go_enter Try.func18, Try.ntmps18
                go_wp2_with fail
                (try simp only [Exit.inBlock, Exit.then]); refine bodyPost_ret (results_tmp3 rfl _ _ _) rfl ?_
                exact ⟨by rw [HA.out, HB.out, HC.out]; rfl, below_new _ _⟩
              · have HA : Hid (a = 27) := by show _ = _; rw [ha]; simp [k1, hl, hn, show ¬ (1 < links) by omega, hu, hm]
                have HB : Hid (b = 0) := by show _ = _; rw [hb]; simp [k1, hl, hn, show ¬ (1 < links) by omega, hu, hm]
                have HC : Hid (c = 0) := by show _ = _; rw [hc]; simp [k1, hl, hn, show ¬ (1 < links) by omega, hu, hm]
                clear ha hb hc
                go_enter Try.func18, Try.ntmps18
                go_wp2_with fail
                (try simp only [Exit.inBlock, Exit.then]); refine bodyPost_ret (results_tmp3 rfl _ _ _) rfl ?_
                exact ⟨by rw [HA.out, HB.out, HC.out]; rfl, below_new _ _⟩
            · have HA : Hid (a = 27) := by show _ = _; rw [ha]; simp [k1, show 1 < links by omega, hu, hm]
              have HB : Hid (b = 0) := by show _ = _; rw [hb]; simp [k1, show 1 < links by omega, hu, hm]
              have HC : Hid (c = 0) := by show _ = _; rw [hc]; simp [k1, show 1 < links by omega, hu, hm]
              clear ha hb hc
              go_enter Try.func18, Try.ntmps18
              go_wp2_with fail
              (try simp only [Exit.inBlock, Exit.then]); refine bodyPost_ret (results_tmp3 rfl _ _ _) rfl ?_
              exact ⟨by rw [HA.out, HB.out, HC.out]; rfl, below_new _ _⟩
    · have HA : Hid (a = 30) := by show _ = _; rw [ha]; simp [k1, k2]
      have HB : Hid (b = 30) := by show _ = _; rw [hb]; simp [k1, k2]
      have HC : Hid (c = 30) := by show _ = _; rw [hc]; simp [k1, k2]
      clear ha hb hc
      go_enter Try.func18, Try.ntmps18
      go_wp2_with fail
      (try simp only [Exit.inBlock, Exit.then]); refine bodyPost_ret (results_tmp3 rfl _ _ _) rfl ?_
      exact ⟨by rw [HA.out, HB.out, HC.out]; rfl, below_new _ _⟩
end Wo
end Go.Proofs.Ytpblhdpnmnfieaa
