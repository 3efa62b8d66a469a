/-
  OWN WORK. Names: what the laws hold at each call: the chapter's runs, and the program's answers held against the document's.
-/
import Derived.Test.YtmdffakhejdkoaaPaRefB
namespace Go.Proofs.Ytmdffakhejdkoaa
open Go.RowKit

theorem split_short (d : Nat) (s : Bs) : (Pa.split d s).1.length ≤ d := by
  unfold Pa.split
  split
  · exact Nat.zero_le _
  · cases s with
    | nil => exact Nat.zero_le _
    | cons c s =>
      simp only
      split
      · split
        · split
          · assumption
          · exact Nat.zero_le _
        · exact Nat.zero_le _
      · exact Nat.zero_le _
theorem joined_le_join (l : List Bs) : (joined l).length ≤ (Pa.join l).length := by
  by_cases h : l = []
  · subst h; simp [joined]
  · rw [join_of h]; exact Nat.le_refl _
theorem split_joined (d : Nat) (s : Bs) : (joined (Pa.split d s).1).length ≤ s.length := by
  by_cases h : (Pa.split d s).2 = 0
  · have h1 := joined_le_join (Pa.split d s).1
    rw [Pa.join_split h] at h1
    exact h1
  · rw [Pa.split_none h]; simp [joined]
theorem pair_eq {a : List Bs} {k : Nat} {x : List Bs × Nat} (h : (a, k) = x) : a = x.1 ∧ k = x.2 := by rw [← h]; exact ⟨rfl, rfl⟩

set_option maxHeartbeats 4000000 in
set_option maxRecDepth 100000 in
theorem known_any (w : World) : Calls Try.prog 11 #[] w fun e w' => e = .returned (.bool true) ∧ Below w.heap.size w w' := by
  go_enter Try.func11, Try.ntmps11
  go_wp2_with fail
  refine (split_any [47, 97, 47, 98] w (by decide)).mono ?_
  rintro e w1 ⟨ns, A, c, k, rfl, hc, hr, hs, hb⟩
  obtain ⟨rfl, rfl⟩ := pair_eq (hs.trans (show Pa.split 8 [47, 97, 47, 98] = ([[97], [98]], 0) by decide))
  have HR := Lib.hid hr
  have HB := Lib.hid hb
  clear hr hs hb hc
  go_wp2_with fail
  refine (split_any [47, 97, 47] w1 (by decide)).mono ?_
  rintro e w2 ⟨ns, A2, c2, k, rfl, hc, hr, hs, hb⟩
  obtain ⟨rfl, rfl⟩ := pair_eq (hs.trans (show Pa.split 8 [47, 97, 47] = ([], 12) by decide))
  have HR2 : Hid (RdS w2 A [[97], [98]]) := HR.out.below (hb.mono (by exact Nat.le_refl _))
  have HB2 : Hid (Below w.heap.size w w2) := HB.out.trans (hb.mono HB.out.size)
  clear hr hs hb hc HB HR
  go_wp2_with fail
  refine (sameS_any _ [[97], [98]] [[97], [98]] A (some ⟨w2.heap.size, 0, none⟩) _ _ (HR2.out.below (below_new w2 _)) (rds_alloc w2 [[97], [98]] _ _) (by decide) (by decide)).mono ?_
  rintro e w3 ⟨rfl, hb⟩
  have HB3 : Hid (Below w.heap.size w w3) := HB2.out.trans ((below_new w2 _).trans (hb.mono (by rw [World.size_alloc]; omega)) |>.mono HB2.out.size)
  clear hb
  have hd : decide (([[97], [98]] : List Bs) = [[97], [98]]) = true := by decide
  rw [hd]
  go_wp2_with fail
  refine (join_any [] none _ w3 (RdS.nil _ _) (by decide)).mono ?_
  rintro e w4 ⟨rfl, hb⟩
  have HB4 : Hid (Below w.heap.size w w4) := HB3.out.trans (hb.mono HB3.out.size)
  clear hb
  have hj : ((strOf (Pa.join [])).toList == [47]) = true := by rw [strOf_lit]; decide
  go_wp2_with fail
  go_ret
  exact ⟨rfl, HB4.out⟩

set_option maxHeartbeats 4000000 in
set_option maxRecDepth 100000 in
theorem same_any (s : Bs) (w : World) (hs : s.length ≤ 1000000000) : Calls Try.prog 7 #[.string (strOf s)] w fun e w' => e = .returned (.bool true) ∧ Below w.heap.size w w' := by
  go_enter Try.func7, Try.ntmps7
  go_wp2_with fail
  refine (split_any s w (by omega)).mono ?_
  rintro e w1 ⟨ns, A, c, k, rfl, hc, hr, h1, hb⟩
  have hns : ns.length ≤ 8 := by rw [(pair_eq h1).1]; exact split_short 8 s
  have hj : (joined ns).length ≤ 140737488355328 := by have := split_joined 8 s; rw [← (pair_eq h1).1] at this; omega
  have HR := Lib.hid hr
  have HB := Lib.hid hb
  have HJ := Lib.hid hj
  have H1 := Lib.hid h1
  clear hr hb hc hj h1
  go_wp2_with fail
  refine (refSplit_any s w1 hs).mono ?_
  rintro e w2 ⟨ms, A2, c2, k2, rfl, hc, hr, h2, hb⟩
  obtain ⟨rfl, rfl⟩ : ms = ns ∧ k2 = k := by have := h2.trans H1.out.symm; exact ⟨congrArg Prod.fst this, congrArg Prod.snd this⟩
  have HR2 : Hid (RdS w2 A ms) := HR.out.below (hb.mono (Nat.le_refl _))
  have HS2 := Lib.hid hr
  have HB2 : Hid (Below w.heap.size w w2) := HB.out.trans (hb.mono HB.out.size)
  clear hr hb hc h2 HB HR H1
  have tk : ((k2 : Int) == k2) = true := by simp
  have tg : (Pa.good s == Pa.good s) = true := by simp
  have tj : ((strOf (Pa.join ms)).toList == (strOf (Pa.join ms)).toList) = true := by simp
  go_wp2_with fail
  refine (sameS_any _ ms ms A A2 _ _ HR2.out HS2.out (by omega) (by omega)).mono ?_
  rintro e w3 ⟨rfl, hb⟩
  have HB3 : Hid (Below w.heap.size w w3) := HB2.out.trans (hb.mono HB2.out.size)
  have HR3 : Hid (RdS w3 A ms) := HR2.out.below hb
  have HS3 : Hid (RdS w3 A2 ms) := HS2.out.below hb
  clear hb HR2 HS2 HB2
  rw [show (decide (ms = ms)) = true from decide_eq_true rfl]
  go_wp2_with (first | (go_at_call 17; refine (good_any s _ (by omega)).mono ?_; rintro e wx ⟨rfl, rfl⟩) | (go_at_call 19; refine (refGood_any s _ (by omega)).mono ?_; rintro e wx ⟨rfl, rfl⟩))
  refine (join_any ms A _ w3 HR3.out HJ.out).mono ?_
  rintro e w4 ⟨rfl, hb⟩
  have HB4 : Hid (Below w.heap.size w w4) := HB3.out.trans (hb.mono HB3.out.size)
  have HS4 : Hid (RdS w4 A2 ms) := HS3.out.below hb
  clear hb HB3 HR3 HS3
  go_wp2_with (go_at_call 14; refine (refJoin_any ms A2 _ _ HS4.out HJ.out (by omega)).mono ?_; rintro e wx ⟨rfl, rfl⟩)
  go_ret
  exact ⟨rfl, HB4.out⟩
end Go.Proofs.Ytmdffakhejdkoaa
