/-
  OWN WORK. PathParents: the law's walk.
-/
import Derived.Test.YtmdffakhejdkoaaPaBack
namespace Go.Proofs.Ytmdffakhejdkoaa
open Go.RowKit

set_option maxHeartbeats 8000000 in
set_option maxRecDepth 100000 in
theorem parents_any (l : List Bs) (A : Option Addr) (cap : Nat) (w : World) (hr : RdS w A l) (hl : l.length ≤ 9223372036854775807) (hll : ∀ x ∈ l, x.length ≤ 9223372036854775807) :
    Calls Try.prog 6 #[.slice A l.length cap] w fun e w' => e = .returned (.bool true) ∧ Below w.heap.size w w' := by
  have HR : Hid (RdS w A l) := hr
  have HLL := Lib.hid hll
  clear hr hll
  go_enter Try.func6, Try.ntmps6
  go_wp2_with fail
  go_loopw [3, 4] (fun t3 t4 wr => ∃ (v : Value) (j : Nat), t3 = v ∧ t4 = .int .i64 j ∧ j ≤ l.length ∧ Hid (GIn w v wr)) (fun _ t4 _ => l.length - (match t4 with | .int _ k => k.toNat | _ => 0))
  case atStart => exact ⟨_, 0, rfl, rfl, Nat.zero_le _, [], Nat.zero_le _, (fun n hn => by cases hn), TAt.nil w⟩
  case round =>
    obtain ⟨v, j, rfl, rfl, hjl, HI⟩ := hrel
    obtain ⟨g, hg8, hg, hT⟩ := HI.out
    have HG := Lib.hid hg
    have HT := Lib.hid hT
    clear hg hT HI
    obtain ⟨X, cp, rfl, hcp, _⟩ := HT.out.form
    by_cases hj : j < l.length
    · by_cases h8 : g.length < 8
      · obtain ⟨x, hx⟩ : ∃ x, l[j]? = some x := ⟨_, List.getElem?_eq_getElem hj⟩
        have hxl : x.length ≤ 9223372036854775807 := HLL.out x (List.mem_of_getElem? hx)
        obtain ⟨b, off, rfl, hcell⟩ := (HR.out.below HT.out.later).at_ hx
        clear hx
        have HN : Hid (g.length + [x].length ≤ 68719476736) := by show g.length + 1 ≤ _; omega
        have stay : Hid (RdS (wr.alloc (.cells #[.string (strOf x)] 9)) (some ⟨wr.heap.size, 0, none⟩) [x]) := rds_one wr x _
        cases hok : Pa.good x with
        | true =>
          have HG2 : Hid (∀ n ∈ g ++ [x], Pa.good n = true) := fun n hn => by
            rcases List.mem_append.1 hn with h | h
            · exact HG.out n h
            · rw [List.mem_singleton.1 h]; exact hok
          go_wp2_with (first | (go_at_call 17; refine (good_any x _ hxl).mono ?_; rintro e wx ⟨rfl, rfl⟩) | (at_builtin; refine wpList_append_txts rfl (.tmp 26) (.tmp 31) rfl rfl HT.out (below_new wr _) (some ⟨wr.heap.size, 0, none⟩) [x] 1 1 rfl rfl stay.out HN.out ?_; intro v2 w2 HO2 HG3))
          obtain ⟨X2, c2, rfl, _, _⟩ := HO2.out.form
          clear HG3
          go_roundw
          case rel => exact ⟨_, j + 1, rfl, rfl, by omega, g ++ [x], by rw [List.length_append, List.length_singleton]; omega, HG2.out, HO2.out⟩
          case measure => simp; omega
        | false =>
          go_wp2_with (go_at_call 17; refine (good_any x _ hxl).mono ?_; rintro e wx ⟨rfl, rfl⟩)
          go_roundw
          case rel => exact ⟨_, j + 1, rfl, rfl, by omega, g, hg8, HG.out, HT.out⟩
          case measure => simp; omega
      · have HJG : Hid ((joined g).length ≤ 140737488355328) := by show _ ≤ _; have := joined_good HG.out; omega
        have HRG : Hid (RdS wr X g) := by
          obtain ⟨X2, cap2, hv, _, h⟩ := HT.out.form
          cases hv
          exact h
        have HBW : Hid (Below w.heap.size w wr) := HT.out.later
        obtain ⟨wg, hwg⟩ : ∃ wg, wg = wr := ⟨_, rfl⟩
        rw [← hwg] at HRG HBW ⊢
        clear HT hwg
        go_wp2_with fail
        go_loopw [3, 6] (fun t3 t6 wr => ∃ (v : Value) (n : Nat), t3 = v ∧ t6 = .int .i64 n ∧ n ≤ g.length ∧ Hid (∃ Y c, v = .slice Y n c ∧ n ≤ c ∧ RdS wr Y (g.take n)) ∧ Hid (Below wg.heap.size wg wr)) (fun _ t6 _ => (match t6 with | .int _ k => k.toNat | _ => 0))
        case atStart => exact ⟨_, g.length, rfl, rfl, Nat.le_refl _, ⟨X, cp, rfl, hcp, by rw [List.take_length]; exact HRG.out⟩, Below.refl _ _⟩
        case round =>
          obtain ⟨v, n, rfl, rfl, hn, HV, HB⟩ := hrel
          obtain ⟨Y, cy, rfl, hcy, hry⟩ := HV.out
          have HRY := Lib.hid hry
          clear hry HV
          have hBW2 : Hid (Below w.heap.size w wr) := HBW.out.trans (HB.out.mono HBW.out.size)
          by_cases h0 : 0 < n
          · obtain ⟨x, hx⟩ : ∃ x, g[n - 1]? = some x := ⟨_, List.getElem?_eq_getElem (by omega)⟩
            obtain ⟨q, hq⟩ : ∃ q, q = g.take (n - 1) := ⟨_, rfl⟩
            have hql : q.length + 1 = n := by rw [hq, List.length_take]; omega
            have hqx : g.take n = q ++ [x] := by rw [hq, ← take_snoc hx]; congr 1; omega
            have HQ := Lib.hid hq
            have HQX := Lib.hid hqx
            have HQL := Lib.hid hql
            have HL : Hid ((q ++ [x]).length = n) := by show _ = _; rw [List.length_append, List.length_singleton]; exact hql
            have HRQ : Hid (RdS wr Y (q ++ [x])) := by show RdS _ _ _; rw [← hqx]; exact HRY.out
            have hqn : (n : Int) - 1 = q.length := by omega
            have tq : ((q.length : Int) != q.length) = false := by simp
            clear hx hq hqx hql HRY
            go_wp2_with fail
            have HPC := parent_any (q ++ [x]) q x Y cy wr HRQ.out (by have := HL.out; omega) (by have := HL.out; omega) rfl
            rw [HL.out] at HPC
            refine HPC.mono ?_
            clear HPC
            rintro e w1 ⟨U, cu, rfl, hcu, hru, hb⟩
            have HRU := Lib.hid hru
            have HR1 : Hid (RdS w1 Y (q ++ [x])) := HRQ.out.below hb
            have HB1 : Hid (Below wg.heap.size wg w1) := HB.out.trans (hb.mono HB.out.size)
            clear hru hb HRQ
            have HT0 : Hid (TAt w1.heap.size (.slice (some ⟨w1.heap.size, 0, none⟩) 0 0) [] w1 (w1.alloc (.cells #[] 9))) := TAt.empty w1
            have HU0 : Hid (RdS (w1.alloc (.cells #[] 9)) U q) := HRU.out.below (below_new w1 _)
            have HN1 : Hid (([] : List Bs).length + q.length ≤ 68719476736) := by show 0 + _ ≤ _; omega
            have HN2 : Hid (([] ++ q).length + [x].length ≤ 68719476736) := by show ([] ++ q).length + 1 ≤ _; rw [List.nil_append]; omega
            go_wp2_with (first | (at_builtin; refine wpList_append_txts rfl (.tmp 56) (.tmp 57) rfl rfl HT0.out (Below.refl _ _) U q q.length cu rfl rfl HU0.out HN1.out ?_; intro v2 w2 HO2 HG2) | (at_builtin; refine wpList_append_txts rfl (.tmp 58) (.tmp 60) rfl rfl HO2.out (below_new w2 _) (some ⟨w2.heap.size, 0, none⟩) [x] 1 1 rfl rfl (rds_one w2 x _) HN2.out ?_; intro v3 w3 HO3 HG3))
            have HT3 : Hid (TAt w1.heap.size v3 (q ++ [x]) w1 w3) := HO3.out
            clear HO3 HG3 HO2 HG2 HT0 HU0
            obtain ⟨X3, c3, rfl, _, hr3⟩ := HT3.out.form
            have HB3 : Hid (Below wg.heap.size wg w3) := HB1.out.trans (HT3.out.later.mono HB1.out.size)
            have HR3 := Lib.hid hr3
            have HY3 : Hid (RdS w3 Y (q ++ [x])) := HR1.out.below HT3.out.later
            have HU3 : Hid (RdS w3 U q) := HRU.out.below HT3.out.later
            have HJQ : Hid ((joined (q ++ [x])).length ≤ 140737488355328) := by show _ ≤ _; rw [← HQX.out]; have := joined_take_le g n; have := HJG.out; omega
            clear hr3 HT3 HB1 HR1 HRU
            go_wp2_with fail
            refine (join_any (q ++ [x]) X3 c3 w3 HR3.out HJQ.out).mono ?_
            rintro e w4 ⟨rfl, hb⟩
            have HB4 : Hid (Below wg.heap.size wg w4) := HB3.out.trans (hb.mono HB3.out.size)
            have HY4 : Hid (RdS w4 Y (q ++ [x])) := HY3.out.below hb
            have HU4 : Hid (RdS w4 U q) := HU3.out.below hb
            clear hb HB3 HY3 HU3 HR3
            go_wp2_with fail
            have HPC := join_any (q ++ [x]) Y cy w4 HY4.out HJQ.out
            rw [HL.out] at HPC
            refine HPC.mono ?_
            clear HPC
            rintro e w5 ⟨rfl, hb⟩
            have HB5 : Hid (Below wg.heap.size wg w5) := HB4.out.trans (hb.mono HB4.out.size)
            have HU5 : Hid (RdS w5 U q) := HU4.out.below hb
            have tj : ((strOf (Pa.join (q ++ [x]))).toList == (strOf (Pa.join (q ++ [x]))).toList) = true := by simp
            clear hb HB4 HY4 HU4
            have HG5 : Hid (RdS w5 X g) := HRG.out.below HB5.out
            have t1 : decide (q = g.take q.length) = true := decide_eq_true (by conv => lhs; rw [HQ.out]
                                                                                congr 1; have := HQL.out; omega)
            have t2 : decide (g = q.take g.length) = false := decide_eq_false fun e => by have h1 := congrArg List.length e; have h2 := HQL.out; rw [List.length_take] at h1; omega
            have HT1 := Lib.hid t1
            have HT2 := Lib.hid t2
            clear t1 t2
            go_wp2_with fail
            refine (within_names _ g q X U _ _ HG5.out HU5.out (by omega) (by omega)).mono ?_
            rintro e _ ⟨rfl, rfl⟩
            rw [HT1.out]
            go_wp2_with fail
            refine (within_names _ q g U X _ _ HU5.out HG5.out (by omega) (by omega)).mono ?_
            rintro e _ ⟨rfl, rfl⟩
            rw [HT2.out]
            go_wp2_with fail
            go_roundw
            case rel => exact ⟨_, q.length, rfl, rfl, by omega, ⟨U, cu, rfl, hcu, by rw [show g.take q.length = q from (of_decide_eq_true HT1.out).symm]; exact HU5.out⟩, HB5.out⟩
            case measure => simp; omega
          · obtain rfl : n = 0 := by omega
            have HG5 : Hid (RdS wr X g) := HRG.out.below HB.out
            have HT1 : Hid (decide (g = g.take g.length) = true) := decide_eq_true (by rw [List.take_length])
            have HB2 := Lib.hid hBW2
            clear hBW2 HRY
            go_wp2_with fail
            refine (within_names _ g g X X _ _ HG5.out HG5.out (by omega) (by omega)).mono ?_
            rintro e _ ⟨rfl, rfl⟩
            rw [HT1.out]
            go_wp2_with fail
            refine (within_names _ g [] X none _ _ HG5.out (RdS.nil _ _) (by omega) (Nat.zero_le _)).mono ?_
            rintro e _ ⟨rfl, rfl⟩
            rw [show decide (([] : List Bs) = g.take (List.length ([] : List Bs))) = true from decide_eq_true rfl]
            go_wp2_with fail
            refine (known_any _).mono ?_
            rintro e w6 ⟨rfl, hb⟩
            have HB6 : Hid (Below w.heap.size w w6) := HB2.out.trans (hb.mono HB2.out.size)
            clear hb
            go_wp2_with fail
            go_ret
            exact ⟨rfl, HB6.out⟩
    · have HJG : Hid ((joined g).length ≤ 140737488355328) := by show _ ≤ _; have := joined_good HG.out; omega
      have HRG : Hid (RdS wr X g) := by
        obtain ⟨X2, cap2, hv, _, h⟩ := HT.out.form
        cases hv
        exact h
      have HBW : Hid (Below w.heap.size w wr) := HT.out.later
      obtain ⟨wg, hwg⟩ : ∃ wg, wg = wr := ⟨_, rfl⟩
      rw [← hwg] at HRG HBW ⊢
      clear HT hwg
      go_wp2_with fail
      go_loopw [3, 6] (fun t3 t6 wr => ∃ (v : Value) (n : Nat), t3 = v ∧ t6 = .int .i64 n ∧ n ≤ g.length ∧ Hid (∃ Y c, v = .slice Y n c ∧ n ≤ c ∧ RdS wr Y (g.take n)) ∧ Hid (Below wg.heap.size wg wr)) (fun _ t6 _ => (match t6 with | .int _ k => k.toNat | _ => 0))
      case atStart => exact ⟨_, g.length, rfl, rfl, Nat.le_refl _, ⟨X, cp, rfl, hcp, by rw [List.take_length]; exact HRG.out⟩, Below.refl _ _⟩
      case round =>
        obtain ⟨v, n, rfl, rfl, hn, HV, HB⟩ := hrel
        obtain ⟨Y, cy, rfl, hcy, hry⟩ := HV.out
        have HRY := Lib.hid hry
        clear hry HV
        have hBW2 : Hid (Below w.heap.size w wr) := HBW.out.trans (HB.out.mono HBW.out.size)
        by_cases h0 : 0 < n
        · obtain ⟨x, hx⟩ : ∃ x, g[n - 1]? = some x := ⟨_, List.getElem?_eq_getElem (by omega)⟩
          obtain ⟨q, hq⟩ : ∃ q, q = g.take (n - 1) := ⟨_, rfl⟩
          have hql : q.length + 1 = n := by rw [hq, List.length_take]; omega
          have hqx : g.take n = q ++ [x] := by rw [hq, ← take_snoc hx]; congr 1; omega
          have HQ := Lib.hid hq
          have HQX := Lib.hid hqx
          have HQL := Lib.hid hql
          have HL : Hid ((q ++ [x]).length = n) := by show _ = _; rw [List.length_append, List.length_singleton]; exact hql
          have HRQ : Hid (RdS wr Y (q ++ [x])) := by show RdS _ _ _; rw [← hqx]; exact HRY.out
          have hqn : (n : Int) - 1 = q.length := by omega
          have tq : ((q.length : Int) != q.length) = false := by simp
          clear hx hq hqx hql HRY
          go_wp2_with fail
          have HPC := parent_any (q ++ [x]) q x Y cy wr HRQ.out (by have := HL.out; omega) (by have := HL.out; omega) rfl
          rw [HL.out] at HPC
          refine HPC.mono ?_
          clear HPC
          rintro e w1 ⟨U, cu, rfl, hcu, hru, hb⟩
          have HRU := Lib.hid hru
          have HR1 : Hid (RdS w1 Y (q ++ [x])) := HRQ.out.below hb
          have HB1 : Hid (Below wg.heap.size wg w1) := HB.out.trans (hb.mono HB.out.size)
          clear hru hb HRQ
          have HT0 : Hid (TAt w1.heap.size (.slice (some ⟨w1.heap.size, 0, none⟩) 0 0) [] w1 (w1.alloc (.cells #[] 9))) := TAt.empty w1
          have HU0 : Hid (RdS (w1.alloc (.cells #[] 9)) U q) := HRU.out.below (below_new w1 _)
          have HN1 : Hid (([] : List Bs).length + q.length ≤ 68719476736) := by show 0 + _ ≤ _; omega
          have HN2 : Hid (([] ++ q).length + [x].length ≤ 68719476736) := by show ([] ++ q).length + 1 ≤ _; rw [List.nil_append]; omega
          go_wp2_with (first | (at_builtin; refine wpList_append_txts rfl (.tmp 56) (.tmp 57) rfl rfl HT0.out (Below.refl _ _) U q q.length cu rfl rfl HU0.out HN1.out ?_; intro v2 w2 HO2 HG2) | (at_builtin; refine wpList_append_txts rfl (.tmp 58) (.tmp 60) rfl rfl HO2.out (below_new w2 _) (some ⟨w2.heap.size, 0, none⟩) [x] 1 1 rfl rfl (rds_one w2 x _) HN2.out ?_; intro v3 w3 HO3 HG3))
          have HT3 : Hid (TAt w1.heap.size v3 (q ++ [x]) w1 w3) := HO3.out
          clear HO3 HG3 HO2 HG2 HT0 HU0
          obtain ⟨X3, c3, rfl, _, hr3⟩ := HT3.out.form
          have HB3 : Hid (Below wg.heap.size wg w3) := HB1.out.trans (HT3.out.later.mono HB1.out.size)
          have HR3 := Lib.hid hr3
          have HY3 : Hid (RdS w3 Y (q ++ [x])) := HR1.out.below HT3.out.later
          have HU3 : Hid (RdS w3 U q) := HRU.out.below HT3.out.later
          have HJQ : Hid ((joined (q ++ [x])).length ≤ 140737488355328) := by show _ ≤ _; rw [← HQX.out]; have := joined_take_le g n; have := HJG.out; omega
          clear hr3 HT3 HB1 HR1 HRU
          go_wp2_with fail
          refine (join_any (q ++ [x]) X3 c3 w3 HR3.out HJQ.out).mono ?_
          rintro e w4 ⟨rfl, hb⟩
          have HB4 : Hid (Below wg.heap.size wg w4) := HB3.out.trans (hb.mono HB3.out.size)
          have HY4 : Hid (RdS w4 Y (q ++ [x])) := HY3.out.below hb
          have HU4 : Hid (RdS w4 U q) := HU3.out.below hb
          clear hb HB3 HY3 HU3 HR3
          go_wp2_with fail
          have HPC := join_any (q ++ [x]) Y cy w4 HY4.out HJQ.out
          rw [HL.out] at HPC
          refine HPC.mono ?_
          clear HPC
          rintro e w5 ⟨rfl, hb⟩
          have HB5 : Hid (Below wg.heap.size wg w5) := HB4.out.trans (hb.mono HB4.out.size)
          have HU5 : Hid (RdS w5 U q) := HU4.out.below hb
          have tj : ((strOf (Pa.join (q ++ [x]))).toList == (strOf (Pa.join (q ++ [x]))).toList) = true := by simp
          clear hb HB4 HY4 HU4
          have HG5 : Hid (RdS w5 X g) := HRG.out.below HB5.out
          have t1 : decide (q = g.take q.length) = true := decide_eq_true (by conv => lhs; rw [HQ.out]
                                                                              congr 1; have := HQL.out; omega)
          have t2 : decide (g = q.take g.length) = false := decide_eq_false fun e => by have h1 := congrArg List.length e; have h2 := HQL.out; rw [List.length_take] at h1; omega
          have HT1 := Lib.hid t1
          have HT2 := Lib.hid t2
          clear t1 t2
          go_wp2_with fail
          refine (within_names _ g q X U _ _ HG5.out HU5.out (by omega) (by omega)).mono ?_
          rintro e _ ⟨rfl, rfl⟩
          rw [HT1.out]
          go_wp2_with fail
          refine (within_names _ q g U X _ _ HU5.out HG5.out (by omega) (by omega)).mono ?_
          rintro e _ ⟨rfl, rfl⟩
          rw [HT2.out]
          go_wp2_with fail
          go_roundw
          case rel => exact ⟨_, q.length, rfl, rfl, by omega, ⟨U, cu, rfl, hcu, by rw [show g.take q.length = q from (of_decide_eq_true HT1.out).symm]; exact HU5.out⟩, HB5.out⟩
          case measure => simp; omega
        · obtain rfl : n = 0 := by omega
          have HG5 : Hid (RdS wr X g) := HRG.out.below HB.out
          have HT1 : Hid (decide (g = g.take g.length) = true) := decide_eq_true (by rw [List.take_length])
          have HB2 := Lib.hid hBW2
          clear hBW2 HRY
          go_wp2_with fail
          refine (within_names _ g g X X _ _ HG5.out HG5.out (by omega) (by omega)).mono ?_
          rintro e _ ⟨rfl, rfl⟩
          rw [HT1.out]
          go_wp2_with fail
          refine (within_names _ g [] X none _ _ HG5.out (RdS.nil _ _) (by omega) (Nat.zero_le _)).mono ?_
          rintro e _ ⟨rfl, rfl⟩
          rw [show decide (([] : List Bs) = g.take (List.length ([] : List Bs))) = true from decide_eq_true rfl]
          go_wp2_with fail
          refine (known_any _).mono ?_
          rintro e w6 ⟨rfl, hb⟩
          have HB6 : Hid (Below w.heap.size w w6) := HB2.out.trans (hb.mono HB2.out.size)
          clear hb
          go_wp2_with fail
          go_ret
          exact ⟨rfl, HB6.out⟩
end Go.Proofs.Ytmdffakhejdkoaa
