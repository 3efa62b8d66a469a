/-
  OWN WORK. The law MerkleNumbers, walked.
-/
import Derived.Test.YtjeclmbableacaaDoorMkKnown
import Derived.Test.YtjeclmbableacaaDoorMkCheckR
import Derived.Test.YtjeclmbableacaaDoorMkPathR
import Derived.Test.YtjeclmbableacaaDoorMkCopies
namespace Go.Proofs.YtjeclmbableacaaDoor
open Go.RowKit Rc

/-- The leaves of the law, n of them. -/
def nums (n : Nat) : List (List UInt8) := (List.range n).map fun k => [UInt8.ofNat k, 7]
theorem nums_succ (n : Nat) : nums (n + 1) = nums n ++ [[UInt8.ofNat n, 7]] := by simp [nums, List.range_succ]
theorem nums_length (n : Nat) : (nums n).length = n := by simp [nums]
theorem nums_row {n : Nat} {y : List UInt8} (h : y ∈ nums n) : y.length = 2 := by
  simp only [nums, List.mem_map] at h
  obtain ⟨k, _, rfl⟩ := h
  rfl
theorem nums_new (W : World) (n : Nat) (hn : n < 256) : HNew [UInt8.ofNat n, 7] W (.slice (some ⟨W.heap.size, 0, none⟩) 2 2) (W.alloc (.cells #[.int .u8 (n : Nat), .int .u8 7] 5)) := by
  have h := rd_alloc W [UInt8.ofNat n, 7] 5 (0, 0)
  have e : (Lib.byteCells [UInt8.ofNat n, 7]).toArray = #[.int .u8 (n : Nat), .int .u8 7] := by
    simp only [Lib.byteCells, List.map_cons, List.map_nil, UInt8.toNat_ofNat', Nat.mod_eq_of_lt (show n < 2 ^ 8 by omega)]
    rfl
  rw [e] at h
  refine ⟨_, 2, rfl, Nat.le_refl _, h, fun b hb => ?_⟩
  have e2 : W.heap.size = b := by simpa using hb
  rw [World.size_alloc]
  omega
set_option maxHeartbeats 80000000 in
set_option maxRecDepth 200000 in
theorem numbers_any (w : World) (hk : KP w) : Calls Tryd.prog 3 #[] w fun e w' => e = .returned (.bool true) ∧ Below w.heap.size w w' := by
  have HK0 := Lib.hid hk
  clear hk
  go_enter Tryd.func3, Tryd.ntmps3
  go_wp2_with fail
  go_loopw [1, 2] (fun t1 t2 wr => ∃ n : Nat, t2 = .int .i64 (n : Nat) ∧ n ≤ 11 ∧ Hid (LNew (nums n) w t1 wr) ∧ Hid (Below w.heap.size w wr)) (fun _ t2 _ => 11 - (intOf t2).toNat)
  case atStart => exact ⟨0, rfl, by omega, LOwn.nil _ _ _ _, Below.refl _ _⟩
  case round =>
    obtain ⟨n, rfl, hn11, HL, HB1⟩ := hrel
    have HK1 : Hid (KP wr) := HK0.out.later HB1.out
    obtain ⟨R, hR⟩ : ∃ R, R = nums n := ⟨_, rfl⟩
    rw [← hR] at HL
    obtain rfl : n = R.length := by rw [hR, nums_length]
    have HNE := Lib.hid hR
    have HROW : Hid (∀ y, y ∈ R → y.length = 2) := fun y hy => nums_row (hR ▸ hy)
    have HS : Hid (Small R) := ⟨by omega, fun y hy => by rw [HROW.out y hy]; omega⟩
    clear hR
    obtain ⟨A, c, rfl, hc, hr⟩ := HL.out.form
    have HR1 := Lib.hid hr
    clear hr
    by_cases hn : R.length < 11
    · skip
      have hdec : decide ((R.length : Int) < 11) = true := decide_eq_true (by omega)
      go_wp2_with fail
      go_upto_region 5 with (fail)
      refine Rc.wp_region (by kernel_rfl) (fun opn => List.getD [Rc.val (.slice A R.length c), Ob.frow (Mk.root Sh.sum R), Rc.val (.string (strOf (Mk.root Sh.sum R))), Rc.val (.slice A R.length c), Ob.frow (Mk.root Sh.sum R), Rc.val (.string (strOf (Mk.root Sh.sum R))), Rc.val (.bool false)] opn Rc.any) 0 [] [[], [(0, 15)], [(1, 16)], [], [(3, 18)], [(4, 19)], [(2, 17), (5, 20)]] [[], [0], [1], [], [3], [4], [2, 5]] [[], [0], [1], [], [3], [4], [2, 5]] [] (by kernel_rfl) (by rfl) (by kernel_rfl) (fun _ => False) (fun _ _ => False) Rc.Inv.none ?_ ?_
      · as_aux_lemma =>
          intro fr ha
          have hz : fr.tmps.size = 199 := by rw [ha]; rfl
          have y1 : fr.eval (.tmp 1) = .slice A R.length c := by rw [ha]; rfl
          clear ha
          refine .cons ?_ (.cons ?_ (.cons ?_ (.cons ?_ (.cons ?_ (.cons ?_ (.cons ?_ (.nil)))))))
          · intro V S w2 HM HU HE
            have lw : Below wr.heap.size wr w2 := Rc.Mod.below HM (fun _ h => h.elim)
            have tb1 : (Rg.putUse V [] fr).eval (.tmp 1) = .slice A R.length c := (Rg.use_eval V fr 1 [] (by simp only [hz]; decide)).trans y1
            show Rg.Does1 _ _ V (Rg.putUse V [] fr) w2 _
            exact Ob.rc_mv (.slice A R.length c) (by simp only [execOp, tb1]; go_simp) rfl rfl True.intro
          · intro V S w2 HM HU HE
            have lw : Below wr.heap.size wr w2 := Rc.Mod.below HM (fun _ h => h.elim)
            have h0 : V 0 = .slice A R.length c := HU.holds 0 (by decide)
            have tb15 : (Rg.putUse V [(0, 15)] fr).eval (.tmp 15) = .slice A R.length c := (Rg.use_eval V fr 15 [(0, 15)] (by simp only [hz]; decide)).trans h0
            show Rg.Does1 _ _ V (Rg.putUse V [(0, 15)] fr) w2 _
            exact step_hcall (Mk.root Sh.sum R) #[.slice A R.length c] (fun args w => Rg.call_enter Tryd.func9 (by kernel_rfl) (by kernel_rfl) args w) rfl (by simp only [List.map_toArray, List.map_cons, List.map_nil, tb15]) rfl (fun x => Rg.alias_none rfl V x) True.intro (pRoot _ w2 R A c rfl (HR1.out.below lw) hc HS.out (HK1.out.later lw))
          · intro V S w2 HM HU HE
            have lw : Below wr.heap.size wr w2 := Rc.Mod.below HM (fun _ h => h.elim)
            obtain ⟨X1, k1, e1, hc1, hr1, hX1⟩ := HU.holds 1 (by decide)
            have tb16 : (Rg.putUse V [(1, 16)] fr).eval (.tmp 16) = .slice X1 (Mk.root Sh.sum R).length k1 := (Rg.use_eval V fr 16 [(1, 16)] (by simp only [hz]; decide)).trans e1
            show Rg.Does1 _ _ V (Rg.putUse V [(1, 16)] fr) w2 _
            exact Ob.rc_str (Mk.root Sh.sum R) rfl tb16 (by first | rfl | simp) hr1 rfl rfl True.intro
          · intro V S w2 HM HU HE
            have lw : Below wr.heap.size wr w2 := Rc.Mod.below HM (fun _ h => h.elim)
            have tb1 : (Rg.putUse V [] fr).eval (.tmp 1) = .slice A R.length c := (Rg.use_eval V fr 1 [] (by simp only [hz]; decide)).trans y1
            show Rg.Does1 _ _ V (Rg.putUse V [] fr) w2 _
            exact Ob.rc_mv (.slice A R.length c) (by simp only [execOp, tb1]; go_simp) rfl rfl True.intro
          · intro V S w2 HM HU HE
            have lw : Below wr.heap.size wr w2 := Rc.Mod.below HM (fun _ h => h.elim)
            have h3 : V 3 = .slice A R.length c := HU.holds 3 (by decide)
            have tb18 : (Rg.putUse V [(3, 18)] fr).eval (.tmp 18) = .slice A R.length c := (Rg.use_eval V fr 18 [(3, 18)] (by simp only [hz]; decide)).trans h3
            show Rg.Does1 _ _ V (Rg.putUse V [(3, 18)] fr) w2 _
            exact step_hcall (Mk.root Sh.sum R) #[.slice A R.length c] (fun args w => Rg.call_enter Tryd.func10 (by kernel_rfl) (by kernel_rfl) args w) rfl (by simp only [List.map_toArray, List.map_cons, List.map_nil, tb18]) rfl (fun x => Rg.alias_none rfl V x) True.intro (rRoot _ w2 R A c rfl (HR1.out.below lw) hc HS.out trivial)
          · intro V S w2 HM HU HE
            have lw : Below wr.heap.size wr w2 := Rc.Mod.below HM (fun _ h => h.elim)
            obtain ⟨X4, k4, e4, hc4, hr4, hX4⟩ := HU.holds 4 (by decide)
            have tb19 : (Rg.putUse V [(4, 19)] fr).eval (.tmp 19) = .slice X4 (Mk.root Sh.sum R).length k4 := (Rg.use_eval V fr 19 [(4, 19)] (by simp only [hz]; decide)).trans e4
            show Rg.Does1 _ _ V (Rg.putUse V [(4, 19)] fr) w2 _
            exact Ob.rc_str (Mk.root Sh.sum R) rfl tb19 (by first | rfl | simp) hr4 rfl rfl True.intro
          · intro V S w2 HM HU HE
            have lw : Below wr.heap.size wr w2 := Rc.Mod.below HM (fun _ h => h.elim)
            have h2 : V 2 = .string (strOf (Mk.root Sh.sum R)) := HU.holds 2 (by decide)
            have tb17 : (Rg.putUse V [(2, 17), (5, 20)] fr).eval (.tmp 17) = .string (strOf (Mk.root Sh.sum R)) := (Rg.use_eval V fr 17 [(2, 17), (5, 20)] (by simp only [hz]; decide)).trans h2
            have h5 : V 5 = .string (strOf (Mk.root Sh.sum R)) := HU.holds 5 (by decide)
            have tb20 : (Rg.putUse V [(2, 17), (5, 20)] fr).eval (.tmp 20) = .string (strOf (Mk.root Sh.sum R)) := (Rg.use_eval V fr 20 [(2, 17), (5, 20)] (by simp only [hz]; decide)).trans h5
            show Rg.Does1 _ _ V (Rg.putUse V [(2, 17), (5, 20)] fr) w2 _
            exact Ob.rc_mv (.bool false) (by simp only [execOp, tb17, tb20]; go_simp) rfl rfl True.intro
      · intro V S w2 HI
        have HL2 : Hid (Below wr.heap.size wr w2) := Rc.Mod.below HI.mod.undrew (fun _ h => h.elim)
        have hw6 : V 6 = .bool false := HI.get 6 (by decide) (by rfl)
        simp only [Rg.putList, Act.put, List.setIfInBounds_toArray, List.set_cons_zero, List.set_cons_succ, Nat.zero_add, Nat.reduceAdd]
        rw [hw6]
        clear HI hw6
        obtain ⟨w3, hw3⟩ : ∃ x, x = w2 := ⟨_, rfl⟩
        rw [← hw3] at HL2
        rw [← hw3]
        clear hw3
        have HR3 : Hid (RdL w3 A R) := HR1.out.below HL2.out
        have HB3 : Hid (Below w.heap.size w w3) := HB1.out.trans (HL2.out.mono HB1.out.size)
        have HK3 : Hid (KP w3) := HK1.out.later HL2.out
        have HL3 : Hid (LNew R w (.slice A R.length c) w3) := HL.out.later HL2.out
        clear HL2 HR1 HB1 HK1 HL
        go_wp2_with fail
        go_loopw [3] (fun t3 wr => ∃ i : Int, t3 = .int .i64 i ∧ -1 ≤ i ∧ i ≤ R.length + 1 ∧ Hid (Below w3.heap.size w3 wr)) (fun t3 _ => ((R.length : Int) + 1 - intOf t3).toNat)
        case atStart => exact ⟨-1, rfl, by omega, by omega, Below.refl _ _⟩
        case round =>
          obtain ⟨i, rfl, hi1, hi2, HW⟩ := hrel
          have HR4 : Hid (RdL wr A R) := HR3.out.below HW.out
          have HK4 : Hid (KP wr) := HK3.out.later HW.out
          by_cases hle : i ≤ (R.length : Int)
          · by_cases h0 : i < 0
            · skip
              go_wp2_with fail
              refine (pPath_no wr R A c i (by omega) (.inl h0)).mono ?_
              rintro e w5 ⟨rfl, rfl⟩
              go_wp2_with fail
              go_roundw
              case rel => exact ⟨i + 1, by go_num, by omega, by omega, HW⟩
              case measure => simp [intOf]; omega
            · by_cases h1 : (R.length : Int) ≤ i
              · skip
                go_wp2_with fail
                refine (pPath_no wr R A c i (by omega) (.inr h1)).mono ?_
                rintro e w5 ⟨rfl, rfl⟩
                go_wp2_with fail
                go_roundw
                case rel => exact ⟨i + 1, by go_num, by omega, by omega, HW⟩
                case measure => simp [intOf]; omega
              · obtain ⟨k, rfl⟩ : ∃ k : Nat, i = k := ⟨i.toNat, by omega⟩
                have hk : k < R.length := by omega
                go_wp2_with fail
                refine (pPath_in wr R A c k HR4.out hc HS.out HK4.out hk).mono ?_
                rintro e w5 ⟨x4, rfl, hx, hb⟩
                obtain ⟨PA, pc, rfl, hpc, hpr⟩ := hx.form
                obtain ⟨P, hP⟩ : ∃ P, P = Mk.path Sh.sum R k := ⟨_, rfl⟩
                rw [← hP] at hpr hpc
                rw [← hP]
                have HP5 := Lib.hid hpr
                have HPE := Lib.hid hP
                have hpl : P.length ≤ 4 := by rw [hP]; exact Mk.path_length Sh.sum 4 R k (by omega)
                have HP32 : Hid (∀ y, y ∈ P → y.length = 32) := fun y hy => path_mem R k y (hP ▸ hy)
                have HR5 : Hid (RdL w5 A R) := HR4.out.below hb
                have HK5 : Hid (KP w5) := HK4.out.later hb
                have HW5 : Hid (Below w3.heap.size w3 w5) := HW.out.trans (hb.mono HW.out.size)
                clear hx hb hpr hP HW HR4 HK4
                go_wp2_with fail
                refine (rPath _ w5 R A c k rfl HR5.out hc HS.out (by omega)).mono ?_
                rintro e w6 ⟨x4, rfl, hx, hb⟩
                obtain ⟨QA, qc, rfl, hqc, hqr⟩ := hx.form
                rw [← HPE.out] at hx hqc hqr
                rw [← HPE.out]
                have HQN : Hid (LOwn w5.heap.size noOld (.slice QA P.length qc) P (fun b => w5.heap.size ≤ b ∧ b < w6.heap.size) w6) := hx
                have HQ6 := Lib.hid hqr
                have HP6 : Hid (RdL w6 PA P) := HP5.out.below hb
                have HR6 : Hid (RdL w6 A R) := HR5.out.below hb
                have HK6 : Hid (KP w6) := HK5.out.later hb
                have HW6 : Hid (Below w3.heap.size w3 w6) := HW5.out.trans (hb.mono HW5.out.size)
                clear hx hb hqr HP5 HR5 HK5 HW5
                obtain ⟨b, off, y, YA, yc, rfl, hy, hcell, hyc, hyr⟩ := HR6.out.at_ k hk
                have HY := Lib.hid hyr
                have hyl : y.length = 2 := HROW.out y (List.mem_of_getElem? hy)
                have HCK : Hid (chk (Mk.root Sh.sum R) y k R.length P = true) := by
                  show _ = _
                  rw [HPE.out]
                  refine decide_eq_true ⟨by omega, by omega, ?_⟩
                  rw [Int.toNat_natCast, Int.toNat_natCast]
                  exact Mk.climb_path Sh.sum R.length R k y (Nat.le_refl _) hy
                have HLN : Hid (∀ Q : List (List UInt8), Q.length ≠ P.length → chk (Mk.root Sh.sum R) y k R.length Q = false) := fun Q hQ => chk_long hy HPE.out hQ
                have HBL : Hid (b < w6.heap.size) := World.block_lt_of_cell? w6 ⟨b, _, none⟩ hcell
                have S1 := fun W => rows_l W QA P qc 1
                have k0 : (0 : Int) ≤ (k : Int) := by omega
                have k1 : (k : Int) < (R.length : Int) := by omega
                clear hyr hy
                go_wp2_with fail
                go_upto_region 15 with (fail)
                by_cases hpos : 1 ≤ P.length
                · skip
                  refine Rc.wp_region (by kernel_rfl) (fun opn => List.getD [Rc.val (.int .i64 0), Rc.val (.bool false), Rc.val (.bool false), Rc.val (.slice PA P.length pc), Rc.val (.slice QA P.length qc), Rc.val (.bool true), Rc.val (.bool false), Rc.val (.bool false), Rc.val (.bool false), Rc.val (.slice (some ⟨b, off, none⟩) R.length c), Ob.frow (Mk.root Sh.sum R), Rc.val (.slice (some ⟨b, off, none⟩) R.length c), Rc.val (.int .i64 ((k : Nat) : Int)), Rc.val (.pointer (some ⟨b, off + k, none⟩)), Rc.val (.slice YA y.length yc), Rc.val (.int .i64 ((k : Nat) : Int)), Rc.val (.int .i64 ((R.length : Nat) : Int)), Rc.val (.slice QA P.length qc), Rc.val (.bool true), Rc.val (.bool false), Rc.val (.bool false), Rc.val (.bool false), Rc.val (.slice (some ⟨b, off, none⟩) R.length c), Ob.frow (Mk.root Sh.sum R), Rc.val (.slice (some ⟨b, off, none⟩) R.length c), Rc.val (.int .i64 ((k : Nat) : Int)), Rc.val (.pointer (some ⟨b, off + k, none⟩)), Rc.val (.slice YA y.length yc), Rc.val (.int .i64 ((k : Nat) : Int)), Rc.val (.int .i64 ((R.length : Nat) : Int)), orow w6 ([]), Rc.val (.slice QA P.length qc), orow w6 (P), Rc.val (.slice (some ⟨b, off, none⟩) R.length c), Ob.frow (Mk.root Sh.sum R), lrow ([Mk.root Sh.sum R]), orow w6 (P ++ [Mk.root Sh.sum R]), Rc.val (.bool false), Rc.val (.bool false), Rc.val (.bool false), Rc.val (.slice QA P.length qc), Rc.val (.int .i64 ((P.length : Nat) : Int)), Rc.val (.bool true), Rc.val (.bool true), Rc.val (.slice (some ⟨b, off, none⟩) R.length c), Ob.frow (Mk.root Sh.sum R), Rc.val (.slice (some ⟨b, off, none⟩) R.length c), Rc.val (.int .i64 ((k : Nat) : Int)), Rc.val (.pointer (some ⟨b, off + k, none⟩)), Rc.val (.slice YA y.length yc), Rc.val (.int .i64 ((k : Nat) : Int)), Rc.val (.int .i64 ((R.length : Nat) : Int)), Rc.val (.slice QA P.length qc), Rc.val (.slice (cutA QA 1 qc) (P.drop 1).length (qc - 1)), Rc.val (.bool false), Rc.val (.bool false), Rc.val (.bool false)] opn Rc.any) 0 [] [[], [(0, 50)], [(1, 51)], [(2, 52)], [(2, 52)], [(2, 52), (3, 53), (4, 54)], [(2, 52), (5, 55)], [(2, 52), (6, 56)], [(7, 57)], [(8, 58)], [(8, 58), (9, 59)], [(8, 58)], [(8, 58)], [(8, 58), (11, 61), (12, 62)], [(8, 58), (13, 63)], [(8, 58)], [(8, 58)], [(8, 58)], [(8, 58), (10, 60), (14, 64), (15, 65), (16, 66), (17, 67)], [(8, 58), (18, 68)], [(8, 58), (19, 69)], [(20, 70)], [(21, 71)], [(21, 71), (22, 72)], [(21, 71)], [(21, 71)], [(21, 71), (24, 74), (25, 75)], [(21, 71), (26, 76)], [(21, 71)], [(21, 71)], [(21, 71)], [(21, 71)], [(21, 71), (30, 80), (31, 81)], [(21, 71)], [(21, 71), (33, 83)], [(21, 71), (34, 84)], [(21, 71), (32, 82), (35, 85)], [(21, 71), (23, 73), (27, 77), (28, 78), (29, 79), (36, 86)], [(21, 71), (37, 87)], [(38, 88)], [(39, 89)], [(39, 89), (40, 90)], [(39, 89), (41, 91)], [(39, 89), (42, 92)], [(43, 93)], [(43, 93), (44, 94)], [(43, 93)], [(43, 93)], [(43, 93), (46, 96), (47, 97)], [(43, 93), (48, 98)], [(43, 93)], [(43, 93)], [(43, 93)], [(43, 93), (52, 102)], [(43, 93), (45, 95), (49, 99), (50, 100), (51, 101), (53, 103)], [(39, 89), (43, 93), (54, 104)], [(39, 89), (55, 105)]] [[], [0], [1], [2], [2], [2, 3, 4], [2, 5], [2, 6], [7], [8], [8, 9], [8], [8], [8, 11, 12], [8, 13], [8], [8], [8], [8, 10, 14, 15, 16, 17], [8, 18], [8, 19], [20], [21], [21, 22], [21], [21], [21, 24, 25], [21, 26], [21], [21], [21], [21], [21, 30, 31], [21], [21, 33], [21, 34], [21, 32, 35], [21, 23, 27, 28, 29, 36], [21, 37], [38], [39], [39, 40], [39, 41], [39, 42], [43], [43, 44], [43], [43], [43, 46, 47], [43, 48], [43], [43], [43], [43, 52], [43, 45, 49, 50, 51, 53], [39, 43, 54], [39, 55]] [[], [0], [1], [2], [2], [2, 3, 4], [2, 5], [2, 6], [7], [8], [8, 9], [8], [8], [8, 11, 12], [8, 13], [8], [8], [8], [8, 10, 14, 15, 16, 17], [8, 18], [8, 19], [20], [21], [21, 22], [21], [21], [21, 24, 25], [21, 26], [21], [21], [21], [21], [21, 30, 31], [21], [21, 33], [21, 34], [21, 32, 35], [21, 23, 27, 28, 29, 36], [21, 37], [38], [39], [39, 40], [39, 41], [39, 42], [43], [43, 44], [43], [43], [43, 46, 47], [43, 48], [43], [43], [43], [43, 52], [43, 45, 49, 50, 51, 53], [39, 43, 54], [39, 55]] [(32, 30), (35, 34), (36, 32), (36, 35)] (by kernel_rfl) (by rfl) (by kernel_rfl) (fun _ => False) (fun _ _ => False) Rc.Inv.none ?_ ?_
                  · as_aux_lemma =>
                      intro fr ha
                      have hz : fr.tmps.size = 199 := by rw [ha]; rfl
                      have y1 : fr.eval (.tmp 1) = .slice (some ⟨b, off, none⟩) R.length c := by rw [ha]; rfl
                      have y2 : fr.eval (.tmp 2) = .int .i64 ((R.length : Nat) : Int) := by rw [ha]; rfl
                      have y3 : fr.eval (.tmp 3) = .int .i64 ((k : Nat) : Int) := by rw [ha]; rfl
                      have y4 : fr.eval (.tmp 4) = .slice PA P.length pc := by rw [ha]; rfl
                      have y5 : fr.eval (.tmp 5) = .int .i64 0 := by rw [ha]; rfl
                      have y6 : fr.eval (.tmp 6) = .slice QA P.length qc := by rw [ha]; rfl
                      clear ha
                      refine .cons ?_ (.cons ?_ (.cons ?_ (.cons ?_ (.cons ?_ (.cons ?_ (.cons ?_ (.cons ?_ (.cons ?_ (.cons ?_ (.cons ?_ (.cons ?_ (.cons ?_ (.cons ?_ (.cons ?_ (.cons ?_ (.cons ?_ (.cons ?_ (.cons ?_ (.cons ?_ (.cons ?_ (.cons ?_ (.cons ?_ (.cons ?_ (.cons ?_ (.cons ?_ (.cons ?_ (.cons ?_ (.cons ?_ (.cons ?_ (.cons ?_ (.cons ?_ (.cons ?_ (.cons ?_ (.cons ?_ (.cons ?_ (.cons ?_ (.cons ?_ (.cons ?_ (.cons ?_ (.cons ?_ (.cons ?_ (.cons ?_ (.cons ?_ (.cons ?_ (.cons ?_ (.cons ?_ (.cons ?_ (.cons ?_ (.cons ?_ (.cons ?_ (.cons ?_ (.cons ?_ (.cons ?_ (.cons ?_ (.cons ?_ (.cons ?_ (.nil)))))))))))))))))))))))))))))))))))))))))))))))))))))))))
                      · intro V S w2 HM HU HE
                        have lw : Below w6.heap.size w6 w2 := Rc.Mod.below HM (fun _ h => h.elim)
                        have tb5 : (Rg.putUse V [] fr).eval (.tmp 5) = .int .i64 0 := (Rg.use_eval V fr 5 [] (by simp only [hz]; decide)).trans y5
                        show Rg.Does1 _ _ V (Rg.putUse V [] fr) w2 _
                        exact Ob.rc_mv (.int .i64 0) (by simp only [execOp, tb5]; go_simp) rfl rfl True.intro
                      · intro V S w2 HM HU HE
                        have lw : Below w6.heap.size w6 w2 := Rc.Mod.below HM (fun _ h => h.elim)
                        have h0 : V 0 = .int .i64 0 := HU.holds 0 (by decide)
                        have tb50 : (Rg.putUse V [(0, 50)] fr).eval (.tmp 50) = .int .i64 0 := (Rg.use_eval V fr 50 [(0, 50)] (by simp only [hz]; decide)).trans h0
                        show Rg.Does1 _ _ V (Rg.putUse V [(0, 50)] fr) w2 _
                        exact Ob.rc_mv (.bool false) (by simp only [execOp, tb50]; go_simp) rfl rfl True.intro
                      · intro V S w2 HM HU HE
                        have lw : Below w6.heap.size w6 w2 := Rc.Mod.below HM (fun _ h => h.elim)
                        have h1 : V 1 = .bool false := HU.holds 1 (by decide)
                        have tb51 : (Rg.putUse V [(1, 51)] fr).eval (.tmp 51) = .bool false := (Rg.use_eval V fr 51 [(1, 51)] (by simp only [hz]; decide)).trans h1
                        show Rg.Does1 _ _ V (Rg.putUse V [(1, 51)] fr) w2 _
                        exact Ob.rc_mv (.bool false) (by simp only [execOp, tb51]; go_simp) rfl rfl True.intro
                      · intro V S w2 HM HU HE
                        have lw : Below w6.heap.size w6 w2 := Rc.Mod.below HM (fun _ h => h.elim)
                        have h2 : V 2 = .bool false := HU.holds 2 (by decide)
                        have tb4 : (Rg.putUse V [(2, 52)] fr).eval (.tmp 4) = .slice PA P.length pc := (Rg.use_eval V fr 4 [(2, 52)] (by simp only [hz]; decide)).trans y4
                        show Rg.Does1 _ _ V (Rg.putUse V [(2, 52)] fr) w2 _
                        exact Ob.rc_mv (.slice PA P.length pc) (by simp only [execOp, tb4]; go_simp) rfl rfl h2
                      · intro V S w2 HM HU HE
                        have lw : Below w6.heap.size w6 w2 := Rc.Mod.below HM (fun _ h => h.elim)
                        have h2 : V 2 = .bool false := HU.holds 2 (by decide)
                        have tb6 : (Rg.putUse V [(2, 52)] fr).eval (.tmp 6) = .slice QA P.length qc := (Rg.use_eval V fr 6 [(2, 52)] (by simp only [hz]; decide)).trans y6
                        show Rg.Does1 _ _ V (Rg.putUse V [(2, 52)] fr) w2 _
                        exact Ob.rc_mv (.slice QA P.length qc) (by simp only [execOp, tb6]; go_simp) rfl rfl h2
                      · intro V S w2 HM HU HE
                        have lw : Below w6.heap.size w6 w2 := Rc.Mod.below HM (fun _ h => h.elim)
                        have h2 : V 2 = .bool false := HU.holds 2 (by decide)
                        have h3 : V 3 = .slice PA P.length pc := HU.holds 3 (by decide)
                        have tb53 : (Rg.putUse V [(2, 52), (3, 53), (4, 54)] fr).eval (.tmp 53) = .slice PA P.length pc := (Rg.use_eval V fr 53 [(2, 52), (3, 53), (4, 54)] (by simp only [hz]; decide)).trans h3
                        have h4 : V 4 = .slice QA P.length qc := HU.holds 4 (by decide)
                        have tb54 : (Rg.putUse V [(2, 52), (3, 53), (4, 54)] fr).eval (.tmp 54) = .slice QA P.length qc := (Rg.use_eval V fr 54 [(2, 52), (3, 53), (4, 54)] (by simp only [hz]; decide)).trans h4
                        show Rg.Does1 _ _ V (Rg.putUse V [(2, 52), (3, 53), (4, 54)] fr) w2 _
                        exact Ob.step_tell (.bool true) #[.slice PA P.length pc, .slice QA P.length qc] (fun args w => Rg.call_enter Tryd.func13 (by kernel_rfl) (by kernel_rfl) args w) rfl (by simp only [List.map_toArray, List.map_cons, List.map_nil, tb53, tb54]) rfl (fun x => Rg.alias_none rfl V x) h2 (lists_same w2 P PA QA pc qc (HP6.out.below lw) (HQ6.out.below lw) (by omega))
                      · intro V S w2 HM HU HE
                        have lw : Below w6.heap.size w6 w2 := Rc.Mod.below HM (fun _ h => h.elim)
                        have h2 : V 2 = .bool false := HU.holds 2 (by decide)
                        have h5 : V 5 = .bool true := HU.holds 5 (by decide)
                        have tb55 : (Rg.putUse V [(2, 52), (5, 55)] fr).eval (.tmp 55) = .bool true := (Rg.use_eval V fr 55 [(2, 52), (5, 55)] (by simp only [hz]; decide)).trans h5
                        show Rg.Does1 _ _ V (Rg.putUse V [(2, 52), (5, 55)] fr) w2 _
                        exact Ob.rc_mv (.bool false) (by simp only [execOp, tb55]; go_simp) rfl rfl h2
                      · intro V S w2 HM HU HE
                        have lw : Below w6.heap.size w6 w2 := Rc.Mod.below HM (fun _ h => h.elim)
                        have h2 : V 2 = .bool false := HU.holds 2 (by decide)
                        have tb52 : (Rg.putUse V [(2, 52), (6, 56)] fr).eval (.tmp 52) = .bool false := (Rg.use_eval V fr 52 [(2, 52), (6, 56)] (by simp only [hz]; decide)).trans h2
                        have h6 : V 6 = .bool false := HU.holds 6 (by decide)
                        have tb56 : (Rg.putUse V [(2, 52), (6, 56)] fr).eval (.tmp 56) = .bool false := (Rg.use_eval V fr 56 [(2, 52), (6, 56)] (by simp only [hz]; decide)).trans h6
                        show Rg.Does1 _ _ V (Rg.putUse V [(2, 52), (6, 56)] fr) w2 _
                        exact Ob.rc_mv (.bool false) (by simp only [execOp, tb52, tb56]; go_simp) rfl rfl True.intro
                      · intro V S w2 HM HU HE
                        have lw : Below w6.heap.size w6 w2 := Rc.Mod.below HM (fun _ h => h.elim)
                        have h7 : V 7 = .bool false := HU.holds 7 (by decide)
                        have tb57 : (Rg.putUse V [(7, 57)] fr).eval (.tmp 57) = .bool false := (Rg.use_eval V fr 57 [(7, 57)] (by simp only [hz]; decide)).trans h7
                        show Rg.Does1 _ _ V (Rg.putUse V [(7, 57)] fr) w2 _
                        exact Ob.rc_mv (.bool false) (by simp only [execOp, tb57]; go_simp) rfl rfl True.intro
                      · intro V S w2 HM HU HE
                        have lw : Below w6.heap.size w6 w2 := Rc.Mod.below HM (fun _ h => h.elim)
                        have h8 : V 8 = .bool false := HU.holds 8 (by decide)
                        have tb1 : (Rg.putUse V [(8, 58)] fr).eval (.tmp 1) = .slice (some ⟨b, off, none⟩) R.length c := (Rg.use_eval V fr 1 [(8, 58)] (by simp only [hz]; decide)).trans y1
                        show Rg.Does1 _ _ V (Rg.putUse V [(8, 58)] fr) w2 _
                        exact Ob.rc_mv (.slice (some ⟨b, off, none⟩) R.length c) (by simp only [execOp, tb1]; go_simp) rfl rfl h8
                      · intro V S w2 HM HU HE
                        have lw : Below w6.heap.size w6 w2 := Rc.Mod.below HM (fun _ h => h.elim)
                        have h8 : V 8 = .bool false := HU.holds 8 (by decide)
                        have h9 : V 9 = .slice (some ⟨b, off, none⟩) R.length c := HU.holds 9 (by decide)
                        have tb59 : (Rg.putUse V [(8, 58), (9, 59)] fr).eval (.tmp 59) = .slice (some ⟨b, off, none⟩) R.length c := (Rg.use_eval V fr 59 [(8, 58), (9, 59)] (by simp only [hz]; decide)).trans h9
                        show Rg.Does1 _ _ V (Rg.putUse V [(8, 58), (9, 59)] fr) w2 _
                        exact step_hcall (Mk.root Sh.sum R) #[.slice (some ⟨b, off, none⟩) R.length c] (fun args w => Rg.call_enter Tryd.func10 (by kernel_rfl) (by kernel_rfl) args w) rfl (by simp only [List.map_toArray, List.map_cons, List.map_nil, tb59]) rfl (fun x => Rg.alias_none rfl V x) h8 (rRoot _ w2 R (some ⟨b, off, none⟩) c rfl (HR6.out.below lw) hc HS.out trivial)
                      · intro V S w2 HM HU HE
                        have lw : Below w6.heap.size w6 w2 := Rc.Mod.below HM (fun _ h => h.elim)
                        have h8 : V 8 = .bool false := HU.holds 8 (by decide)
                        have tb1 : (Rg.putUse V [(8, 58)] fr).eval (.tmp 1) = .slice (some ⟨b, off, none⟩) R.length c := (Rg.use_eval V fr 1 [(8, 58)] (by simp only [hz]; decide)).trans y1
                        show Rg.Does1 _ _ V (Rg.putUse V [(8, 58)] fr) w2 _
                        exact Ob.rc_mv (.slice (some ⟨b, off, none⟩) R.length c) (by simp only [execOp, tb1]; go_simp) rfl rfl h8
                      · intro V S w2 HM HU HE
                        have lw : Below w6.heap.size w6 w2 := Rc.Mod.below HM (fun _ h => h.elim)
                        have h8 : V 8 = .bool false := HU.holds 8 (by decide)
                        have tb3 : (Rg.putUse V [(8, 58)] fr).eval (.tmp 3) = .int .i64 ((k : Nat) : Int) := (Rg.use_eval V fr 3 [(8, 58)] (by simp only [hz]; decide)).trans y3
                        show Rg.Does1 _ _ V (Rg.putUse V [(8, 58)] fr) w2 _
                        exact Ob.rc_mv (.int .i64 ((k : Nat) : Int)) (by simp only [execOp, tb3]; go_simp) rfl rfl h8
                      · intro V S w2 HM HU HE
                        have lw : Below w6.heap.size w6 w2 := Rc.Mod.below HM (fun _ h => h.elim)
                        have h8 : V 8 = .bool false := HU.holds 8 (by decide)
                        have h11 : V 11 = .slice (some ⟨b, off, none⟩) R.length c := HU.holds 11 (by decide)
                        have tb61 : (Rg.putUse V [(8, 58), (11, 61), (12, 62)] fr).eval (.tmp 61) = .slice (some ⟨b, off, none⟩) R.length c := (Rg.use_eval V fr 61 [(8, 58), (11, 61), (12, 62)] (by simp only [hz]; decide)).trans h11
                        have h12 : V 12 = .int .i64 ((k : Nat) : Int) := HU.holds 12 (by decide)
                        have tb62 : (Rg.putUse V [(8, 58), (11, 61), (12, 62)] fr).eval (.tmp 62) = .int .i64 ((k : Nat) : Int) := (Rg.use_eval V fr 62 [(8, 58), (11, 61), (12, 62)] (by simp only [hz]; decide)).trans h12
                        show Rg.Does1 _ _ V (Rg.putUse V [(8, 58), (11, 61), (12, 62)] fr) w2 _
                        exact Ob.rc_mv (.pointer (some ⟨b, off + k, none⟩)) (by simp only [execOp, tb61, tb62]; go_simp; try (intro h; exfalso; omega)) rfl rfl h8
                      · intro V S w2 HM HU HE
                        have lw : Below w6.heap.size w6 w2 := Rc.Mod.below HM (fun _ h => h.elim)
                        have h8 : V 8 = .bool false := HU.holds 8 (by decide)
                        have h13 : V 13 = .pointer (some ⟨b, off + k, none⟩) := HU.holds 13 (by decide)
                        have tb63 : (Rg.putUse V [(8, 58), (13, 63)] fr).eval (.tmp 63) = .pointer (some ⟨b, off + k, none⟩) := (Rg.use_eval V fr 63 [(8, 58), (13, 63)] (by simp only [hz]; decide)).trans h13
                        show Rg.Does1 _ _ V (Rg.putUse V [(8, 58), (13, 63)] fr) w2 _
                        have cu := (lw.cell (p := ⟨b, off + k, none⟩) HBL.out).trans hcell
                        exact Ob.rc_mv (.slice YA y.length yc) (by simp only [execOp, tb63]; go_simp) rfl rfl h8
                      · intro V S w2 HM HU HE
                        have lw : Below w6.heap.size w6 w2 := Rc.Mod.below HM (fun _ h => h.elim)
                        have h8 : V 8 = .bool false := HU.holds 8 (by decide)
                        have tb3 : (Rg.putUse V [(8, 58)] fr).eval (.tmp 3) = .int .i64 ((k : Nat) : Int) := (Rg.use_eval V fr 3 [(8, 58)] (by simp only [hz]; decide)).trans y3
                        show Rg.Does1 _ _ V (Rg.putUse V [(8, 58)] fr) w2 _
                        exact Ob.rc_mv (.int .i64 ((k : Nat) : Int)) (by simp only [execOp, tb3]; go_simp) rfl rfl h8
                      · intro V S w2 HM HU HE
                        have lw : Below w6.heap.size w6 w2 := Rc.Mod.below HM (fun _ h => h.elim)
                        have h8 : V 8 = .bool false := HU.holds 8 (by decide)
                        have tb2 : (Rg.putUse V [(8, 58)] fr).eval (.tmp 2) = .int .i64 ((R.length : Nat) : Int) := (Rg.use_eval V fr 2 [(8, 58)] (by simp only [hz]; decide)).trans y2
                        show Rg.Does1 _ _ V (Rg.putUse V [(8, 58)] fr) w2 _
                        exact Ob.rc_mv (.int .i64 ((R.length : Nat) : Int)) (by simp only [execOp, tb2]; go_simp) rfl rfl h8
                      · intro V S w2 HM HU HE
                        have lw : Below w6.heap.size w6 w2 := Rc.Mod.below HM (fun _ h => h.elim)
                        have h8 : V 8 = .bool false := HU.holds 8 (by decide)
                        have tb6 : (Rg.putUse V [(8, 58)] fr).eval (.tmp 6) = .slice QA P.length qc := (Rg.use_eval V fr 6 [(8, 58)] (by simp only [hz]; decide)).trans y6
                        show Rg.Does1 _ _ V (Rg.putUse V [(8, 58)] fr) w2 _
                        exact Ob.rc_mv (.slice QA P.length qc) (by simp only [execOp, tb6]; go_simp) rfl rfl h8
                      · intro V S w2 HM HU HE
                        have lw : Below w6.heap.size w6 w2 := Rc.Mod.below HM (fun _ h => h.elim)
                        have h8 : V 8 = .bool false := HU.holds 8 (by decide)
                        obtain ⟨X10, k10, e10, hc10, hr10, hX10⟩ := HU.holds 10 (by decide)
                        have tb60 : (Rg.putUse V [(8, 58), (10, 60), (14, 64), (15, 65), (16, 66), (17, 67)] fr).eval (.tmp 60) = .slice X10 (Mk.root Sh.sum R).length k10 := (Rg.use_eval V fr 60 [(8, 58), (10, 60), (14, 64), (15, 65), (16, 66), (17, 67)] (by simp only [hz]; decide)).trans e10
                        have h14 : V 14 = .slice YA y.length yc := HU.holds 14 (by decide)
                        have tb64 : (Rg.putUse V [(8, 58), (10, 60), (14, 64), (15, 65), (16, 66), (17, 67)] fr).eval (.tmp 64) = .slice YA y.length yc := (Rg.use_eval V fr 64 [(8, 58), (10, 60), (14, 64), (15, 65), (16, 66), (17, 67)] (by simp only [hz]; decide)).trans h14
                        have h15 : V 15 = .int .i64 ((k : Nat) : Int) := HU.holds 15 (by decide)
                        have tb65 : (Rg.putUse V [(8, 58), (10, 60), (14, 64), (15, 65), (16, 66), (17, 67)] fr).eval (.tmp 65) = .int .i64 ((k : Nat) : Int) := (Rg.use_eval V fr 65 [(8, 58), (10, 60), (14, 64), (15, 65), (16, 66), (17, 67)] (by simp only [hz]; decide)).trans h15
                        have h16 : V 16 = .int .i64 ((R.length : Nat) : Int) := HU.holds 16 (by decide)
                        have tb66 : (Rg.putUse V [(8, 58), (10, 60), (14, 64), (15, 65), (16, 66), (17, 67)] fr).eval (.tmp 66) = .int .i64 ((R.length : Nat) : Int) := (Rg.use_eval V fr 66 [(8, 58), (10, 60), (14, 64), (15, 65), (16, 66), (17, 67)] (by simp only [hz]; decide)).trans h16
                        have h17 : V 17 = .slice QA P.length qc := HU.holds 17 (by decide)
                        have tb67 : (Rg.putUse V [(8, 58), (10, 60), (14, 64), (15, 65), (16, 66), (17, 67)] fr).eval (.tmp 67) = .slice QA P.length qc := (Rg.use_eval V fr 67 [(8, 58), (10, 60), (14, 64), (15, 65), (16, 66), (17, 67)] (by simp only [hz]; decide)).trans h17
                        show Rg.Does1 _ _ V (Rg.putUse V [(8, 58), (10, 60), (14, 64), (15, 65), (16, 66), (17, 67)] fr) w2 _
                        exact Ob.step_tell (.bool true) #[.slice X10 (Mk.root Sh.sum R).length k10, .slice YA y.length yc, .int .i64 ((k : Nat) : Int), .int .i64 ((R.length : Nat) : Int), .slice QA P.length qc] (fun args w => Rg.call_enter Tryd.func14 (by kernel_rfl) (by kernel_rfl) args w) rfl (by simp only [List.map_toArray, List.map_cons, List.map_nil, tb60, tb64, tb65, tb66, tb67]) rfl (fun x => Rg.alias_none rfl V x) h8 ((pCheck w2 (Mk.root Sh.sum R) y X10 YA k10 yc k R.length (P) (QA) (qc) (by omega) (by omega) hr10 (HY.out.below lw) hyc (by omega) (HQ6.out.below lw) (hqc) (⟨by omega, fun z hz => by rw [HP32.out z hz]; omega⟩) (by omega) (HK6.out.later lw)).mono fun e w' h => ⟨by rw [h.1, HCK.out], h.2⟩)
                      · intro V S w2 HM HU HE
                        have lw : Below w6.heap.size w6 w2 := Rc.Mod.below HM (fun _ h => h.elim)
                        have h8 : V 8 = .bool false := HU.holds 8 (by decide)
                        have h18 : V 18 = .bool true := HU.holds 18 (by decide)
                        have tb68 : (Rg.putUse V [(8, 58), (18, 68)] fr).eval (.tmp 68) = .bool true := (Rg.use_eval V fr 68 [(8, 58), (18, 68)] (by simp only [hz]; decide)).trans h18
                        show Rg.Does1 _ _ V (Rg.putUse V [(8, 58), (18, 68)] fr) w2 _
                        exact Ob.rc_mv (.bool false) (by simp only [execOp, tb68]; go_simp) rfl rfl h8
                      · intro V S w2 HM HU HE
                        have lw : Below w6.heap.size w6 w2 := Rc.Mod.below HM (fun _ h => h.elim)
                        have h8 : V 8 = .bool false := HU.holds 8 (by decide)
                        have tb58 : (Rg.putUse V [(8, 58), (19, 69)] fr).eval (.tmp 58) = .bool false := (Rg.use_eval V fr 58 [(8, 58), (19, 69)] (by simp only [hz]; decide)).trans h8
                        have h19 : V 19 = .bool false := HU.holds 19 (by decide)
                        have tb69 : (Rg.putUse V [(8, 58), (19, 69)] fr).eval (.tmp 69) = .bool false := (Rg.use_eval V fr 69 [(8, 58), (19, 69)] (by simp only [hz]; decide)).trans h19
                        show Rg.Does1 _ _ V (Rg.putUse V [(8, 58), (19, 69)] fr) w2 _
                        exact Ob.rc_mv (.bool false) (by simp only [execOp, tb58, tb69]; go_simp) rfl rfl True.intro
                      · intro V S w2 HM HU HE
                        have lw : Below w6.heap.size w6 w2 := Rc.Mod.below HM (fun _ h => h.elim)
                        have h20 : V 20 = .bool false := HU.holds 20 (by decide)
                        have tb70 : (Rg.putUse V [(20, 70)] fr).eval (.tmp 70) = .bool false := (Rg.use_eval V fr 70 [(20, 70)] (by simp only [hz]; decide)).trans h20
                        show Rg.Does1 _ _ V (Rg.putUse V [(20, 70)] fr) w2 _
                        exact Ob.rc_mv (.bool false) (by simp only [execOp, tb70]; go_simp) rfl rfl True.intro
                      · intro V S w2 HM HU HE
                        have lw : Below w6.heap.size w6 w2 := Rc.Mod.below HM (fun _ h => h.elim)
                        have h21 : V 21 = .bool false := HU.holds 21 (by decide)
                        have tb1 : (Rg.putUse V [(21, 71)] fr).eval (.tmp 1) = .slice (some ⟨b, off, none⟩) R.length c := (Rg.use_eval V fr 1 [(21, 71)] (by simp only [hz]; decide)).trans y1
                        show Rg.Does1 _ _ V (Rg.putUse V [(21, 71)] fr) w2 _
                        exact Ob.rc_mv (.slice (some ⟨b, off, none⟩) R.length c) (by simp only [execOp, tb1]; go_simp) rfl rfl h21
                      · intro V S w2 HM HU HE
                        have lw : Below w6.heap.size w6 w2 := Rc.Mod.below HM (fun _ h => h.elim)
                        have h21 : V 21 = .bool false := HU.holds 21 (by decide)
                        have h22 : V 22 = .slice (some ⟨b, off, none⟩) R.length c := HU.holds 22 (by decide)
                        have tb72 : (Rg.putUse V [(21, 71), (22, 72)] fr).eval (.tmp 72) = .slice (some ⟨b, off, none⟩) R.length c := (Rg.use_eval V fr 72 [(21, 71), (22, 72)] (by simp only [hz]; decide)).trans h22
                        show Rg.Does1 _ _ V (Rg.putUse V [(21, 71), (22, 72)] fr) w2 _
                        exact step_hcall (Mk.root Sh.sum R) #[.slice (some ⟨b, off, none⟩) R.length c] (fun args w => Rg.call_enter Tryd.func10 (by kernel_rfl) (by kernel_rfl) args w) rfl (by simp only [List.map_toArray, List.map_cons, List.map_nil, tb72]) rfl (fun x => Rg.alias_none rfl V x) h21 (rRoot _ w2 R (some ⟨b, off, none⟩) c rfl (HR6.out.below lw) hc HS.out trivial)
                      · intro V S w2 HM HU HE
                        have lw : Below w6.heap.size w6 w2 := Rc.Mod.below HM (fun _ h => h.elim)
                        have h21 : V 21 = .bool false := HU.holds 21 (by decide)
                        have tb1 : (Rg.putUse V [(21, 71)] fr).eval (.tmp 1) = .slice (some ⟨b, off, none⟩) R.length c := (Rg.use_eval V fr 1 [(21, 71)] (by simp only [hz]; decide)).trans y1
                        show Rg.Does1 _ _ V (Rg.putUse V [(21, 71)] fr) w2 _
                        exact Ob.rc_mv (.slice (some ⟨b, off, none⟩) R.length c) (by simp only [execOp, tb1]; go_simp) rfl rfl h21
                      · intro V S w2 HM HU HE
                        have lw : Below w6.heap.size w6 w2 := Rc.Mod.below HM (fun _ h => h.elim)
                        have h21 : V 21 = .bool false := HU.holds 21 (by decide)
                        have tb3 : (Rg.putUse V [(21, 71)] fr).eval (.tmp 3) = .int .i64 ((k : Nat) : Int) := (Rg.use_eval V fr 3 [(21, 71)] (by simp only [hz]; decide)).trans y3
                        show Rg.Does1 _ _ V (Rg.putUse V [(21, 71)] fr) w2 _
                        exact Ob.rc_mv (.int .i64 ((k : Nat) : Int)) (by simp only [execOp, tb3]; go_simp) rfl rfl h21
                      · intro V S w2 HM HU HE
                        have lw : Below w6.heap.size w6 w2 := Rc.Mod.below HM (fun _ h => h.elim)
                        have h21 : V 21 = .bool false := HU.holds 21 (by decide)
                        have h24 : V 24 = .slice (some ⟨b, off, none⟩) R.length c := HU.holds 24 (by decide)
                        have tb74 : (Rg.putUse V [(21, 71), (24, 74), (25, 75)] fr).eval (.tmp 74) = .slice (some ⟨b, off, none⟩) R.length c := (Rg.use_eval V fr 74 [(21, 71), (24, 74), (25, 75)] (by simp only [hz]; decide)).trans h24
                        have h25 : V 25 = .int .i64 ((k : Nat) : Int) := HU.holds 25 (by decide)
                        have tb75 : (Rg.putUse V [(21, 71), (24, 74), (25, 75)] fr).eval (.tmp 75) = .int .i64 ((k : Nat) : Int) := (Rg.use_eval V fr 75 [(21, 71), (24, 74), (25, 75)] (by simp only [hz]; decide)).trans h25
                        show Rg.Does1 _ _ V (Rg.putUse V [(21, 71), (24, 74), (25, 75)] fr) w2 _
                        exact Ob.rc_mv (.pointer (some ⟨b, off + k, none⟩)) (by simp only [execOp, tb74, tb75]; go_simp; try (intro h; exfalso; omega)) rfl rfl h21
                      · intro V S w2 HM HU HE
                        have lw : Below w6.heap.size w6 w2 := Rc.Mod.below HM (fun _ h => h.elim)
                        have h21 : V 21 = .bool false := HU.holds 21 (by decide)
                        have h26 : V 26 = .pointer (some ⟨b, off + k, none⟩) := HU.holds 26 (by decide)
                        have tb76 : (Rg.putUse V [(21, 71), (26, 76)] fr).eval (.tmp 76) = .pointer (some ⟨b, off + k, none⟩) := (Rg.use_eval V fr 76 [(21, 71), (26, 76)] (by simp only [hz]; decide)).trans h26
                        show Rg.Does1 _ _ V (Rg.putUse V [(21, 71), (26, 76)] fr) w2 _
                        have cu := (lw.cell (p := ⟨b, off + k, none⟩) HBL.out).trans hcell
                        exact Ob.rc_mv (.slice YA y.length yc) (by simp only [execOp, tb76]; go_simp) rfl rfl h21
                      · intro V S w2 HM HU HE
                        have lw : Below w6.heap.size w6 w2 := Rc.Mod.below HM (fun _ h => h.elim)
                        have h21 : V 21 = .bool false := HU.holds 21 (by decide)
                        have tb3 : (Rg.putUse V [(21, 71)] fr).eval (.tmp 3) = .int .i64 ((k : Nat) : Int) := (Rg.use_eval V fr 3 [(21, 71)] (by simp only [hz]; decide)).trans y3
                        show Rg.Does1 _ _ V (Rg.putUse V [(21, 71)] fr) w2 _
                        exact Ob.rc_mv (.int .i64 ((k : Nat) : Int)) (by simp only [execOp, tb3]; go_simp) rfl rfl h21
                      · intro V S w2 HM HU HE
                        have lw : Below w6.heap.size w6 w2 := Rc.Mod.below HM (fun _ h => h.elim)
                        have h21 : V 21 = .bool false := HU.holds 21 (by decide)
                        have tb2 : (Rg.putUse V [(21, 71)] fr).eval (.tmp 2) = .int .i64 ((R.length : Nat) : Int) := (Rg.use_eval V fr 2 [(21, 71)] (by simp only [hz]; decide)).trans y2
                        show Rg.Does1 _ _ V (Rg.putUse V [(21, 71)] fr) w2 _
                        exact Ob.rc_mv (.int .i64 ((R.length : Nat) : Int)) (by simp only [execOp, tb2]; go_simp) rfl rfl h21
                      · intro V S w2 HM HU HE
                        have lw : Below w6.heap.size w6 w2 := Rc.Mod.below HM (fun _ h => h.elim)
                        have h21 : V 21 = .bool false := HU.holds 21 (by decide)
                        show Rg.Does1 _ _ V (Rg.putUse V [(21, 71)] fr) w2 _
                        exact step_onil rfl rfl (fun x => Rg.alias_none rfl V x) h21
                      · intro V S w2 HM HU HE
                        have lw : Below w6.heap.size w6 w2 := Rc.Mod.below HM (fun _ h => h.elim)
                        have h21 : V 21 = .bool false := HU.holds 21 (by decide)
                        have tb6 : (Rg.putUse V [(21, 71)] fr).eval (.tmp 6) = .slice QA P.length qc := (Rg.use_eval V fr 6 [(21, 71)] (by simp only [hz]; decide)).trans y6
                        show Rg.Does1 _ _ V (Rg.putUse V [(21, 71)] fr) w2 _
                        exact Ob.rc_mv (.slice QA P.length qc) (by simp only [execOp, tb6]; go_simp) rfl rfl h21
                      · intro V S w2 HM HU HE
                        have lw : Below w6.heap.size w6 w2 := Rc.Mod.below HM (fun _ h => h.elim)
                        have h21 : V 21 = .bool false := HU.holds 21 (by decide)
                        have tb80 : (Rg.putUse V [(21, 71), (30, 80), (31, 81)] fr).eval (.tmp 80) = V 30 := (Rg.use_eval V fr 80 [(21, 71), (30, 80), (31, 81)] (by simp only [hz]; decide)).trans rfl
                        have h31 : V 31 = .slice QA P.length qc := HU.holds 31 (by decide)
                        have tb81 : (Rg.putUse V [(21, 71), (30, 80), (31, 81)] fr).eval (.tmp 81) = .slice QA P.length qc := (Rg.use_eval V fr 81 [(21, 71), (30, 80), (31, 81)] (by simp only [hz]; decide)).trans h31
                        show Rg.Does1 _ _ V (Rg.putUse V [(21, 71), (30, 80), (31, 81)] fr) w2 _
                        exact step_ocopy (i := 30) (P) rfl tb80 tb81 rfl (by decide) (HU.holds 30 (by decide)) HQN.out (fun _ h => h.2) lw (HU.lt 30 (by decide)) (by omega) (fun x => Rg.alias_none rfl V x) h21
                      · intro V S w2 HM HU HE
                        have lw : Below w6.heap.size w6 w2 := Rc.Mod.below HM (fun _ h => h.elim)
                        have h21 : V 21 = .bool false := HU.holds 21 (by decide)
                        have tb1 : (Rg.putUse V [(21, 71)] fr).eval (.tmp 1) = .slice (some ⟨b, off, none⟩) R.length c := (Rg.use_eval V fr 1 [(21, 71)] (by simp only [hz]; decide)).trans y1
                        show Rg.Does1 _ _ V (Rg.putUse V [(21, 71)] fr) w2 _
                        exact Ob.rc_mv (.slice (some ⟨b, off, none⟩) R.length c) (by simp only [execOp, tb1]; go_simp) rfl rfl h21
                      · intro V S w2 HM HU HE
                        have lw : Below w6.heap.size w6 w2 := Rc.Mod.below HM (fun _ h => h.elim)
                        have h21 : V 21 = .bool false := HU.holds 21 (by decide)
                        have h33 : V 33 = .slice (some ⟨b, off, none⟩) R.length c := HU.holds 33 (by decide)
                        have tb83 : (Rg.putUse V [(21, 71), (33, 83)] fr).eval (.tmp 83) = .slice (some ⟨b, off, none⟩) R.length c := (Rg.use_eval V fr 83 [(21, 71), (33, 83)] (by simp only [hz]; decide)).trans h33
                        show Rg.Does1 _ _ V (Rg.putUse V [(21, 71), (33, 83)] fr) w2 _
                        exact step_hcall (Mk.root Sh.sum R) #[.slice (some ⟨b, off, none⟩) R.length c] (fun args w => Rg.call_enter Tryd.func10 (by kernel_rfl) (by kernel_rfl) args w) rfl (by simp only [List.map_toArray, List.map_cons, List.map_nil, tb83]) rfl (fun x => Rg.alias_none rfl V x) h21 (rRoot _ w2 R (some ⟨b, off, none⟩) c rfl (HR6.out.below lw) hc HS.out trivial)
                      · intro V S w2 HM HU HE
                        have lw : Below w6.heap.size w6 w2 := Rc.Mod.below HM (fun _ h => h.elim)
                        have h21 : V 21 = .bool false := HU.holds 21 (by decide)
                        obtain ⟨X34, k34, e34, hc34, hr34, hX34⟩ := HU.holds 34 (by decide)
                        have tb84 : (Rg.putUse V [(21, 71), (34, 84)] fr).eval (.tmp 84) = .slice X34 (Mk.root Sh.sum R).length k34 := (Rg.use_eval V fr 84 [(21, 71), (34, 84)] (by simp only [hz]; decide)).trans e34
                        show Rg.Does1 _ _ V (Rg.putUse V [(21, 71), (34, 84)] fr) w2 _
                        exact step_lone (i := 34) (Mk.root Sh.sum R) rfl tb84 rfl (by decide) hc34 hr34 hX34 (HU.lt 34 (by decide)) (fun x => Rg.alias_none rfl V x) h21
                      · intro V S w2 HM HU HE
                        have lw : Below w6.heap.size w6 w2 := Rc.Mod.below HM (fun _ h => h.elim)
                        have h21 : V 21 = .bool false := HU.holds 21 (by decide)
                        have tb82 : (Rg.putUse V [(21, 71), (32, 82), (35, 85)] fr).eval (.tmp 82) = V 32 := (Rg.use_eval V fr 82 [(21, 71), (32, 82), (35, 85)] (by simp only [hz]; decide)).trans rfl
                        have tb85 : (Rg.putUse V [(21, 71), (32, 82), (35, 85)] fr).eval (.tmp 85) = V 35 := (Rg.use_eval V fr 85 [(21, 71), (32, 82), (35, 85)] (by simp only [hz]; decide)).trans rfl
                        show Rg.Does1 _ _ V (Rg.putUse V [(21, 71), (32, 82), (35, 85)] fr) w2 _
                        exact step_oapp (i := 32) (k := 35) (P) ([Mk.root Sh.sum R]) (P ++ [Mk.root Sh.sum R]) rfl rfl tb82 tb85 rfl (by decide) (by decide) (HU.holds 32 (by decide)) (HU.holds 35 (by decide)) (HU.sep 32 (by decide) 35 (by decide) (by decide)) (HU.lt 32 (by decide)) (HU.lt 35 (by decide)) (Nat.zero_lt_succ _) (by simp only [List.length_cons, List.length_nil]; omega) (fun x => Rg.alias_none rfl V x) h21
                      · intro V S w2 HM HU HE
                        have lw : Below w6.heap.size w6 w2 := Rc.Mod.below HM (fun _ h => h.elim)
                        have h21 : V 21 = .bool false := HU.holds 21 (by decide)
                        obtain ⟨X23, k23, e23, hc23, hr23, hX23⟩ := HU.holds 23 (by decide)
                        have tb73 : (Rg.putUse V [(21, 71), (23, 73), (27, 77), (28, 78), (29, 79), (36, 86)] fr).eval (.tmp 73) = .slice X23 (Mk.root Sh.sum R).length k23 := (Rg.use_eval V fr 73 [(21, 71), (23, 73), (27, 77), (28, 78), (29, 79), (36, 86)] (by simp only [hz]; decide)).trans e23
                        have h27 : V 27 = .slice YA y.length yc := HU.holds 27 (by decide)
                        have tb77 : (Rg.putUse V [(21, 71), (23, 73), (27, 77), (28, 78), (29, 79), (36, 86)] fr).eval (.tmp 77) = .slice YA y.length yc := (Rg.use_eval V fr 77 [(21, 71), (23, 73), (27, 77), (28, 78), (29, 79), (36, 86)] (by simp only [hz]; decide)).trans h27
                        have h28 : V 28 = .int .i64 ((k : Nat) : Int) := HU.holds 28 (by decide)
                        have tb78 : (Rg.putUse V [(21, 71), (23, 73), (27, 77), (28, 78), (29, 79), (36, 86)] fr).eval (.tmp 78) = .int .i64 ((k : Nat) : Int) := (Rg.use_eval V fr 78 [(21, 71), (23, 73), (27, 77), (28, 78), (29, 79), (36, 86)] (by simp only [hz]; decide)).trans h28
                        have h29 : V 29 = .int .i64 ((R.length : Nat) : Int) := HU.holds 29 (by decide)
                        have tb79 : (Rg.putUse V [(21, 71), (23, 73), (27, 77), (28, 78), (29, 79), (36, 86)] fr).eval (.tmp 79) = .int .i64 ((R.length : Nat) : Int) := (Rg.use_eval V fr 79 [(21, 71), (23, 73), (27, 77), (28, 78), (29, 79), (36, 86)] (by simp only [hz]; decide)).trans h29
                        have tb86 : (Rg.putUse V [(21, 71), (23, 73), (27, 77), (28, 78), (29, 79), (36, 86)] fr).eval (.tmp 86) = V 36 := (Rg.use_eval V fr 86 [(21, 71), (23, 73), (27, 77), (28, 78), (29, 79), (36, 86)] (by simp only [hz]; decide)).trans rfl
                        show Rg.Does1 _ _ V (Rg.putUse V [(21, 71), (23, 73), (27, 77), (28, 78), (29, 79), (36, 86)] fr) w2 _
                        exact Ob.step_tell (.bool false) #[.slice X23 (Mk.root Sh.sum R).length k23, .slice YA y.length yc, .int .i64 ((k : Nat) : Int), .int .i64 ((R.length : Nat) : Int), V 36] (fun args w => Rg.call_enter Tryd.func14 (by kernel_rfl) (by kernel_rfl) args w) rfl (by simp only [List.map_toArray, List.map_cons, List.map_nil, tb73, tb77, tb78, tb79, tb86]) rfl (fun x => Rg.alias_none rfl V x) h21 (by obtain ⟨A9, c9, e9, h9, r9⟩ := orow.form (HU.holds 36 (by decide)) lw; rw [e9]; exact (pCheck w2 (Mk.root Sh.sum R) y X23 YA k23 yc k R.length (P ++ [Mk.root Sh.sum R]) (A9) (c9) (by omega) (by omega) hr23 (HY.out.below lw) hyc (by omega) (r9) (h9) (⟨by rw [List.length_append]; simp only [List.length_cons, List.length_nil]; omega, fun z hz => by rcases List.mem_append.1 hz with h | h; rw [HP32.out z h]; omega; rw [List.mem_singleton.1 h, root_length]; omega⟩) (by rw [List.length_append]; simp only [List.length_cons, List.length_nil]; omega) (HK6.out.later lw)).mono fun e w' h => ⟨by rw [h.1, HLN.out _ (by rw [List.length_append]; simp)], h.2⟩)
                      · intro V S w2 HM HU HE
                        have lw : Below w6.heap.size w6 w2 := Rc.Mod.below HM (fun _ h => h.elim)
                        have h21 : V 21 = .bool false := HU.holds 21 (by decide)
                        have tb71 : (Rg.putUse V [(21, 71), (37, 87)] fr).eval (.tmp 71) = .bool false := (Rg.use_eval V fr 71 [(21, 71), (37, 87)] (by simp only [hz]; decide)).trans h21
                        have h37 : V 37 = .bool false := HU.holds 37 (by decide)
                        have tb87 : (Rg.putUse V [(21, 71), (37, 87)] fr).eval (.tmp 87) = .bool false := (Rg.use_eval V fr 87 [(21, 71), (37, 87)] (by simp only [hz]; decide)).trans h37
                        show Rg.Does1 _ _ V (Rg.putUse V [(21, 71), (37, 87)] fr) w2 _
                        exact Ob.rc_mv (.bool false) (by simp only [execOp, tb71, tb87]; go_simp) rfl rfl True.intro
                      · intro V S w2 HM HU HE
                        have lw : Below w6.heap.size w6 w2 := Rc.Mod.below HM (fun _ h => h.elim)
                        have h38 : V 38 = .bool false := HU.holds 38 (by decide)
                        have tb88 : (Rg.putUse V [(38, 88)] fr).eval (.tmp 88) = .bool false := (Rg.use_eval V fr 88 [(38, 88)] (by simp only [hz]; decide)).trans h38
                        show Rg.Does1 _ _ V (Rg.putUse V [(38, 88)] fr) w2 _
                        exact Ob.rc_mv (.bool false) (by simp only [execOp, tb88]; go_simp) rfl rfl True.intro
                      · intro V S w2 HM HU HE
                        have lw : Below w6.heap.size w6 w2 := Rc.Mod.below HM (fun _ h => h.elim)
                        have h39 : V 39 = .bool false := HU.holds 39 (by decide)
                        have tb6 : (Rg.putUse V [(39, 89)] fr).eval (.tmp 6) = .slice QA P.length qc := (Rg.use_eval V fr 6 [(39, 89)] (by simp only [hz]; decide)).trans y6
                        show Rg.Does1 _ _ V (Rg.putUse V [(39, 89)] fr) w2 _
                        exact Ob.rc_mv (.slice QA P.length qc) (by simp only [execOp, tb6]; go_simp) rfl rfl h39
                      · intro V S w2 HM HU HE
                        have lw : Below w6.heap.size w6 w2 := Rc.Mod.below HM (fun _ h => h.elim)
                        have h39 : V 39 = .bool false := HU.holds 39 (by decide)
                        have h40 : V 40 = .slice QA P.length qc := HU.holds 40 (by decide)
                        have tb90 : (Rg.putUse V [(39, 89), (40, 90)] fr).eval (.tmp 90) = .slice QA P.length qc := (Rg.use_eval V fr 90 [(39, 89), (40, 90)] (by simp only [hz]; decide)).trans h40
                        show Rg.Does1 _ _ V (Rg.putUse V [(39, 89), (40, 90)] fr) w2 _
                        exact Ob.rc_mv (.int .i64 ((P.length : Nat) : Int)) (by simp only [execOp, resolve, List.map_toArray, List.map_cons, List.map_nil, tb90]; go_simp) rfl rfl h39
                      · intro V S w2 HM HU HE
                        have lw : Below w6.heap.size w6 w2 := Rc.Mod.below HM (fun _ h => h.elim)
                        have h39 : V 39 = .bool false := HU.holds 39 (by decide)
                        have h41 : V 41 = .int .i64 ((P.length : Nat) : Int) := HU.holds 41 (by decide)
                        have tb91 : (Rg.putUse V [(39, 89), (41, 91)] fr).eval (.tmp 91) = .int .i64 ((P.length : Nat) : Int) := (Rg.use_eval V fr 91 [(39, 89), (41, 91)] (by simp only [hz]; decide)).trans h41
                        show Rg.Does1 _ _ V (Rg.putUse V [(39, 89), (41, 91)] fr) w2 _
                        exact Ob.rc_mv (.bool true) (by simp only [execOp, tb91]; go_simp; omega) rfl rfl h39
                      · intro V S w2 HM HU HE
                        have lw : Below w6.heap.size w6 w2 := Rc.Mod.below HM (fun _ h => h.elim)
                        have h39 : V 39 = .bool false := HU.holds 39 (by decide)
                        have h42 : V 42 = .bool true := HU.holds 42 (by decide)
                        have tb92 : (Rg.putUse V [(39, 89), (42, 92)] fr).eval (.tmp 92) = .bool true := (Rg.use_eval V fr 92 [(39, 89), (42, 92)] (by simp only [hz]; decide)).trans h42
                        show Rg.Does1 _ _ V (Rg.putUse V [(39, 89), (42, 92)] fr) w2 _
                        exact Ob.rc_mv (.bool true) (by simp only [execOp, tb92]; go_simp) rfl rfl h39
                      · intro V S w2 HM HU HE
                        have lw : Below w6.heap.size w6 w2 := Rc.Mod.below HM (fun _ h => h.elim)
                        have h43 : V 43 = .bool true := HU.holds 43 (by decide)
                        have tb1 : (Rg.putUse V [(43, 93)] fr).eval (.tmp 1) = .slice (some ⟨b, off, none⟩) R.length c := (Rg.use_eval V fr 1 [(43, 93)] (by simp only [hz]; decide)).trans y1
                        show Rg.Does1 _ _ V (Rg.putUse V [(43, 93)] fr) w2 _
                        exact Ob.rc_mv (.slice (some ⟨b, off, none⟩) R.length c) (by simp only [execOp, tb1]; go_simp) rfl rfl h43
                      · intro V S w2 HM HU HE
                        have lw : Below w6.heap.size w6 w2 := Rc.Mod.below HM (fun _ h => h.elim)
                        have h43 : V 43 = .bool true := HU.holds 43 (by decide)
                        have h44 : V 44 = .slice (some ⟨b, off, none⟩) R.length c := HU.holds 44 (by decide)
                        have tb94 : (Rg.putUse V [(43, 93), (44, 94)] fr).eval (.tmp 94) = .slice (some ⟨b, off, none⟩) R.length c := (Rg.use_eval V fr 94 [(43, 93), (44, 94)] (by simp only [hz]; decide)).trans h44
                        show Rg.Does1 _ _ V (Rg.putUse V [(43, 93), (44, 94)] fr) w2 _
                        exact step_hcall (Mk.root Sh.sum R) #[.slice (some ⟨b, off, none⟩) R.length c] (fun args w => Rg.call_enter Tryd.func10 (by kernel_rfl) (by kernel_rfl) args w) rfl (by simp only [List.map_toArray, List.map_cons, List.map_nil, tb94]) rfl (fun x => Rg.alias_none rfl V x) h43 (rRoot _ w2 R (some ⟨b, off, none⟩) c rfl (HR6.out.below lw) hc HS.out trivial)
                      · intro V S w2 HM HU HE
                        have lw : Below w6.heap.size w6 w2 := Rc.Mod.below HM (fun _ h => h.elim)
                        have h43 : V 43 = .bool true := HU.holds 43 (by decide)
                        have tb1 : (Rg.putUse V [(43, 93)] fr).eval (.tmp 1) = .slice (some ⟨b, off, none⟩) R.length c := (Rg.use_eval V fr 1 [(43, 93)] (by simp only [hz]; decide)).trans y1
                        show Rg.Does1 _ _ V (Rg.putUse V [(43, 93)] fr) w2 _
                        exact Ob.rc_mv (.slice (some ⟨b, off, none⟩) R.length c) (by simp only [execOp, tb1]; go_simp) rfl rfl h43
                      · intro V S w2 HM HU HE
                        have lw : Below w6.heap.size w6 w2 := Rc.Mod.below HM (fun _ h => h.elim)
                        have h43 : V 43 = .bool true := HU.holds 43 (by decide)
                        have tb3 : (Rg.putUse V [(43, 93)] fr).eval (.tmp 3) = .int .i64 ((k : Nat) : Int) := (Rg.use_eval V fr 3 [(43, 93)] (by simp only [hz]; decide)).trans y3
                        show Rg.Does1 _ _ V (Rg.putUse V [(43, 93)] fr) w2 _
                        exact Ob.rc_mv (.int .i64 ((k : Nat) : Int)) (by simp only [execOp, tb3]; go_simp) rfl rfl h43
                      · intro V S w2 HM HU HE
                        have lw : Below w6.heap.size w6 w2 := Rc.Mod.below HM (fun _ h => h.elim)
                        have h43 : V 43 = .bool true := HU.holds 43 (by decide)
                        have h46 : V 46 = .slice (some ⟨b, off, none⟩) R.length c := HU.holds 46 (by decide)
                        have tb96 : (Rg.putUse V [(43, 93), (46, 96), (47, 97)] fr).eval (.tmp 96) = .slice (some ⟨b, off, none⟩) R.length c := (Rg.use_eval V fr 96 [(43, 93), (46, 96), (47, 97)] (by simp only [hz]; decide)).trans h46
                        have h47 : V 47 = .int .i64 ((k : Nat) : Int) := HU.holds 47 (by decide)
                        have tb97 : (Rg.putUse V [(43, 93), (46, 96), (47, 97)] fr).eval (.tmp 97) = .int .i64 ((k : Nat) : Int) := (Rg.use_eval V fr 97 [(43, 93), (46, 96), (47, 97)] (by simp only [hz]; decide)).trans h47
                        show Rg.Does1 _ _ V (Rg.putUse V [(43, 93), (46, 96), (47, 97)] fr) w2 _
                        exact Ob.rc_mv (.pointer (some ⟨b, off + k, none⟩)) (by simp only [execOp, tb96, tb97]; go_simp; try (intro h; exfalso; omega)) rfl rfl h43
                      · intro V S w2 HM HU HE
                        have lw : Below w6.heap.size w6 w2 := Rc.Mod.below HM (fun _ h => h.elim)
                        have h43 : V 43 = .bool true := HU.holds 43 (by decide)
                        have h48 : V 48 = .pointer (some ⟨b, off + k, none⟩) := HU.holds 48 (by decide)
                        have tb98 : (Rg.putUse V [(43, 93), (48, 98)] fr).eval (.tmp 98) = .pointer (some ⟨b, off + k, none⟩) := (Rg.use_eval V fr 98 [(43, 93), (48, 98)] (by simp only [hz]; decide)).trans h48
                        show Rg.Does1 _ _ V (Rg.putUse V [(43, 93), (48, 98)] fr) w2 _
                        have cu := (lw.cell (p := ⟨b, off + k, none⟩) HBL.out).trans hcell
                        exact Ob.rc_mv (.slice YA y.length yc) (by simp only [execOp, tb98]; go_simp) rfl rfl h43
                      · intro V S w2 HM HU HE
                        have lw : Below w6.heap.size w6 w2 := Rc.Mod.below HM (fun _ h => h.elim)
                        have h43 : V 43 = .bool true := HU.holds 43 (by decide)
                        have tb3 : (Rg.putUse V [(43, 93)] fr).eval (.tmp 3) = .int .i64 ((k : Nat) : Int) := (Rg.use_eval V fr 3 [(43, 93)] (by simp only [hz]; decide)).trans y3
                        show Rg.Does1 _ _ V (Rg.putUse V [(43, 93)] fr) w2 _
                        exact Ob.rc_mv (.int .i64 ((k : Nat) : Int)) (by simp only [execOp, tb3]; go_simp) rfl rfl h43
                      · intro V S w2 HM HU HE
                        have lw : Below w6.heap.size w6 w2 := Rc.Mod.below HM (fun _ h => h.elim)
                        have h43 : V 43 = .bool true := HU.holds 43 (by decide)
                        have tb2 : (Rg.putUse V [(43, 93)] fr).eval (.tmp 2) = .int .i64 ((R.length : Nat) : Int) := (Rg.use_eval V fr 2 [(43, 93)] (by simp only [hz]; decide)).trans y2
                        show Rg.Does1 _ _ V (Rg.putUse V [(43, 93)] fr) w2 _
                        exact Ob.rc_mv (.int .i64 ((R.length : Nat) : Int)) (by simp only [execOp, tb2]; go_simp) rfl rfl h43
                      · intro V S w2 HM HU HE
                        have lw : Below w6.heap.size w6 w2 := Rc.Mod.below HM (fun _ h => h.elim)
                        have h43 : V 43 = .bool true := HU.holds 43 (by decide)
                        have tb6 : (Rg.putUse V [(43, 93)] fr).eval (.tmp 6) = .slice QA P.length qc := (Rg.use_eval V fr 6 [(43, 93)] (by simp only [hz]; decide)).trans y6
                        show Rg.Does1 _ _ V (Rg.putUse V [(43, 93)] fr) w2 _
                        exact Ob.rc_mv (.slice QA P.length qc) (by simp only [execOp, tb6]; go_simp) rfl rfl h43
                      · intro V S w2 HM HU HE
                        have lw : Below w6.heap.size w6 w2 := Rc.Mod.below HM (fun _ h => h.elim)
                        have h43 : V 43 = .bool true := HU.holds 43 (by decide)
                        have h52 : V 52 = .slice QA P.length qc := HU.holds 52 (by decide)
                        have tb102 : (Rg.putUse V [(43, 93), (52, 102)] fr).eval (.tmp 102) = .slice QA P.length qc := (Rg.use_eval V fr 102 [(43, 93), (52, 102)] (by simp only [hz]; decide)).trans h52
                        show Rg.Does1 _ _ V (Rg.putUse V [(43, 93), (52, 102)] fr) w2 _
                        exact Ob.rc_sll rfl tb102 rfl (S1 w2 hpos) rfl rfl h43
                      · intro V S w2 HM HU HE
                        have lw : Below w6.heap.size w6 w2 := Rc.Mod.below HM (fun _ h => h.elim)
                        have h43 : V 43 = .bool true := HU.holds 43 (by decide)
                        obtain ⟨X45, k45, e45, hc45, hr45, hX45⟩ := HU.holds 45 (by decide)
                        have tb95 : (Rg.putUse V [(43, 93), (45, 95), (49, 99), (50, 100), (51, 101), (53, 103)] fr).eval (.tmp 95) = .slice X45 (Mk.root Sh.sum R).length k45 := (Rg.use_eval V fr 95 [(43, 93), (45, 95), (49, 99), (50, 100), (51, 101), (53, 103)] (by simp only [hz]; decide)).trans e45
                        have h49 : V 49 = .slice YA y.length yc := HU.holds 49 (by decide)
                        have tb99 : (Rg.putUse V [(43, 93), (45, 95), (49, 99), (50, 100), (51, 101), (53, 103)] fr).eval (.tmp 99) = .slice YA y.length yc := (Rg.use_eval V fr 99 [(43, 93), (45, 95), (49, 99), (50, 100), (51, 101), (53, 103)] (by simp only [hz]; decide)).trans h49
                        have h50 : V 50 = .int .i64 ((k : Nat) : Int) := HU.holds 50 (by decide)
                        have tb100 : (Rg.putUse V [(43, 93), (45, 95), (49, 99), (50, 100), (51, 101), (53, 103)] fr).eval (.tmp 100) = .int .i64 ((k : Nat) : Int) := (Rg.use_eval V fr 100 [(43, 93), (45, 95), (49, 99), (50, 100), (51, 101), (53, 103)] (by simp only [hz]; decide)).trans h50
                        have h51 : V 51 = .int .i64 ((R.length : Nat) : Int) := HU.holds 51 (by decide)
                        have tb101 : (Rg.putUse V [(43, 93), (45, 95), (49, 99), (50, 100), (51, 101), (53, 103)] fr).eval (.tmp 101) = .int .i64 ((R.length : Nat) : Int) := (Rg.use_eval V fr 101 [(43, 93), (45, 95), (49, 99), (50, 100), (51, 101), (53, 103)] (by simp only [hz]; decide)).trans h51
                        have h53 : V 53 = .slice (cutA QA 1 qc) (P.drop 1).length (qc - 1) := HU.holds 53 (by decide)
                        have tb103 : (Rg.putUse V [(43, 93), (45, 95), (49, 99), (50, 100), (51, 101), (53, 103)] fr).eval (.tmp 103) = .slice (cutA QA 1 qc) (P.drop 1).length (qc - 1) := (Rg.use_eval V fr 103 [(43, 93), (45, 95), (49, 99), (50, 100), (51, 101), (53, 103)] (by simp only [hz]; decide)).trans h53
                        show Rg.Does1 _ _ V (Rg.putUse V [(43, 93), (45, 95), (49, 99), (50, 100), (51, 101), (53, 103)] fr) w2 _
                        exact Ob.step_tell (.bool false) #[.slice X45 (Mk.root Sh.sum R).length k45, .slice YA y.length yc, .int .i64 ((k : Nat) : Int), .int .i64 ((R.length : Nat) : Int), .slice (cutA QA 1 qc) (P.drop 1).length (qc - 1)] (fun args w => Rg.call_enter Tryd.func14 (by kernel_rfl) (by kernel_rfl) args w) rfl (by simp only [List.map_toArray, List.map_cons, List.map_nil, tb95, tb99, tb100, tb101, tb103]) rfl (fun x => Rg.alias_none rfl V x) h43 ((pCheck w2 (Mk.root Sh.sum R) y X45 YA k45 yc k R.length (P.drop 1) (cutA QA 1 qc) (qc - 1) (by omega) (by omega) hr45 (HY.out.below lw) hyc (by omega) ((HQ6.out.below lw).cut 1 qc hqc) (by rw [List.length_drop]; omega) (⟨by rw [List.length_drop]; omega, fun z hz => by rw [HP32.out z (List.mem_of_mem_drop hz)]; omega⟩) (by rw [List.length_drop]; omega) (HK6.out.later lw)).mono fun e w' h => ⟨by rw [h.1, HLN.out _ (by rw [List.length_drop]; omega)], h.2⟩)
                      · intro V S w2 HM HU HE
                        have lw : Below w6.heap.size w6 w2 := Rc.Mod.below HM (fun _ h => h.elim)
                        have h39 : V 39 = .bool false := HU.holds 39 (by decide)
                        have h43 : V 43 = .bool true := HU.holds 43 (by decide)
                        have tb93 : (Rg.putUse V [(39, 89), (43, 93), (54, 104)] fr).eval (.tmp 93) = .bool true := (Rg.use_eval V fr 93 [(39, 89), (43, 93), (54, 104)] (by simp only [hz]; decide)).trans h43
                        have h54 : V 54 = .bool false := HU.holds 54 (by decide)
                        have tb104 : (Rg.putUse V [(39, 89), (43, 93), (54, 104)] fr).eval (.tmp 104) = .bool false := (Rg.use_eval V fr 104 [(39, 89), (43, 93), (54, 104)] (by simp only [hz]; decide)).trans h54
                        show Rg.Does1 _ _ V (Rg.putUse V [(39, 89), (43, 93), (54, 104)] fr) w2 _
                        exact Ob.rc_mv (.bool false) (by simp only [execOp, tb93, tb104]; go_simp) rfl rfl h39
                      · intro V S w2 HM HU HE
                        have lw : Below w6.heap.size w6 w2 := Rc.Mod.below HM (fun _ h => h.elim)
                        have h39 : V 39 = .bool false := HU.holds 39 (by decide)
                        have tb89 : (Rg.putUse V [(39, 89), (55, 105)] fr).eval (.tmp 89) = .bool false := (Rg.use_eval V fr 89 [(39, 89), (55, 105)] (by simp only [hz]; decide)).trans h39
                        have h55 : V 55 = .bool false := HU.holds 55 (by decide)
                        have tb105 : (Rg.putUse V [(39, 89), (55, 105)] fr).eval (.tmp 105) = .bool false := (Rg.use_eval V fr 105 [(39, 89), (55, 105)] (by simp only [hz]; decide)).trans h55
                        show Rg.Does1 _ _ V (Rg.putUse V [(39, 89), (55, 105)] fr) w2 _
                        exact Ob.rc_mv (.bool false) (by simp only [execOp, tb89, tb105]; go_simp) rfl rfl True.intro
                  · intro V S w2 HI
                    have HL2 : Hid (Below w6.heap.size w6 w2) := Rc.Mod.below HI.mod.undrew (fun _ h => h.elim)
                    have hw56 : V 56 = .bool false := HI.get 56 (by decide) (by rfl)
                    simp only [Rg.putList, Act.put, List.setIfInBounds_toArray, List.set_cons_zero, List.set_cons_succ, Nat.zero_add, Nat.reduceAdd]
                    rw [hw56]
                    clear HI hw56
                    have HW7 : Hid (Below w3.heap.size w3 w2) := HW6.out.trans (HL2.out.mono HW6.out.size)
                    clear HL2 HW6
                    go_wp2_with fail
                    go_roundw
                    case rel => exact ⟨(k : Int) + 1, by go_num, by omega, by omega, HW7⟩
                    case measure => simp [intOf]; omega
                · skip
                  refine Rc.wp_region (by kernel_rfl) (fun opn => List.getD [Rc.val (.int .i64 0), Rc.val (.bool false), Rc.val (.bool false), Rc.val (.slice PA P.length pc), Rc.val (.slice QA P.length qc), Rc.val (.bool true), Rc.val (.bool false), Rc.val (.bool false), Rc.val (.bool false), Rc.val (.slice (some ⟨b, off, none⟩) R.length c), Ob.frow (Mk.root Sh.sum R), Rc.val (.slice (some ⟨b, off, none⟩) R.length c), Rc.val (.int .i64 ((k : Nat) : Int)), Rc.val (.pointer (some ⟨b, off + k, none⟩)), Rc.val (.slice YA y.length yc), Rc.val (.int .i64 ((k : Nat) : Int)), Rc.val (.int .i64 ((R.length : Nat) : Int)), Rc.val (.slice QA P.length qc), Rc.val (.bool true), Rc.val (.bool false), Rc.val (.bool false), Rc.val (.bool false), Rc.val (.slice (some ⟨b, off, none⟩) R.length c), Ob.frow (Mk.root Sh.sum R), Rc.val (.slice (some ⟨b, off, none⟩) R.length c), Rc.val (.int .i64 ((k : Nat) : Int)), Rc.val (.pointer (some ⟨b, off + k, none⟩)), Rc.val (.slice YA y.length yc), Rc.val (.int .i64 ((k : Nat) : Int)), Rc.val (.int .i64 ((R.length : Nat) : Int)), orow w6 ([]), Rc.val (.slice QA P.length qc), orow w6 (P), Rc.val (.slice (some ⟨b, off, none⟩) R.length c), Ob.frow (Mk.root Sh.sum R), lrow ([Mk.root Sh.sum R]), orow w6 (P ++ [Mk.root Sh.sum R]), Rc.val (.bool false), Rc.val (.bool false), Rc.val (.bool false), Rc.val (.slice QA P.length qc), Rc.val (.int .i64 ((P.length : Nat) : Int)), Rc.val (.bool false), Rc.val (.bool false), Rc.val (undef), Rc.val (undef), Rc.val (undef), Rc.val (undef), Rc.val (undef), Rc.val (undef), Rc.val (undef), Rc.val (undef), Rc.val (undef), Rc.val (undef), Rc.val (undef), Rc.val (.bool false), Rc.val (.bool false)] opn Rc.any) 0 [] [[], [(0, 50)], [(1, 51)], [(2, 52)], [(2, 52)], [(2, 52), (3, 53), (4, 54)], [(2, 52), (5, 55)], [(2, 52), (6, 56)], [(7, 57)], [(8, 58)], [(8, 58), (9, 59)], [(8, 58)], [(8, 58)], [(8, 58), (11, 61), (12, 62)], [(8, 58), (13, 63)], [(8, 58)], [(8, 58)], [(8, 58)], [(8, 58), (10, 60), (14, 64), (15, 65), (16, 66), (17, 67)], [(8, 58), (18, 68)], [(8, 58), (19, 69)], [(20, 70)], [(21, 71)], [(21, 71), (22, 72)], [(21, 71)], [(21, 71)], [(21, 71), (24, 74), (25, 75)], [(21, 71), (26, 76)], [(21, 71)], [(21, 71)], [(21, 71)], [(21, 71)], [(21, 71), (30, 80), (31, 81)], [(21, 71)], [(21, 71), (33, 83)], [(21, 71), (34, 84)], [(21, 71), (32, 82), (35, 85)], [(21, 71), (23, 73), (27, 77), (28, 78), (29, 79), (36, 86)], [(21, 71), (37, 87)], [(38, 88)], [(39, 89)], [(39, 89), (40, 90)], [(39, 89), (41, 91)], [(39, 89), (42, 92)], [(43, 93)], [(43, 93), (44, 94)], [(43, 93)], [(43, 93)], [(43, 93), (46, 96), (47, 97)], [(43, 93), (48, 98)], [(43, 93)], [(43, 93)], [(43, 93)], [(43, 93), (52, 102)], [(43, 93), (45, 95), (49, 99), (50, 100), (51, 101), (53, 103)], [(39, 89), (43, 93), (54, 104)], [(39, 89), (55, 105)]] [[], [0], [1], [2], [2], [2, 3, 4], [2, 5], [2, 6], [7], [8], [8, 9], [8], [8], [8, 11, 12], [8, 13], [8], [8], [8], [8, 10, 14, 15, 16, 17], [8, 18], [8, 19], [20], [21], [21, 22], [21], [21], [21, 24, 25], [21, 26], [21], [21], [21], [21], [21, 30, 31], [21], [21, 33], [21, 34], [21, 32, 35], [21, 23, 27, 28, 29, 36], [21, 37], [38], [39], [39, 40], [39, 41], [39, 42], [43], [43, 44], [43], [43], [43, 46, 47], [43, 48], [43], [43], [43], [43, 52], [43, 45, 49, 50, 51, 53], [39, 43, 54], [39, 55]] [[], [0], [1], [2], [2], [2, 3, 4], [2, 5], [2, 6], [7], [8], [8, 9], [8], [8], [8, 11, 12], [8, 13], [8], [8], [8], [8, 10, 14, 15, 16, 17], [8, 18], [8, 19], [20], [21], [21, 22], [21], [21], [21, 24, 25], [21, 26], [21], [21], [21], [21], [21, 30, 31], [21], [21, 33], [21, 34], [21, 32, 35], [21, 23, 27, 28, 29, 36], [21, 37], [38], [39], [39, 40], [39, 41], [39, 42], [43], [43, 44], [43], [43], [43, 46, 47], [43, 48], [43], [43], [43], [43, 52], [43, 45, 49, 50, 51, 53], [39, 43, 54], [39, 55]] [(32, 30), (35, 34), (36, 32), (36, 35)] (by kernel_rfl) (by rfl) (by kernel_rfl) (fun _ => False) (fun _ _ => False) Rc.Inv.none ?_ ?_
                  · as_aux_lemma =>
                      intro fr ha
                      have hz : fr.tmps.size = 199 := by rw [ha]; rfl
                      have y1 : fr.eval (.tmp 1) = .slice (some ⟨b, off, none⟩) R.length c := by rw [ha]; rfl
                      have y2 : fr.eval (.tmp 2) = .int .i64 ((R.length : Nat) : Int) := by rw [ha]; rfl
                      have y3 : fr.eval (.tmp 3) = .int .i64 ((k : Nat) : Int) := by rw [ha]; rfl
                      have y4 : fr.eval (.tmp 4) = .slice PA P.length pc := by rw [ha]; rfl
                      have y5 : fr.eval (.tmp 5) = .int .i64 0 := by rw [ha]; rfl
                      have y6 : fr.eval (.tmp 6) = .slice QA P.length qc := by rw [ha]; rfl
                      clear ha
                      refine .cons ?_ (.cons ?_ (.cons ?_ (.cons ?_ (.cons ?_ (.cons ?_ (.cons ?_ (.cons ?_ (.cons ?_ (.cons ?_ (.cons ?_ (.cons ?_ (.cons ?_ (.cons ?_ (.cons ?_ (.cons ?_ (.cons ?_ (.cons ?_ (.cons ?_ (.cons ?_ (.cons ?_ (.cons ?_ (.cons ?_ (.cons ?_ (.cons ?_ (.cons ?_ (.cons ?_ (.cons ?_ (.cons ?_ (.cons ?_ (.cons ?_ (.cons ?_ (.cons ?_ (.cons ?_ (.cons ?_ (.cons ?_ (.cons ?_ (.cons ?_ (.cons ?_ (.cons ?_ (.cons ?_ (.cons ?_ (.cons ?_ (.cons ?_ (.cons ?_ (.cons ?_ (.cons ?_ (.cons ?_ (.cons ?_ (.cons ?_ (.cons ?_ (.cons ?_ (.cons ?_ (.cons ?_ (.cons ?_ (.cons ?_ (.cons ?_ (.nil)))))))))))))))))))))))))))))))))))))))))))))))))))))))))
                      · intro V S w2 HM HU HE
                        have lw : Below w6.heap.size w6 w2 := Rc.Mod.below HM (fun _ h => h.elim)
                        have tb5 : (Rg.putUse V [] fr).eval (.tmp 5) = .int .i64 0 := (Rg.use_eval V fr 5 [] (by simp only [hz]; decide)).trans y5
                        show Rg.Does1 _ _ V (Rg.putUse V [] fr) w2 _
                        exact Ob.rc_mv (.int .i64 0) (by simp only [execOp, tb5]; go_simp) rfl rfl True.intro
                      · intro V S w2 HM HU HE
                        have lw : Below w6.heap.size w6 w2 := Rc.Mod.below HM (fun _ h => h.elim)
                        have h0 : V 0 = .int .i64 0 := HU.holds 0 (by decide)
                        have tb50 : (Rg.putUse V [(0, 50)] fr).eval (.tmp 50) = .int .i64 0 := (Rg.use_eval V fr 50 [(0, 50)] (by simp only [hz]; decide)).trans h0
                        show Rg.Does1 _ _ V (Rg.putUse V [(0, 50)] fr) w2 _
                        exact Ob.rc_mv (.bool false) (by simp only [execOp, tb50]; go_simp) rfl rfl True.intro
                      · intro V S w2 HM HU HE
                        have lw : Below w6.heap.size w6 w2 := Rc.Mod.below HM (fun _ h => h.elim)
                        have h1 : V 1 = .bool false := HU.holds 1 (by decide)
                        have tb51 : (Rg.putUse V [(1, 51)] fr).eval (.tmp 51) = .bool false := (Rg.use_eval V fr 51 [(1, 51)] (by simp only [hz]; decide)).trans h1
                        show Rg.Does1 _ _ V (Rg.putUse V [(1, 51)] fr) w2 _
                        exact Ob.rc_mv (.bool false) (by simp only [execOp, tb51]; go_simp) rfl rfl True.intro
                      · intro V S w2 HM HU HE
                        have lw : Below w6.heap.size w6 w2 := Rc.Mod.below HM (fun _ h => h.elim)
                        have h2 : V 2 = .bool false := HU.holds 2 (by decide)
                        have tb4 : (Rg.putUse V [(2, 52)] fr).eval (.tmp 4) = .slice PA P.length pc := (Rg.use_eval V fr 4 [(2, 52)] (by simp only [hz]; decide)).trans y4
                        show Rg.Does1 _ _ V (Rg.putUse V [(2, 52)] fr) w2 _
                        exact Ob.rc_mv (.slice PA P.length pc) (by simp only [execOp, tb4]; go_simp) rfl rfl h2
                      · intro V S w2 HM HU HE
                        have lw : Below w6.heap.size w6 w2 := Rc.Mod.below HM (fun _ h => h.elim)
                        have h2 : V 2 = .bool false := HU.holds 2 (by decide)
                        have tb6 : (Rg.putUse V [(2, 52)] fr).eval (.tmp 6) = .slice QA P.length qc := (Rg.use_eval V fr 6 [(2, 52)] (by simp only [hz]; decide)).trans y6
                        show Rg.Does1 _ _ V (Rg.putUse V [(2, 52)] fr) w2 _
                        exact Ob.rc_mv (.slice QA P.length qc) (by simp only [execOp, tb6]; go_simp) rfl rfl h2
                      · intro V S w2 HM HU HE
                        have lw : Below w6.heap.size w6 w2 := Rc.Mod.below HM (fun _ h => h.elim)
                        have h2 : V 2 = .bool false := HU.holds 2 (by decide)
                        have h3 : V 3 = .slice PA P.length pc := HU.holds 3 (by decide)
                        have tb53 : (Rg.putUse V [(2, 52), (3, 53), (4, 54)] fr).eval (.tmp 53) = .slice PA P.length pc := (Rg.use_eval V fr 53 [(2, 52), (3, 53), (4, 54)] (by simp only [hz]; decide)).trans h3
                        have h4 : V 4 = .slice QA P.length qc := HU.holds 4 (by decide)
                        have tb54 : (Rg.putUse V [(2, 52), (3, 53), (4, 54)] fr).eval (.tmp 54) = .slice QA P.length qc := (Rg.use_eval V fr 54 [(2, 52), (3, 53), (4, 54)] (by simp only [hz]; decide)).trans h4
                        show Rg.Does1 _ _ V (Rg.putUse V [(2, 52), (3, 53), (4, 54)] fr) w2 _
                        exact Ob.step_tell (.bool true) #[.slice PA P.length pc, .slice QA P.length qc] (fun args w => Rg.call_enter Tryd.func13 (by kernel_rfl) (by kernel_rfl) args w) rfl (by simp only [List.map_toArray, List.map_cons, List.map_nil, tb53, tb54]) rfl (fun x => Rg.alias_none rfl V x) h2 (lists_same w2 P PA QA pc qc (HP6.out.below lw) (HQ6.out.below lw) (by omega))
                      · intro V S w2 HM HU HE
                        have lw : Below w6.heap.size w6 w2 := Rc.Mod.below HM (fun _ h => h.elim)
                        have h2 : V 2 = .bool false := HU.holds 2 (by decide)
                        have h5 : V 5 = .bool true := HU.holds 5 (by decide)
                        have tb55 : (Rg.putUse V [(2, 52), (5, 55)] fr).eval (.tmp 55) = .bool true := (Rg.use_eval V fr 55 [(2, 52), (5, 55)] (by simp only [hz]; decide)).trans h5
                        show Rg.Does1 _ _ V (Rg.putUse V [(2, 52), (5, 55)] fr) w2 _
                        exact Ob.rc_mv (.bool false) (by simp only [execOp, tb55]; go_simp) rfl rfl h2
                      · intro V S w2 HM HU HE
                        have lw : Below w6.heap.size w6 w2 := Rc.Mod.below HM (fun _ h => h.elim)
                        have h2 : V 2 = .bool false := HU.holds 2 (by decide)
                        have tb52 : (Rg.putUse V [(2, 52), (6, 56)] fr).eval (.tmp 52) = .bool false := (Rg.use_eval V fr 52 [(2, 52), (6, 56)] (by simp only [hz]; decide)).trans h2
                        have h6 : V 6 = .bool false := HU.holds 6 (by decide)
                        have tb56 : (Rg.putUse V [(2, 52), (6, 56)] fr).eval (.tmp 56) = .bool false := (Rg.use_eval V fr 56 [(2, 52), (6, 56)] (by simp only [hz]; decide)).trans h6
                        show Rg.Does1 _ _ V (Rg.putUse V [(2, 52), (6, 56)] fr) w2 _
                        exact Ob.rc_mv (.bool false) (by simp only [execOp, tb52, tb56]; go_simp) rfl rfl True.intro
                      · intro V S w2 HM HU HE
                        have lw : Below w6.heap.size w6 w2 := Rc.Mod.below HM (fun _ h => h.elim)
                        have h7 : V 7 = .bool false := HU.holds 7 (by decide)
                        have tb57 : (Rg.putUse V [(7, 57)] fr).eval (.tmp 57) = .bool false := (Rg.use_eval V fr 57 [(7, 57)] (by simp only [hz]; decide)).trans h7
                        show Rg.Does1 _ _ V (Rg.putUse V [(7, 57)] fr) w2 _
                        exact Ob.rc_mv (.bool false) (by simp only [execOp, tb57]; go_simp) rfl rfl True.intro
                      · intro V S w2 HM HU HE
                        have lw : Below w6.heap.size w6 w2 := Rc.Mod.below HM (fun _ h => h.elim)
                        have h8 : V 8 = .bool false := HU.holds 8 (by decide)
                        have tb1 : (Rg.putUse V [(8, 58)] fr).eval (.tmp 1) = .slice (some ⟨b, off, none⟩) R.length c := (Rg.use_eval V fr 1 [(8, 58)] (by simp only [hz]; decide)).trans y1
                        show Rg.Does1 _ _ V (Rg.putUse V [(8, 58)] fr) w2 _
                        exact Ob.rc_mv (.slice (some ⟨b, off, none⟩) R.length c) (by simp only [execOp, tb1]; go_simp) rfl rfl h8
                      · intro V S w2 HM HU HE
                        have lw : Below w6.heap.size w6 w2 := Rc.Mod.below HM (fun _ h => h.elim)
                        have h8 : V 8 = .bool false := HU.holds 8 (by decide)
                        have h9 : V 9 = .slice (some ⟨b, off, none⟩) R.length c := HU.holds 9 (by decide)
                        have tb59 : (Rg.putUse V [(8, 58), (9, 59)] fr).eval (.tmp 59) = .slice (some ⟨b, off, none⟩) R.length c := (Rg.use_eval V fr 59 [(8, 58), (9, 59)] (by simp only [hz]; decide)).trans h9
                        show Rg.Does1 _ _ V (Rg.putUse V [(8, 58), (9, 59)] fr) w2 _
                        exact step_hcall (Mk.root Sh.sum R) #[.slice (some ⟨b, off, none⟩) R.length c] (fun args w => Rg.call_enter Tryd.func10 (by kernel_rfl) (by kernel_rfl) args w) rfl (by simp only [List.map_toArray, List.map_cons, List.map_nil, tb59]) rfl (fun x => Rg.alias_none rfl V x) h8 (rRoot _ w2 R (some ⟨b, off, none⟩) c rfl (HR6.out.below lw) hc HS.out trivial)
                      · intro V S w2 HM HU HE
                        have lw : Below w6.heap.size w6 w2 := Rc.Mod.below HM (fun _ h => h.elim)
                        have h8 : V 8 = .bool false := HU.holds 8 (by decide)
                        have tb1 : (Rg.putUse V [(8, 58)] fr).eval (.tmp 1) = .slice (some ⟨b, off, none⟩) R.length c := (Rg.use_eval V fr 1 [(8, 58)] (by simp only [hz]; decide)).trans y1
                        show Rg.Does1 _ _ V (Rg.putUse V [(8, 58)] fr) w2 _
                        exact Ob.rc_mv (.slice (some ⟨b, off, none⟩) R.length c) (by simp only [execOp, tb1]; go_simp) rfl rfl h8
                      · intro V S w2 HM HU HE
                        have lw : Below w6.heap.size w6 w2 := Rc.Mod.below HM (fun _ h => h.elim)
                        have h8 : V 8 = .bool false := HU.holds 8 (by decide)
                        have tb3 : (Rg.putUse V [(8, 58)] fr).eval (.tmp 3) = .int .i64 ((k : Nat) : Int) := (Rg.use_eval V fr 3 [(8, 58)] (by simp only [hz]; decide)).trans y3
                        show Rg.Does1 _ _ V (Rg.putUse V [(8, 58)] fr) w2 _
                        exact Ob.rc_mv (.int .i64 ((k : Nat) : Int)) (by simp only [execOp, tb3]; go_simp) rfl rfl h8
                      · intro V S w2 HM HU HE
                        have lw : Below w6.heap.size w6 w2 := Rc.Mod.below HM (fun _ h => h.elim)
                        have h8 : V 8 = .bool false := HU.holds 8 (by decide)
                        have h11 : V 11 = .slice (some ⟨b, off, none⟩) R.length c := HU.holds 11 (by decide)
                        have tb61 : (Rg.putUse V [(8, 58), (11, 61), (12, 62)] fr).eval (.tmp 61) = .slice (some ⟨b, off, none⟩) R.length c := (Rg.use_eval V fr 61 [(8, 58), (11, 61), (12, 62)] (by simp only [hz]; decide)).trans h11
                        have h12 : V 12 = .int .i64 ((k : Nat) : Int) := HU.holds 12 (by decide)
                        have tb62 : (Rg.putUse V [(8, 58), (11, 61), (12, 62)] fr).eval (.tmp 62) = .int .i64 ((k : Nat) : Int) := (Rg.use_eval V fr 62 [(8, 58), (11, 61), (12, 62)] (by simp only [hz]; decide)).trans h12
                        show Rg.Does1 _ _ V (Rg.putUse V [(8, 58), (11, 61), (12, 62)] fr) w2 _
                        exact Ob.rc_mv (.pointer (some ⟨b, off + k, none⟩)) (by simp only [execOp, tb61, tb62]; go_simp; try (intro h; exfalso; omega)) rfl rfl h8
                      · intro V S w2 HM HU HE
                        have lw : Below w6.heap.size w6 w2 := Rc.Mod.below HM (fun _ h => h.elim)
                        have h8 : V 8 = .bool false := HU.holds 8 (by decide)
                        have h13 : V 13 = .pointer (some ⟨b, off + k, none⟩) := HU.holds 13 (by decide)
                        have tb63 : (Rg.putUse V [(8, 58), (13, 63)] fr).eval (.tmp 63) = .pointer (some ⟨b, off + k, none⟩) := (Rg.use_eval V fr 63 [(8, 58), (13, 63)] (by simp only [hz]; decide)).trans h13
                        show Rg.Does1 _ _ V (Rg.putUse V [(8, 58), (13, 63)] fr) w2 _
                        have cu := (lw.cell (p := ⟨b, off + k, none⟩) HBL.out).trans hcell
                        exact Ob.rc_mv (.slice YA y.length yc) (by simp only [execOp, tb63]; go_simp) rfl rfl h8
                      · intro V S w2 HM HU HE
                        have lw : Below w6.heap.size w6 w2 := Rc.Mod.below HM (fun _ h => h.elim)
                        have h8 : V 8 = .bool false := HU.holds 8 (by decide)
                        have tb3 : (Rg.putUse V [(8, 58)] fr).eval (.tmp 3) = .int .i64 ((k : Nat) : Int) := (Rg.use_eval V fr 3 [(8, 58)] (by simp only [hz]; decide)).trans y3
                        show Rg.Does1 _ _ V (Rg.putUse V [(8, 58)] fr) w2 _
                        exact Ob.rc_mv (.int .i64 ((k : Nat) : Int)) (by simp only [execOp, tb3]; go_simp) rfl rfl h8
                      · intro V S w2 HM HU HE
                        have lw : Below w6.heap.size w6 w2 := Rc.Mod.below HM (fun _ h => h.elim)
                        have h8 : V 8 = .bool false := HU.holds 8 (by decide)
                        have tb2 : (Rg.putUse V [(8, 58)] fr).eval (.tmp 2) = .int .i64 ((R.length : Nat) : Int) := (Rg.use_eval V fr 2 [(8, 58)] (by simp only [hz]; decide)).trans y2
                        show Rg.Does1 _ _ V (Rg.putUse V [(8, 58)] fr) w2 _
                        exact Ob.rc_mv (.int .i64 ((R.length : Nat) : Int)) (by simp only [execOp, tb2]; go_simp) rfl rfl h8
                      · intro V S w2 HM HU HE
                        have lw : Below w6.heap.size w6 w2 := Rc.Mod.below HM (fun _ h => h.elim)
                        have h8 : V 8 = .bool false := HU.holds 8 (by decide)
                        have tb6 : (Rg.putUse V [(8, 58)] fr).eval (.tmp 6) = .slice QA P.length qc := (Rg.use_eval V fr 6 [(8, 58)] (by simp only [hz]; decide)).trans y6
                        show Rg.Does1 _ _ V (Rg.putUse V [(8, 58)] fr) w2 _
                        exact Ob.rc_mv (.slice QA P.length qc) (by simp only [execOp, tb6]; go_simp) rfl rfl h8
                      · intro V S w2 HM HU HE
                        have lw : Below w6.heap.size w6 w2 := Rc.Mod.below HM (fun _ h => h.elim)
                        have h8 : V 8 = .bool false := HU.holds 8 (by decide)
                        obtain ⟨X10, k10, e10, hc10, hr10, hX10⟩ := HU.holds 10 (by decide)
                        have tb60 : (Rg.putUse V [(8, 58), (10, 60), (14, 64), (15, 65), (16, 66), (17, 67)] fr).eval (.tmp 60) = .slice X10 (Mk.root Sh.sum R).length k10 := (Rg.use_eval V fr 60 [(8, 58), (10, 60), (14, 64), (15, 65), (16, 66), (17, 67)] (by simp only [hz]; decide)).trans e10
                        have h14 : V 14 = .slice YA y.length yc := HU.holds 14 (by decide)
                        have tb64 : (Rg.putUse V [(8, 58), (10, 60), (14, 64), (15, 65), (16, 66), (17, 67)] fr).eval (.tmp 64) = .slice YA y.length yc := (Rg.use_eval V fr 64 [(8, 58), (10, 60), (14, 64), (15, 65), (16, 66), (17, 67)] (by simp only [hz]; decide)).trans h14
                        have h15 : V 15 = .int .i64 ((k : Nat) : Int) := HU.holds 15 (by decide)
                        have tb65 : (Rg.putUse V [(8, 58), (10, 60), (14, 64), (15, 65), (16, 66), (17, 67)] fr).eval (.tmp 65) = .int .i64 ((k : Nat) : Int) := (Rg.use_eval V fr 65 [(8, 58), (10, 60), (14, 64), (15, 65), (16, 66), (17, 67)] (by simp only [hz]; decide)).trans h15
                        have h16 : V 16 = .int .i64 ((R.length : Nat) : Int) := HU.holds 16 (by decide)
                        have tb66 : (Rg.putUse V [(8, 58), (10, 60), (14, 64), (15, 65), (16, 66), (17, 67)] fr).eval (.tmp 66) = .int .i64 ((R.length : Nat) : Int) := (Rg.use_eval V fr 66 [(8, 58), (10, 60), (14, 64), (15, 65), (16, 66), (17, 67)] (by simp only [hz]; decide)).trans h16
                        have h17 : V 17 = .slice QA P.length qc := HU.holds 17 (by decide)
                        have tb67 : (Rg.putUse V [(8, 58), (10, 60), (14, 64), (15, 65), (16, 66), (17, 67)] fr).eval (.tmp 67) = .slice QA P.length qc := (Rg.use_eval V fr 67 [(8, 58), (10, 60), (14, 64), (15, 65), (16, 66), (17, 67)] (by simp only [hz]; decide)).trans h17
                        show Rg.Does1 _ _ V (Rg.putUse V [(8, 58), (10, 60), (14, 64), (15, 65), (16, 66), (17, 67)] fr) w2 _
                        exact Ob.step_tell (.bool true) #[.slice X10 (Mk.root Sh.sum R).length k10, .slice YA y.length yc, .int .i64 ((k : Nat) : Int), .int .i64 ((R.length : Nat) : Int), .slice QA P.length qc] (fun args w => Rg.call_enter Tryd.func14 (by kernel_rfl) (by kernel_rfl) args w) rfl (by simp only [List.map_toArray, List.map_cons, List.map_nil, tb60, tb64, tb65, tb66, tb67]) rfl (fun x => Rg.alias_none rfl V x) h8 ((pCheck w2 (Mk.root Sh.sum R) y X10 YA k10 yc k R.length (P) (QA) (qc) (by omega) (by omega) hr10 (HY.out.below lw) hyc (by omega) (HQ6.out.below lw) (hqc) (⟨by omega, fun z hz => by rw [HP32.out z hz]; omega⟩) (by omega) (HK6.out.later lw)).mono fun e w' h => ⟨by rw [h.1, HCK.out], h.2⟩)
                      · intro V S w2 HM HU HE
                        have lw : Below w6.heap.size w6 w2 := Rc.Mod.below HM (fun _ h => h.elim)
                        have h8 : V 8 = .bool false := HU.holds 8 (by decide)
                        have h18 : V 18 = .bool true := HU.holds 18 (by decide)
                        have tb68 : (Rg.putUse V [(8, 58), (18, 68)] fr).eval (.tmp 68) = .bool true := (Rg.use_eval V fr 68 [(8, 58), (18, 68)] (by simp only [hz]; decide)).trans h18
                        show Rg.Does1 _ _ V (Rg.putUse V [(8, 58), (18, 68)] fr) w2 _
                        exact Ob.rc_mv (.bool false) (by simp only [execOp, tb68]; go_simp) rfl rfl h8
                      · intro V S w2 HM HU HE
                        have lw : Below w6.heap.size w6 w2 := Rc.Mod.below HM (fun _ h => h.elim)
                        have h8 : V 8 = .bool false := HU.holds 8 (by decide)
                        have tb58 : (Rg.putUse V [(8, 58), (19, 69)] fr).eval (.tmp 58) = .bool false := (Rg.use_eval V fr 58 [(8, 58), (19, 69)] (by simp only [hz]; decide)).trans h8
                        have h19 : V 19 = .bool false := HU.holds 19 (by decide)
                        have tb69 : (Rg.putUse V [(8, 58), (19, 69)] fr).eval (.tmp 69) = .bool false := (Rg.use_eval V fr 69 [(8, 58), (19, 69)] (by simp only [hz]; decide)).trans h19
                        show Rg.Does1 _ _ V (Rg.putUse V [(8, 58), (19, 69)] fr) w2 _
                        exact Ob.rc_mv (.bool false) (by simp only [execOp, tb58, tb69]; go_simp) rfl rfl True.intro
                      · intro V S w2 HM HU HE
                        have lw : Below w6.heap.size w6 w2 := Rc.Mod.below HM (fun _ h => h.elim)
                        have h20 : V 20 = .bool false := HU.holds 20 (by decide)
                        have tb70 : (Rg.putUse V [(20, 70)] fr).eval (.tmp 70) = .bool false := (Rg.use_eval V fr 70 [(20, 70)] (by simp only [hz]; decide)).trans h20
                        show Rg.Does1 _ _ V (Rg.putUse V [(20, 70)] fr) w2 _
                        exact Ob.rc_mv (.bool false) (by simp only [execOp, tb70]; go_simp) rfl rfl True.intro
                      · intro V S w2 HM HU HE
                        have lw : Below w6.heap.size w6 w2 := Rc.Mod.below HM (fun _ h => h.elim)
                        have h21 : V 21 = .bool false := HU.holds 21 (by decide)
                        have tb1 : (Rg.putUse V [(21, 71)] fr).eval (.tmp 1) = .slice (some ⟨b, off, none⟩) R.length c := (Rg.use_eval V fr 1 [(21, 71)] (by simp only [hz]; decide)).trans y1
                        show Rg.Does1 _ _ V (Rg.putUse V [(21, 71)] fr) w2 _
                        exact Ob.rc_mv (.slice (some ⟨b, off, none⟩) R.length c) (by simp only [execOp, tb1]; go_simp) rfl rfl h21
                      · intro V S w2 HM HU HE
                        have lw : Below w6.heap.size w6 w2 := Rc.Mod.below HM (fun _ h => h.elim)
                        have h21 : V 21 = .bool false := HU.holds 21 (by decide)
                        have h22 : V 22 = .slice (some ⟨b, off, none⟩) R.length c := HU.holds 22 (by decide)
                        have tb72 : (Rg.putUse V [(21, 71), (22, 72)] fr).eval (.tmp 72) = .slice (some ⟨b, off, none⟩) R.length c := (Rg.use_eval V fr 72 [(21, 71), (22, 72)] (by simp only [hz]; decide)).trans h22
                        show Rg.Does1 _ _ V (Rg.putUse V [(21, 71), (22, 72)] fr) w2 _
                        exact step_hcall (Mk.root Sh.sum R) #[.slice (some ⟨b, off, none⟩) R.length c] (fun args w => Rg.call_enter Tryd.func10 (by kernel_rfl) (by kernel_rfl) args w) rfl (by simp only [List.map_toArray, List.map_cons, List.map_nil, tb72]) rfl (fun x => Rg.alias_none rfl V x) h21 (rRoot _ w2 R (some ⟨b, off, none⟩) c rfl (HR6.out.below lw) hc HS.out trivial)
                      · intro V S w2 HM HU HE
                        have lw : Below w6.heap.size w6 w2 := Rc.Mod.below HM (fun _ h => h.elim)
                        have h21 : V 21 = .bool false := HU.holds 21 (by decide)
                        have tb1 : (Rg.putUse V [(21, 71)] fr).eval (.tmp 1) = .slice (some ⟨b, off, none⟩) R.length c := (Rg.use_eval V fr 1 [(21, 71)] (by simp only [hz]; decide)).trans y1
                        show Rg.Does1 _ _ V (Rg.putUse V [(21, 71)] fr) w2 _
                        exact Ob.rc_mv (.slice (some ⟨b, off, none⟩) R.length c) (by simp only [execOp, tb1]; go_simp) rfl rfl h21
                      · intro V S w2 HM HU HE
                        have lw : Below w6.heap.size w6 w2 := Rc.Mod.below HM (fun _ h => h.elim)
                        have h21 : V 21 = .bool false := HU.holds 21 (by decide)
                        have tb3 : (Rg.putUse V [(21, 71)] fr).eval (.tmp 3) = .int .i64 ((k : Nat) : Int) := (Rg.use_eval V fr 3 [(21, 71)] (by simp only [hz]; decide)).trans y3
                        show Rg.Does1 _ _ V (Rg.putUse V [(21, 71)] fr) w2 _
                        exact Ob.rc_mv (.int .i64 ((k : Nat) : Int)) (by simp only [execOp, tb3]; go_simp) rfl rfl h21
                      · intro V S w2 HM HU HE
                        have lw : Below w6.heap.size w6 w2 := Rc.Mod.below HM (fun _ h => h.elim)
                        have h21 : V 21 = .bool false := HU.holds 21 (by decide)
                        have h24 : V 24 = .slice (some ⟨b, off, none⟩) R.length c := HU.holds 24 (by decide)
                        have tb74 : (Rg.putUse V [(21, 71), (24, 74), (25, 75)] fr).eval (.tmp 74) = .slice (some ⟨b, off, none⟩) R.length c := (Rg.use_eval V fr 74 [(21, 71), (24, 74), (25, 75)] (by simp only [hz]; decide)).trans h24
                        have h25 : V 25 = .int .i64 ((k : Nat) : Int) := HU.holds 25 (by decide)
                        have tb75 : (Rg.putUse V [(21, 71), (24, 74), (25, 75)] fr).eval (.tmp 75) = .int .i64 ((k : Nat) : Int) := (Rg.use_eval V fr 75 [(21, 71), (24, 74), (25, 75)] (by simp only [hz]; decide)).trans h25
                        show Rg.Does1 _ _ V (Rg.putUse V [(21, 71), (24, 74), (25, 75)] fr) w2 _
                        exact Ob.rc_mv (.pointer (some ⟨b, off + k, none⟩)) (by simp only [execOp, tb74, tb75]; go_simp; try (intro h; exfalso; omega)) rfl rfl h21
                      · intro V S w2 HM HU HE
                        have lw : Below w6.heap.size w6 w2 := Rc.Mod.below HM (fun _ h => h.elim)
                        have h21 : V 21 = .bool false := HU.holds 21 (by decide)
                        have h26 : V 26 = .pointer (some ⟨b, off + k, none⟩) := HU.holds 26 (by decide)
                        have tb76 : (Rg.putUse V [(21, 71), (26, 76)] fr).eval (.tmp 76) = .pointer (some ⟨b, off + k, none⟩) := (Rg.use_eval V fr 76 [(21, 71), (26, 76)] (by simp only [hz]; decide)).trans h26
                        show Rg.Does1 _ _ V (Rg.putUse V [(21, 71), (26, 76)] fr) w2 _
                        have cu := (lw.cell (p := ⟨b, off + k, none⟩) HBL.out).trans hcell
                        exact Ob.rc_mv (.slice YA y.length yc) (by simp only [execOp, tb76]; go_simp) rfl rfl h21
                      · intro V S w2 HM HU HE
                        have lw : Below w6.heap.size w6 w2 := Rc.Mod.below HM (fun _ h => h.elim)
                        have h21 : V 21 = .bool false := HU.holds 21 (by decide)
                        have tb3 : (Rg.putUse V [(21, 71)] fr).eval (.tmp 3) = .int .i64 ((k : Nat) : Int) := (Rg.use_eval V fr 3 [(21, 71)] (by simp only [hz]; decide)).trans y3
                        show Rg.Does1 _ _ V (Rg.putUse V [(21, 71)] fr) w2 _
                        exact Ob.rc_mv (.int .i64 ((k : Nat) : Int)) (by simp only [execOp, tb3]; go_simp) rfl rfl h21
                      · intro V S w2 HM HU HE
                        have lw : Below w6.heap.size w6 w2 := Rc.Mod.below HM (fun _ h => h.elim)
                        have h21 : V 21 = .bool false := HU.holds 21 (by decide)
                        have tb2 : (Rg.putUse V [(21, 71)] fr).eval (.tmp 2) = .int .i64 ((R.length : Nat) : Int) := (Rg.use_eval V fr 2 [(21, 71)] (by simp only [hz]; decide)).trans y2
                        show Rg.Does1 _ _ V (Rg.putUse V [(21, 71)] fr) w2 _
                        exact Ob.rc_mv (.int .i64 ((R.length : Nat) : Int)) (by simp only [execOp, tb2]; go_simp) rfl rfl h21
                      · intro V S w2 HM HU HE
                        have lw : Below w6.heap.size w6 w2 := Rc.Mod.below HM (fun _ h => h.elim)
                        have h21 : V 21 = .bool false := HU.holds 21 (by decide)
                        show Rg.Does1 _ _ V (Rg.putUse V [(21, 71)] fr) w2 _
                        exact step_onil rfl rfl (fun x => Rg.alias_none rfl V x) h21
                      · intro V S w2 HM HU HE
                        have lw : Below w6.heap.size w6 w2 := Rc.Mod.below HM (fun _ h => h.elim)
                        have h21 : V 21 = .bool false := HU.holds 21 (by decide)
                        have tb6 : (Rg.putUse V [(21, 71)] fr).eval (.tmp 6) = .slice QA P.length qc := (Rg.use_eval V fr 6 [(21, 71)] (by simp only [hz]; decide)).trans y6
                        show Rg.Does1 _ _ V (Rg.putUse V [(21, 71)] fr) w2 _
                        exact Ob.rc_mv (.slice QA P.length qc) (by simp only [execOp, tb6]; go_simp) rfl rfl h21
                      · intro V S w2 HM HU HE
                        have lw : Below w6.heap.size w6 w2 := Rc.Mod.below HM (fun _ h => h.elim)
                        have h21 : V 21 = .bool false := HU.holds 21 (by decide)
                        have tb80 : (Rg.putUse V [(21, 71), (30, 80), (31, 81)] fr).eval (.tmp 80) = V 30 := (Rg.use_eval V fr 80 [(21, 71), (30, 80), (31, 81)] (by simp only [hz]; decide)).trans rfl
                        have h31 : V 31 = .slice QA P.length qc := HU.holds 31 (by decide)
                        have tb81 : (Rg.putUse V [(21, 71), (30, 80), (31, 81)] fr).eval (.tmp 81) = .slice QA P.length qc := (Rg.use_eval V fr 81 [(21, 71), (30, 80), (31, 81)] (by simp only [hz]; decide)).trans h31
                        show Rg.Does1 _ _ V (Rg.putUse V [(21, 71), (30, 80), (31, 81)] fr) w2 _
                        exact step_ocopy (i := 30) (P) rfl tb80 tb81 rfl (by decide) (HU.holds 30 (by decide)) HQN.out (fun _ h => h.2) lw (HU.lt 30 (by decide)) (by omega) (fun x => Rg.alias_none rfl V x) h21
                      · intro V S w2 HM HU HE
                        have lw : Below w6.heap.size w6 w2 := Rc.Mod.below HM (fun _ h => h.elim)
                        have h21 : V 21 = .bool false := HU.holds 21 (by decide)
                        have tb1 : (Rg.putUse V [(21, 71)] fr).eval (.tmp 1) = .slice (some ⟨b, off, none⟩) R.length c := (Rg.use_eval V fr 1 [(21, 71)] (by simp only [hz]; decide)).trans y1
                        show Rg.Does1 _ _ V (Rg.putUse V [(21, 71)] fr) w2 _
                        exact Ob.rc_mv (.slice (some ⟨b, off, none⟩) R.length c) (by simp only [execOp, tb1]; go_simp) rfl rfl h21
                      · intro V S w2 HM HU HE
                        have lw : Below w6.heap.size w6 w2 := Rc.Mod.below HM (fun _ h => h.elim)
                        have h21 : V 21 = .bool false := HU.holds 21 (by decide)
                        have h33 : V 33 = .slice (some ⟨b, off, none⟩) R.length c := HU.holds 33 (by decide)
                        have tb83 : (Rg.putUse V [(21, 71), (33, 83)] fr).eval (.tmp 83) = .slice (some ⟨b, off, none⟩) R.length c := (Rg.use_eval V fr 83 [(21, 71), (33, 83)] (by simp only [hz]; decide)).trans h33
                        show Rg.Does1 _ _ V (Rg.putUse V [(21, 71), (33, 83)] fr) w2 _
                        exact step_hcall (Mk.root Sh.sum R) #[.slice (some ⟨b, off, none⟩) R.length c] (fun args w => Rg.call_enter Tryd.func10 (by kernel_rfl) (by kernel_rfl) args w) rfl (by simp only [List.map_toArray, List.map_cons, List.map_nil, tb83]) rfl (fun x => Rg.alias_none rfl V x) h21 (rRoot _ w2 R (some ⟨b, off, none⟩) c rfl (HR6.out.below lw) hc HS.out trivial)
                      · intro V S w2 HM HU HE
                        have lw : Below w6.heap.size w6 w2 := Rc.Mod.below HM (fun _ h => h.elim)
                        have h21 : V 21 = .bool false := HU.holds 21 (by decide)
                        obtain ⟨X34, k34, e34, hc34, hr34, hX34⟩ := HU.holds 34 (by decide)
                        have tb84 : (Rg.putUse V [(21, 71), (34, 84)] fr).eval (.tmp 84) = .slice X34 (Mk.root Sh.sum R).length k34 := (Rg.use_eval V fr 84 [(21, 71), (34, 84)] (by simp only [hz]; decide)).trans e34
                        show Rg.Does1 _ _ V (Rg.putUse V [(21, 71), (34, 84)] fr) w2 _
                        exact step_lone (i := 34) (Mk.root Sh.sum R) rfl tb84 rfl (by decide) hc34 hr34 hX34 (HU.lt 34 (by decide)) (fun x => Rg.alias_none rfl V x) h21
                      · intro V S w2 HM HU HE
                        have lw : Below w6.heap.size w6 w2 := Rc.Mod.below HM (fun _ h => h.elim)
                        have h21 : V 21 = .bool false := HU.holds 21 (by decide)
                        have tb82 : (Rg.putUse V [(21, 71), (32, 82), (35, 85)] fr).eval (.tmp 82) = V 32 := (Rg.use_eval V fr 82 [(21, 71), (32, 82), (35, 85)] (by simp only [hz]; decide)).trans rfl
                        have tb85 : (Rg.putUse V [(21, 71), (32, 82), (35, 85)] fr).eval (.tmp 85) = V 35 := (Rg.use_eval V fr 85 [(21, 71), (32, 82), (35, 85)] (by simp only [hz]; decide)).trans rfl
                        show Rg.Does1 _ _ V (Rg.putUse V [(21, 71), (32, 82), (35, 85)] fr) w2 _
                        exact step_oapp (i := 32) (k := 35) (P) ([Mk.root Sh.sum R]) (P ++ [Mk.root Sh.sum R]) rfl rfl tb82 tb85 rfl (by decide) (by decide) (HU.holds 32 (by decide)) (HU.holds 35 (by decide)) (HU.sep 32 (by decide) 35 (by decide) (by decide)) (HU.lt 32 (by decide)) (HU.lt 35 (by decide)) (Nat.zero_lt_succ _) (by simp only [List.length_cons, List.length_nil]; omega) (fun x => Rg.alias_none rfl V x) h21
                      · intro V S w2 HM HU HE
                        have lw : Below w6.heap.size w6 w2 := Rc.Mod.below HM (fun _ h => h.elim)
                        have h21 : V 21 = .bool false := HU.holds 21 (by decide)
                        obtain ⟨X23, k23, e23, hc23, hr23, hX23⟩ := HU.holds 23 (by decide)
                        have tb73 : (Rg.putUse V [(21, 71), (23, 73), (27, 77), (28, 78), (29, 79), (36, 86)] fr).eval (.tmp 73) = .slice X23 (Mk.root Sh.sum R).length k23 := (Rg.use_eval V fr 73 [(21, 71), (23, 73), (27, 77), (28, 78), (29, 79), (36, 86)] (by simp only [hz]; decide)).trans e23
                        have h27 : V 27 = .slice YA y.length yc := HU.holds 27 (by decide)
                        have tb77 : (Rg.putUse V [(21, 71), (23, 73), (27, 77), (28, 78), (29, 79), (36, 86)] fr).eval (.tmp 77) = .slice YA y.length yc := (Rg.use_eval V fr 77 [(21, 71), (23, 73), (27, 77), (28, 78), (29, 79), (36, 86)] (by simp only [hz]; decide)).trans h27
                        have h28 : V 28 = .int .i64 ((k : Nat) : Int) := HU.holds 28 (by decide)
                        have tb78 : (Rg.putUse V [(21, 71), (23, 73), (27, 77), (28, 78), (29, 79), (36, 86)] fr).eval (.tmp 78) = .int .i64 ((k : Nat) : Int) := (Rg.use_eval V fr 78 [(21, 71), (23, 73), (27, 77), (28, 78), (29, 79), (36, 86)] (by simp only [hz]; decide)).trans h28
                        have h29 : V 29 = .int .i64 ((R.length : Nat) : Int) := HU.holds 29 (by decide)
                        have tb79 : (Rg.putUse V [(21, 71), (23, 73), (27, 77), (28, 78), (29, 79), (36, 86)] fr).eval (.tmp 79) = .int .i64 ((R.length : Nat) : Int) := (Rg.use_eval V fr 79 [(21, 71), (23, 73), (27, 77), (28, 78), (29, 79), (36, 86)] (by simp only [hz]; decide)).trans h29
                        have tb86 : (Rg.putUse V [(21, 71), (23, 73), (27, 77), (28, 78), (29, 79), (36, 86)] fr).eval (.tmp 86) = V 36 := (Rg.use_eval V fr 86 [(21, 71), (23, 73), (27, 77), (28, 78), (29, 79), (36, 86)] (by simp only [hz]; decide)).trans rfl
                        show Rg.Does1 _ _ V (Rg.putUse V [(21, 71), (23, 73), (27, 77), (28, 78), (29, 79), (36, 86)] fr) w2 _
                        exact Ob.step_tell (.bool false) #[.slice X23 (Mk.root Sh.sum R).length k23, .slice YA y.length yc, .int .i64 ((k : Nat) : Int), .int .i64 ((R.length : Nat) : Int), V 36] (fun args w => Rg.call_enter Tryd.func14 (by kernel_rfl) (by kernel_rfl) args w) rfl (by simp only [List.map_toArray, List.map_cons, List.map_nil, tb73, tb77, tb78, tb79, tb86]) rfl (fun x => Rg.alias_none rfl V x) h21 (by obtain ⟨A9, c9, e9, h9, r9⟩ := orow.form (HU.holds 36 (by decide)) lw; rw [e9]; exact (pCheck w2 (Mk.root Sh.sum R) y X23 YA k23 yc k R.length (P ++ [Mk.root Sh.sum R]) (A9) (c9) (by omega) (by omega) hr23 (HY.out.below lw) hyc (by omega) (r9) (h9) (⟨by rw [List.length_append]; simp only [List.length_cons, List.length_nil]; omega, fun z hz => by rcases List.mem_append.1 hz with h | h; rw [HP32.out z h]; omega; rw [List.mem_singleton.1 h, root_length]; omega⟩) (by rw [List.length_append]; simp only [List.length_cons, List.length_nil]; omega) (HK6.out.later lw)).mono fun e w' h => ⟨by rw [h.1, HLN.out _ (by rw [List.length_append]; simp)], h.2⟩)
                      · intro V S w2 HM HU HE
                        have lw : Below w6.heap.size w6 w2 := Rc.Mod.below HM (fun _ h => h.elim)
                        have h21 : V 21 = .bool false := HU.holds 21 (by decide)
                        have tb71 : (Rg.putUse V [(21, 71), (37, 87)] fr).eval (.tmp 71) = .bool false := (Rg.use_eval V fr 71 [(21, 71), (37, 87)] (by simp only [hz]; decide)).trans h21
                        have h37 : V 37 = .bool false := HU.holds 37 (by decide)
                        have tb87 : (Rg.putUse V [(21, 71), (37, 87)] fr).eval (.tmp 87) = .bool false := (Rg.use_eval V fr 87 [(21, 71), (37, 87)] (by simp only [hz]; decide)).trans h37
                        show Rg.Does1 _ _ V (Rg.putUse V [(21, 71), (37, 87)] fr) w2 _
                        exact Ob.rc_mv (.bool false) (by simp only [execOp, tb71, tb87]; go_simp) rfl rfl True.intro
                      · intro V S w2 HM HU HE
                        have lw : Below w6.heap.size w6 w2 := Rc.Mod.below HM (fun _ h => h.elim)
                        have h38 : V 38 = .bool false := HU.holds 38 (by decide)
                        have tb88 : (Rg.putUse V [(38, 88)] fr).eval (.tmp 88) = .bool false := (Rg.use_eval V fr 88 [(38, 88)] (by simp only [hz]; decide)).trans h38
                        show Rg.Does1 _ _ V (Rg.putUse V [(38, 88)] fr) w2 _
                        exact Ob.rc_mv (.bool false) (by simp only [execOp, tb88]; go_simp) rfl rfl True.intro
                      · intro V S w2 HM HU HE
                        have lw : Below w6.heap.size w6 w2 := Rc.Mod.below HM (fun _ h => h.elim)
                        have h39 : V 39 = .bool false := HU.holds 39 (by decide)
                        have tb6 : (Rg.putUse V [(39, 89)] fr).eval (.tmp 6) = .slice QA P.length qc := (Rg.use_eval V fr 6 [(39, 89)] (by simp only [hz]; decide)).trans y6
                        show Rg.Does1 _ _ V (Rg.putUse V [(39, 89)] fr) w2 _
                        exact Ob.rc_mv (.slice QA P.length qc) (by simp only [execOp, tb6]; go_simp) rfl rfl h39
                      · intro V S w2 HM HU HE
                        have lw : Below w6.heap.size w6 w2 := Rc.Mod.below HM (fun _ h => h.elim)
                        have h39 : V 39 = .bool false := HU.holds 39 (by decide)
                        have h40 : V 40 = .slice QA P.length qc := HU.holds 40 (by decide)
                        have tb90 : (Rg.putUse V [(39, 89), (40, 90)] fr).eval (.tmp 90) = .slice QA P.length qc := (Rg.use_eval V fr 90 [(39, 89), (40, 90)] (by simp only [hz]; decide)).trans h40
                        show Rg.Does1 _ _ V (Rg.putUse V [(39, 89), (40, 90)] fr) w2 _
                        exact Ob.rc_mv (.int .i64 ((P.length : Nat) : Int)) (by simp only [execOp, resolve, List.map_toArray, List.map_cons, List.map_nil, tb90]; go_simp) rfl rfl h39
                      · intro V S w2 HM HU HE
                        have lw : Below w6.heap.size w6 w2 := Rc.Mod.below HM (fun _ h => h.elim)
                        have h39 : V 39 = .bool false := HU.holds 39 (by decide)
                        have h41 : V 41 = .int .i64 ((P.length : Nat) : Int) := HU.holds 41 (by decide)
                        have tb91 : (Rg.putUse V [(39, 89), (41, 91)] fr).eval (.tmp 91) = .int .i64 ((P.length : Nat) : Int) := (Rg.use_eval V fr 91 [(39, 89), (41, 91)] (by simp only [hz]; decide)).trans h41
                        show Rg.Does1 _ _ V (Rg.putUse V [(39, 89), (41, 91)] fr) w2 _
                        exact Ob.rc_mv (.bool false) (by simp only [execOp, tb91]; go_simp; first | omega | exact List.eq_nil_of_length_eq_zero (by omega)) rfl rfl h39
                      · intro V S w2 HM HU HE
                        have lw : Below w6.heap.size w6 w2 := Rc.Mod.below HM (fun _ h => h.elim)
                        have h39 : V 39 = .bool false := HU.holds 39 (by decide)
                        have h42 : V 42 = .bool false := HU.holds 42 (by decide)
                        have tb92 : (Rg.putUse V [(39, 89), (42, 92)] fr).eval (.tmp 92) = .bool false := (Rg.use_eval V fr 92 [(39, 89), (42, 92)] (by simp only [hz]; decide)).trans h42
                        show Rg.Does1 _ _ V (Rg.putUse V [(39, 89), (42, 92)] fr) w2 _
                        exact Ob.rc_mv (.bool false) (by simp only [execOp, tb92]; go_simp) rfl rfl h39
                      · intro V S w2 HM HU HE
                        have lw : Below w6.heap.size w6 w2 := Rc.Mod.below HM (fun _ h => h.elim)
                        have h43 : V 43 = .bool false := HU.holds 43 (by decide)
                        exact Rc.step_not rfl h43 (Rg.alias_none rfl V _) rfl
                      · intro V S w2 HM HU HE
                        have lw : Below w6.heap.size w6 w2 := Rc.Mod.below HM (fun _ h => h.elim)
                        have h43 : V 43 = .bool false := HU.holds 43 (by decide)
                        have h44 : V 44 = undef := HU.holds 44 (by decide)
                        have tb94 : (Rg.putUse V [(43, 93), (44, 94)] fr).eval (.tmp 94) = undef := (Rg.use_eval V fr 94 [(43, 93), (44, 94)] (by simp only [hz]; decide)).trans h44
                        exact Rc.step_not rfl h43 (Rg.alias_none rfl V _) rfl
                      · intro V S w2 HM HU HE
                        have lw : Below w6.heap.size w6 w2 := Rc.Mod.below HM (fun _ h => h.elim)
                        have h43 : V 43 = .bool false := HU.holds 43 (by decide)
                        exact Rc.step_not rfl h43 (Rg.alias_none rfl V _) rfl
                      · intro V S w2 HM HU HE
                        have lw : Below w6.heap.size w6 w2 := Rc.Mod.below HM (fun _ h => h.elim)
                        have h43 : V 43 = .bool false := HU.holds 43 (by decide)
                        exact Rc.step_not rfl h43 (Rg.alias_none rfl V _) rfl
                      · intro V S w2 HM HU HE
                        have lw : Below w6.heap.size w6 w2 := Rc.Mod.below HM (fun _ h => h.elim)
                        have h43 : V 43 = .bool false := HU.holds 43 (by decide)
                        have h46 : V 46 = undef := HU.holds 46 (by decide)
                        have tb96 : (Rg.putUse V [(43, 93), (46, 96), (47, 97)] fr).eval (.tmp 96) = undef := (Rg.use_eval V fr 96 [(43, 93), (46, 96), (47, 97)] (by simp only [hz]; decide)).trans h46
                        have h47 : V 47 = undef := HU.holds 47 (by decide)
                        have tb97 : (Rg.putUse V [(43, 93), (46, 96), (47, 97)] fr).eval (.tmp 97) = undef := (Rg.use_eval V fr 97 [(43, 93), (46, 96), (47, 97)] (by simp only [hz]; decide)).trans h47
                        exact Rc.step_not rfl h43 (Rg.alias_none rfl V _) rfl
                      · intro V S w2 HM HU HE
                        have lw : Below w6.heap.size w6 w2 := Rc.Mod.below HM (fun _ h => h.elim)
                        have h43 : V 43 = .bool false := HU.holds 43 (by decide)
                        have h48 : V 48 = undef := HU.holds 48 (by decide)
                        have tb98 : (Rg.putUse V [(43, 93), (48, 98)] fr).eval (.tmp 98) = undef := (Rg.use_eval V fr 98 [(43, 93), (48, 98)] (by simp only [hz]; decide)).trans h48
                        exact Rc.step_not rfl h43 (Rg.alias_none rfl V _) rfl
                      · intro V S w2 HM HU HE
                        have lw : Below w6.heap.size w6 w2 := Rc.Mod.below HM (fun _ h => h.elim)
                        have h43 : V 43 = .bool false := HU.holds 43 (by decide)
                        exact Rc.step_not rfl h43 (Rg.alias_none rfl V _) rfl
                      · intro V S w2 HM HU HE
                        have lw : Below w6.heap.size w6 w2 := Rc.Mod.below HM (fun _ h => h.elim)
                        have h43 : V 43 = .bool false := HU.holds 43 (by decide)
                        exact Rc.step_not rfl h43 (Rg.alias_none rfl V _) rfl
                      · intro V S w2 HM HU HE
                        have lw : Below w6.heap.size w6 w2 := Rc.Mod.below HM (fun _ h => h.elim)
                        have h43 : V 43 = .bool false := HU.holds 43 (by decide)
                        exact Rc.step_not rfl h43 (Rg.alias_none rfl V _) rfl
                      · intro V S w2 HM HU HE
                        have lw : Below w6.heap.size w6 w2 := Rc.Mod.below HM (fun _ h => h.elim)
                        have h43 : V 43 = .bool false := HU.holds 43 (by decide)
                        have h52 : V 52 = undef := HU.holds 52 (by decide)
                        have tb102 : (Rg.putUse V [(43, 93), (52, 102)] fr).eval (.tmp 102) = undef := (Rg.use_eval V fr 102 [(43, 93), (52, 102)] (by simp only [hz]; decide)).trans h52
                        exact Rc.step_not rfl h43 (Rg.alias_none rfl V _) rfl
                      · intro V S w2 HM HU HE
                        have lw : Below w6.heap.size w6 w2 := Rc.Mod.below HM (fun _ h => h.elim)
                        have h43 : V 43 = .bool false := HU.holds 43 (by decide)
                        have h45 : V 45 = undef := HU.holds 45 (by decide)
                        have tb95 : (Rg.putUse V [(43, 93), (45, 95), (49, 99), (50, 100), (51, 101), (53, 103)] fr).eval (.tmp 95) = undef := (Rg.use_eval V fr 95 [(43, 93), (45, 95), (49, 99), (50, 100), (51, 101), (53, 103)] (by simp only [hz]; decide)).trans h45
                        have h49 : V 49 = undef := HU.holds 49 (by decide)
                        have tb99 : (Rg.putUse V [(43, 93), (45, 95), (49, 99), (50, 100), (51, 101), (53, 103)] fr).eval (.tmp 99) = undef := (Rg.use_eval V fr 99 [(43, 93), (45, 95), (49, 99), (50, 100), (51, 101), (53, 103)] (by simp only [hz]; decide)).trans h49
                        have h50 : V 50 = undef := HU.holds 50 (by decide)
                        have tb100 : (Rg.putUse V [(43, 93), (45, 95), (49, 99), (50, 100), (51, 101), (53, 103)] fr).eval (.tmp 100) = undef := (Rg.use_eval V fr 100 [(43, 93), (45, 95), (49, 99), (50, 100), (51, 101), (53, 103)] (by simp only [hz]; decide)).trans h50
                        have h51 : V 51 = undef := HU.holds 51 (by decide)
                        have tb101 : (Rg.putUse V [(43, 93), (45, 95), (49, 99), (50, 100), (51, 101), (53, 103)] fr).eval (.tmp 101) = undef := (Rg.use_eval V fr 101 [(43, 93), (45, 95), (49, 99), (50, 100), (51, 101), (53, 103)] (by simp only [hz]; decide)).trans h51
                        have h53 : V 53 = undef := HU.holds 53 (by decide)
                        have tb103 : (Rg.putUse V [(43, 93), (45, 95), (49, 99), (50, 100), (51, 101), (53, 103)] fr).eval (.tmp 103) = undef := (Rg.use_eval V fr 103 [(43, 93), (45, 95), (49, 99), (50, 100), (51, 101), (53, 103)] (by simp only [hz]; decide)).trans h53
                        exact Rc.step_not rfl h43 (Rg.alias_none rfl V _) rfl
                      · intro V S w2 HM HU HE
                        have lw : Below w6.heap.size w6 w2 := Rc.Mod.below HM (fun _ h => h.elim)
                        have h39 : V 39 = .bool false := HU.holds 39 (by decide)
                        have h43 : V 43 = .bool false := HU.holds 43 (by decide)
                        have tb93 : (Rg.putUse V [(39, 89), (43, 93), (54, 104)] fr).eval (.tmp 93) = .bool false := (Rg.use_eval V fr 93 [(39, 89), (43, 93), (54, 104)] (by simp only [hz]; decide)).trans h43
                        have h54 : V 54 = undef := HU.holds 54 (by decide)
                        have tb104 : (Rg.putUse V [(39, 89), (43, 93), (54, 104)] fr).eval (.tmp 104) = undef := (Rg.use_eval V fr 104 [(39, 89), (43, 93), (54, 104)] (by simp only [hz]; decide)).trans h54
                        show Rg.Does1 _ _ V (Rg.putUse V [(39, 89), (43, 93), (54, 104)] fr) w2 _
                        exact Ob.rc_mv (.bool false) (by simp only [execOp, tb93, tb104]; go_simp) rfl rfl h39
                      · intro V S w2 HM HU HE
                        have lw : Below w6.heap.size w6 w2 := Rc.Mod.below HM (fun _ h => h.elim)
                        have h39 : V 39 = .bool false := HU.holds 39 (by decide)
                        have tb89 : (Rg.putUse V [(39, 89), (55, 105)] fr).eval (.tmp 89) = .bool false := (Rg.use_eval V fr 89 [(39, 89), (55, 105)] (by simp only [hz]; decide)).trans h39
                        have h55 : V 55 = .bool false := HU.holds 55 (by decide)
                        have tb105 : (Rg.putUse V [(39, 89), (55, 105)] fr).eval (.tmp 105) = .bool false := (Rg.use_eval V fr 105 [(39, 89), (55, 105)] (by simp only [hz]; decide)).trans h55
                        show Rg.Does1 _ _ V (Rg.putUse V [(39, 89), (55, 105)] fr) w2 _
                        exact Ob.rc_mv (.bool false) (by simp only [execOp, tb89, tb105]; go_simp) rfl rfl True.intro
                  · intro V S w2 HI
                    have HL2 : Hid (Below w6.heap.size w6 w2) := Rc.Mod.below HI.mod.undrew (fun _ h => h.elim)
                    have hw56 : V 56 = .bool false := HI.get 56 (by decide) (by rfl)
                    simp only [Rg.putList, Act.put, List.setIfInBounds_toArray, List.set_cons_zero, List.set_cons_succ, Nat.zero_add, Nat.reduceAdd]
                    rw [hw56]
                    clear HI hw56
                    have HW7 : Hid (Below w3.heap.size w3 w2) := HW6.out.trans (HL2.out.mono HW6.out.size)
                    clear HL2 HW6
                    go_wp2_with fail
                    go_roundw
                    case rel => exact ⟨(k : Int) + 1, by go_num, by omega, by omega, HW7⟩
                    case measure => simp [intOf]; omega
          · skip
            go_wp2_with fail
            have HW0 : Hid (Below w3.heap.size w3 wr) := HW
            clear HW
            go_loopw [7] (fun t7 wr => ∃ j : Int, t7 = .int .i64 j ∧ -1 ≤ j ∧ j ≤ R.length + 2 ∧ Hid (Below w3.heap.size w3 wr)) (fun t7 _ => ((R.length : Int) + 2 - intOf t7).toNat)
            case atStart => exact ⟨-1, rfl, by omega, by omega, HW0⟩
            case round =>
              obtain ⟨j, rfl, hj1, hj2, HW⟩ := hrel
              have HR5 : Hid (RdL wr A R) := HR3.out.below HW.out
              have HK5 : Hid (KP wr) := HK3.out.later HW.out
              by_cases hle2 : j ≤ (R.length : Int) + 1
              · by_cases h0 : j < 1
                · skip
                  go_wp2_with fail
                  refine (pGrown_no wr R A c j (by omega) (.inl h0)).mono ?_
                  rintro e w5 ⟨rfl, rfl⟩
                  go_wp2_with fail
                  go_roundw
                  case rel => exact ⟨j + 1, by go_num, by omega, by omega, HW⟩
                  case measure => simp [intOf]; omega
                · by_cases h1 : (R.length : Int) < j
                  · skip
                    go_wp2_with fail
                    refine (pGrown_no wr R A c j (by omega) (.inr h1)).mono ?_
                    rintro e w5 ⟨rfl, rfl⟩
                    go_wp2_with fail
                    go_roundw
                    case rel => exact ⟨j + 1, by go_num, by omega, by omega, HW⟩
                    case measure => simp [intOf]; omega
                  · obtain ⟨q, rfl⟩ : ∃ q : Nat, j = q := ⟨j.toNat, by omega⟩
                    have hq1 : 1 ≤ q := by omega
                    have hq2 : q ≤ R.length := by omega
                    go_wp2_with fail
                    refine (pGrown wr R A c q HR5.out hc HS.out HK5.out hq1 hq2).mono ?_
                    rintro e w6 ⟨x4, rfl, hx, hb⟩
                    obtain ⟨GA, gc, rfl, hgc, hgr⟩ := hx.form
                    obtain ⟨G, hG⟩ : ∃ G, G = Mk.sub Sh.sum R q true := ⟨_, rfl⟩
                    rw [← hG] at hgr hgc
                    rw [← hG]
                    have HG6 := Lib.hid hgr
                    have HGE := Lib.hid hG
                    have hgl : G.length ≤ 5 := by rw [hG]; exact Mk.sub_length Sh.sum 4 R q true (by omega)
                    have HG32 : Hid (∀ y, y ∈ G → y.length = 32) := fun y hy => sub_mem R q true y (hG ▸ hy)
                    have HR6 : Hid (RdL w6 A R) := HR5.out.below hb
                    have HK6 : Hid (KP w6) := HK5.out.later hb
                    have HW6 : Hid (Below w3.heap.size w3 w6) := HW.out.trans (hb.mono HW.out.size)
                    clear hx hb hgr hG HW HR5 HK5
                    go_wp2_with fail
                    refine (rGrown w6 R A c q HR6.out hc HS.out hq1 hq2).mono ?_
                    rintro e w7 ⟨x4, rfl, hx, hb⟩
                    obtain ⟨QA, qc, rfl, hqc, hqr⟩ := hx.form
                    rw [← HGE.out] at hx hqc hqr
                    rw [← HGE.out]
                    have HQN : Hid (LOwn w6.heap.size noOld (.slice QA G.length qc) G (fun b => w6.heap.size ≤ b ∧ b < w7.heap.size) w7) := hx
                    have HQ7 := Lib.hid hqr
                    have HG7 : Hid (RdL w7 GA G) := HG6.out.below hb
                    have HR7 : Hid (RdL w7 A R) := HR6.out.below hb
                    have HK7 : Hid (KP w7) := HK6.out.later hb
                    have HW7 : Hid (Below w3.heap.size w3 w7) := HW6.out.trans (hb.mono HW6.out.size)
                    clear hx hb hqr HG6 HR6 HK6 HW6
                    have S1 := fun W => rows_h W A R c q hq2 hc
                    have hTc : (R.take q).length ≤ c := by rw [List.length_take]; omega
                    have HCG : Hid (chkg (Mk.root Sh.sum (R.take q)) (Mk.root Sh.sum R) q R.length G = true) := by
                      show _ = _
                      rw [HGE.out]
                      refine decide_eq_true ⟨by omega, by omega, ?_⟩
                      rw [Int.toNat_natCast, Int.toNat_natCast]
                      exact Mk.both_sub Sh.sum R.length R q true _ (Nat.le_refl _) hq1 hq2 (fun _ => rfl)
                    obtain ⟨T, hT⟩ : ∃ T, T = R.take q := ⟨_, rfl⟩
                    have HLG : Hid (∀ Q : List (List UInt8), Q.length ≠ G.length → chkg (Mk.root Sh.sum T) (Mk.root Sh.sum R) q R.length Q = false) := fun Q hQ => chkg_long hq1 hq2 HGE.out hQ
                    have HT2 : Hid (∀ W, RdL W A R → RdL W A T) := fun W h => hT ▸ h.take q
                    have HST : Hid (Small T) := hT ▸ HS.out.take q
                    rw [← hT] at S1 hTc HCG
                    clear hT
                    obtain ⟨r, hr⟩ : ∃ r, r = Mk.root Sh.sum R := ⟨_, rfl⟩
                    obtain ⟨s, hs⟩ : ∃ s, s = Mk.root Sh.sum T := ⟨_, rfl⟩
                    have hrl : Hid (r.length = 32) := by show _ = _; rw [hr]; exact root_length _
                    have hsl : Hid (s.length = 32) := by show _ = _; rw [hs]; exact root_length _
                    rw [← hr, ← hs] at HCG HLG
                    have HRR : Hid (∀ W, RdL W A R → Calls Tryd.prog 10 #[.slice A R.length c] W (HOut r W)) := fun W h => by rw [hr]; exact rRoot _ W R A c rfl h hc HS.out trivial
                    have HRT : Hid (∀ W, RdL W A R → Calls Tryd.prog 10 #[.slice A T.length c] W (HOut s W)) := fun W h => by rw [hs]; exact rRoot _ W T A c rfl (HT2.out W h) hTc HST.out trivial
                    clear hr hs HT2 HST hTc
                    go_wp2_with fail
                    refine (lists_same w7 G GA QA gc qc HG7.out HQ7.out (by omega)).mono ?_
                    rintro e w8 ⟨rfl, hb⟩
                    have HL8 : Hid (Below w7.heap.size w7 w8) := hb
                    clear hb
                    go_wp2_with fail
                    refine (HRT.out w8 (HR7.out.below HL8.out)).mono ?_
                    rintro e w9 ⟨v, rfl, ⟨A1, c1, rfl, hc1, hr1, _⟩, hb⟩
                    have HD1 := Lib.hid hr1
                    have HL9 : Hid (Below w7.heap.size w7 w9) := HL8.out.trans (hb.mono HL8.out.size)
                    clear hb hr1 HL8
                    go_wp2_with fail
                    refine (HRR.out w9 (HR7.out.below HL9.out)).mono ?_
                    rintro e w10 ⟨v, rfl, ⟨A2, c2, rfl, hc2, hr2, _⟩, hb⟩
                    have HL10 : Hid (Below w7.heap.size w7 w10) := HL9.out.trans (hb.mono HL9.out.size)
                    have hd1 := HD1.out.below hb
                    clear hb HL9
                    go_wp2_with fail
                    refine (pCheckGrown w10 s r A1 A2 c1 c2 q R.length G QA qc (by omega) (by omega) hr2 hd1 hc1 (.inl hsl.out) (HQ7.out.below HL10.out) hqc HG32.out (by omega) (HK7.out.later HL10.out)).mono ?_
                    rintro e w11 ⟨rfl, hb⟩
                    rw [HCG.out]
                    have HL11 : Hid (Below w7.heap.size w7 w11) := HL10.out.trans (hb.mono HL10.out.size)
                    clear hb HL10 hr2 hd1 HD1 hc1 hc2
                    go_wp2_with fail
                    refine (HRT.out w11 (HR7.out.below HL11.out)).mono ?_
                    rintro e w12 ⟨v, rfl, ⟨A1, c1, rfl, hc1, hr1, _⟩, hb⟩
                    have HD1 := Lib.hid hr1
                    have HL12 : Hid (Below w7.heap.size w7 w12) := HL11.out.trans (hb.mono HL11.out.size)
                    clear hb hr1 HL11
                    go_wp2_with fail
                    refine (HRR.out w12 (HR7.out.below HL12.out)).mono ?_
                    rintro e w13 ⟨v, rfl, ⟨A2, c2, rfl, hc2, hr2, _⟩, hb⟩
                    have HD2 := Lib.hid hr2
                    have HL13 : Hid (Below w7.heap.size w7 w13) := HL12.out.trans (hb.mono HL12.out.size)
                    have HD1b : Hid (Rd w13 A1 s) := HD1.out.below hb
                    have HQN13 : Hid (LOwn w6.heap.size noOld (.slice QA G.length qc) G (fun b => w6.heap.size ≤ b ∧ b < w7.heap.size) w13) := LOwn.keep HQN.out HL13.out.size fun b h => HL13.out.block b h.2
                    have HLT : Hid (∀ b, w6.heap.size ≤ b ∧ b < w7.heap.size → b < w13.heap.size) := fun b h => Nat.lt_of_lt_of_le h.2 HL13.out.size
                    clear hb hr2 HD1 HL12 HQN
                    go_wp2_with (at_builtin; refine wpList_ocopy (by first | rfl | go_simp) (.tmp 166) (.tmp 167) rfl rfl rfl HQN13.out HLT.out (by omega) ?_; intro v2 w14 HF HL14)
                    refine (HRR.out w14 ((HR7.out.below HL13.out).below HL14.out)).mono ?_
                    rintro e w15 ⟨v, rfl, ⟨A4, c4, rfl, hc4, hr4, hX4⟩, hb⟩
                    have HX15 : Hid (HNew r w14 (.slice A4 r.length c4) w15) := ⟨A4, c4, rfl, hc4, hr4, hX4⟩
                    have HB15 := Lib.hid hb
                    clear hc4 hr4 hX4 hb
                    go_wp2_with (at_builtin; refine wpList_fpush (by first | rfl | go_simp) (.tmp 168) (.tmp 171) rfl rfl rfl HF.out HL14.out HX15.out HB15.out (by omega) ?_; intro v3 w16 HF3 HL16)
                    obtain ⟨A3, c3, e3, h3, r3⟩ := HF3.out.form HL16.out
                    subst e3
                    have hd1 : Rd w16 A1 s := HD1b.out.below HL16.out
                    have hd2 : Rd w16 A2 r := HD2.out.below HL16.out
                    have HK16 : Hid (KP w16) := (HK7.out.later HL13.out).later HL16.out
                    have HL17 : Hid (Below w7.heap.size w7 w16) := HL13.out.trans (HL16.out.mono HL13.out.size)
                    refine (pCheckGrown w16 s r A1 A2 c1 c2 q R.length (G ++ [r]) A3 c3 (by omega) (by omega) hd2 hd1 hc1 (.inl hsl.out) r3 h3 (fun z hz => by rcases List.mem_append.1 hz with h | h; exact HG32.out z h; rw [List.mem_singleton.1 h]; exact hrl.out) (by rw [List.length_append]; simp only [List.length_cons, List.length_nil]; omega) HK16.out).mono ?_
                    rintro e w18 ⟨rfl, hb⟩
                    rw [HLG.out _ (by rw [List.length_append]; simp)]
                    have HW8 : Hid (Below w3.heap.size w3 w18) := by have h := HW7.out.trans (HL17.out.mono HW7.out.size); exact h.trans (hb.mono h.size)
                    clear hb
                    go_wp2_with fail
                    go_roundw
                    case rel => exact ⟨(q : Int) + 1, by go_num, by omega, by omega, HW8⟩
                    case measure => simp [intOf]; omega
              · skip
                obtain ⟨nn, hnn⟩ : ∃ nn : Int, nn = (R.length : Int) := ⟨_, rfl⟩
                have hw8 : IntKind.u8.wrap (R.length : Int) = (R.length : Int) := by rw [IntKind.wrap_u8']; omega
                have HLj : Hid (LNew R w (.slice A R.length c) wr) := (HL3.out.later HW.out)
                have HBj : Hid (Below w.heap.size w wr) := HB3.out.trans (HW.out.mono HB3.out.size)
                have HNW := Lib.hid (nums_new wr R.length (by omega))
                have HBN : Hid (Below wr.heap.size wr (wr.alloc (.cells #[.int .u8 (R.length : Nat), .int .u8 7] 5))) := below_new _ _
                clear hnn nn
                go_wp2_with (at_builtin; refine wpList_push rfl (.tmp 175) (.tmp 179) rfl rfl (by first | rfl | (show Value.slice (some ⟨wr.heap.size + 1, 0, none⟩) 1 1 = _; rw [World.size_alloc])) HLj.out HBj.out HNW.out HBN.out (by omega) ?_; intro v2 w14 HN2 HL2)
                go_roundw
                case rel => exact ⟨R.length + 1, by go_num, by omega, by show LNew _ _ _ _; rw [nums_succ, ← HNE.out]; exact HN2.out, HL2⟩
                case measure => simp [intOf]; omega
    · have hn2 : R.length = 11 := by omega
      obtain ⟨b, off, y, YA, yc, rfl, hy, hcell, hyc, hyr⟩ := HR1.out.at_ 0 (by omega)
      rw [Nat.add_zero] at hcell
      have HY := Lib.hid hyr
      have hyl : y.length = 2 := HROW.out y (List.mem_of_getElem? hy)
      have HBL : Hid (b < wr.heap.size) := World.block_lt_of_cell? wr ⟨b, _, none⟩ hcell
      have hR0 : (0 : Int) < (R.length : Int) := by omega
      clear hyr hy hn
      go_wp2_with fail
      go_upto_region 28 with (fail)
      refine Rc.wp_region (by kernel_rfl) (fun opn => List.getD [Rc.val (.slice (some ⟨b, off, none⟩) R.length c), Ob.frow (Mk.root Sh.sum R), Rc.val (.slice (some ⟨b, off, none⟩) R.length c), Rc.val (.pointer (some ⟨b, off, none⟩)), Rc.val (.slice YA y.length yc), Rc.val (.bool false), Rc.val (.bool true), Rc.val (.bool true), Rc.val (.bool false), Rc.val (.bool true), Rc.val (.bool true), Rc.val (.bool true), Rc.val (.bool false), Rc.val (.bool true), Rc.val (.bool true), Rc.val (.bool true), Rc.val (.bool true), Rc.val (.bool true), Rc.val (.bool true)] opn Rc.any) 0 [] [[], [(0, 181)], [], [(2, 183)], [(3, 184)], [(1, 182), (4, 185)], [(5, 186)], [(6, 187)], [(7, 188)], [(7, 188), (8, 189)], [(7, 188), (9, 190)], [(10, 191)], [(11, 192)], [(11, 192), (12, 193)], [(11, 192), (13, 194)], [(14, 195)], [(15, 196)], [(15, 196), (16, 197)], [(17, 198)]] [[], [0], [], [2], [3], [1, 4], [5], [6], [7], [7, 8], [7, 9], [10], [11], [11, 12], [11, 13], [14], [15], [15, 16], [17]] [[], [0], [], [2], [3], [1, 4], [5], [6], [7], [7, 8], [7, 9], [10], [11], [11, 12], [11, 13], [14], [15], [15, 16], [17]] [] (by kernel_rfl) (by rfl) (by kernel_rfl) (fun _ => False) (fun _ _ => False) Rc.Inv.none ?_ ?_
      · as_aux_lemma =>
          intro fr ha
          have hz : fr.tmps.size = 199 := by rw [ha]; rfl
          have y1 : fr.eval (.tmp 1) = .slice (some ⟨b, off, none⟩) R.length c := by rw [ha]; rfl
          clear ha
          refine .cons ?_ (.cons ?_ (.cons ?_ (.cons ?_ (.cons ?_ (.cons ?_ (.cons ?_ (.cons ?_ (.cons ?_ (.cons ?_ (.cons ?_ (.cons ?_ (.cons ?_ (.cons ?_ (.cons ?_ (.cons ?_ (.cons ?_ (.cons ?_ (.cons ?_ (.nil)))))))))))))))))))
          · intro V S w2 HM HU HE
            have lw : Below wr.heap.size wr w2 := Rc.Mod.below HM (fun _ h => h.elim)
            have tb1 : (Rg.putUse V [] fr).eval (.tmp 1) = .slice (some ⟨b, off, none⟩) R.length c := (Rg.use_eval V fr 1 [] (by simp only [hz]; decide)).trans y1
            show Rg.Does1 _ _ V (Rg.putUse V [] fr) w2 _
            exact Ob.rc_mv (.slice (some ⟨b, off, none⟩) R.length c) (by simp only [execOp, tb1]; go_simp) rfl rfl True.intro
          · intro V S w2 HM HU HE
            have lw : Below wr.heap.size wr w2 := Rc.Mod.below HM (fun _ h => h.elim)
            have h0 : V 0 = .slice (some ⟨b, off, none⟩) R.length c := HU.holds 0 (by decide)
            have tb181 : (Rg.putUse V [(0, 181)] fr).eval (.tmp 181) = .slice (some ⟨b, off, none⟩) R.length c := (Rg.use_eval V fr 181 [(0, 181)] (by simp only [hz]; decide)).trans h0
            show Rg.Does1 _ _ V (Rg.putUse V [(0, 181)] fr) w2 _
            exact step_hcall (Mk.root Sh.sum R) #[.slice (some ⟨b, off, none⟩) R.length c] (fun args w => Rg.call_enter Tryd.func10 (by kernel_rfl) (by kernel_rfl) args w) rfl (by simp only [List.map_toArray, List.map_cons, List.map_nil, tb181]) rfl (fun x => Rg.alias_none rfl V x) True.intro (rRoot _ w2 R (some ⟨b, off, none⟩) c rfl (HR1.out.below lw) hc HS.out trivial)
          · intro V S w2 HM HU HE
            have lw : Below wr.heap.size wr w2 := Rc.Mod.below HM (fun _ h => h.elim)
            have tb1 : (Rg.putUse V [] fr).eval (.tmp 1) = .slice (some ⟨b, off, none⟩) R.length c := (Rg.use_eval V fr 1 [] (by simp only [hz]; decide)).trans y1
            show Rg.Does1 _ _ V (Rg.putUse V [] fr) w2 _
            exact Ob.rc_mv (.slice (some ⟨b, off, none⟩) R.length c) (by simp only [execOp, tb1]; go_simp) rfl rfl True.intro
          · intro V S w2 HM HU HE
            have lw : Below wr.heap.size wr w2 := Rc.Mod.below HM (fun _ h => h.elim)
            have h2 : V 2 = .slice (some ⟨b, off, none⟩) R.length c := HU.holds 2 (by decide)
            have tb183 : (Rg.putUse V [(2, 183)] fr).eval (.tmp 183) = .slice (some ⟨b, off, none⟩) R.length c := (Rg.use_eval V fr 183 [(2, 183)] (by simp only [hz]; decide)).trans h2
            show Rg.Does1 _ _ V (Rg.putUse V [(2, 183)] fr) w2 _
            exact Ob.rc_mv (.pointer (some ⟨b, off, none⟩)) (by simp only [execOp, tb183]; go_simp; try (intro h; exfalso; omega)) rfl rfl True.intro
          · intro V S w2 HM HU HE
            have lw : Below wr.heap.size wr w2 := Rc.Mod.below HM (fun _ h => h.elim)
            have h3 : V 3 = .pointer (some ⟨b, off, none⟩) := HU.holds 3 (by decide)
            have tb184 : (Rg.putUse V [(3, 184)] fr).eval (.tmp 184) = .pointer (some ⟨b, off, none⟩) := (Rg.use_eval V fr 184 [(3, 184)] (by simp only [hz]; decide)).trans h3
            show Rg.Does1 _ _ V (Rg.putUse V [(3, 184)] fr) w2 _
            have cu := (lw.cell (p := ⟨b, off, none⟩) HBL.out).trans hcell
            exact Ob.rc_mv (.slice YA y.length yc) (by simp only [execOp, tb184]; go_simp) rfl rfl True.intro
          · intro V S w2 HM HU HE
            have lw : Below wr.heap.size wr w2 := Rc.Mod.below HM (fun _ h => h.elim)
            obtain ⟨X1, k1, e1, hc1, hr1, hX1⟩ := HU.holds 1 (by decide)
            have tb182 : (Rg.putUse V [(1, 182), (4, 185)] fr).eval (.tmp 182) = .slice X1 (Mk.root Sh.sum R).length k1 := (Rg.use_eval V fr 182 [(1, 182), (4, 185)] (by simp only [hz]; decide)).trans e1
            have h4 : V 4 = .slice YA y.length yc := HU.holds 4 (by decide)
            have tb185 : (Rg.putUse V [(1, 182), (4, 185)] fr).eval (.tmp 185) = .slice YA y.length yc := (Rg.use_eval V fr 185 [(1, 182), (4, 185)] (by simp only [hz]; decide)).trans h4
            show Rg.Does1 _ _ V (Rg.putUse V [(1, 182), (4, 185)] fr) w2 _
            exact Ob.step_tell (.bool false) #[.slice X1 (Mk.root Sh.sum R).length k1, .slice YA y.length yc, .int .i64 0, .int .i64 0, .slice none 0 0] (fun args w => Rg.call_enter Tryd.func14 (by kernel_rfl) (by kernel_rfl) args w) rfl (by simp only [List.map_toArray, List.map_cons, List.map_nil, Rg.eval_const, tb182, tb185]) rfl (fun x => Rg.alias_none rfl V x) True.intro ((pCheck w2 (Mk.root Sh.sum R) y X1 YA k1 yc 0 0 [] none 0 (by omega) (by omega) hr1 (HY.out.below lw) hyc (by omega) (RdL.nil _ _) (Nat.le_refl _) ⟨by simp, fun z hz => by simp at hz⟩ (by simp) (HK1.out.later lw)).mono fun e w' h => ⟨by rw [h.1, chk_no (.inr (by omega))], h.2⟩)
          · intro V S w2 HM HU HE
            have lw : Below wr.heap.size wr w2 := Rc.Mod.below HM (fun _ h => h.elim)
            have h5 : V 5 = .bool false := HU.holds 5 (by decide)
            have tb186 : (Rg.putUse V [(5, 186)] fr).eval (.tmp 186) = .bool false := (Rg.use_eval V fr 186 [(5, 186)] (by simp only [hz]; decide)).trans h5
            show Rg.Does1 _ _ V (Rg.putUse V [(5, 186)] fr) w2 _
            exact Ob.rc_mv (.bool true) (by simp only [execOp, tb186]; go_simp) rfl rfl True.intro
          · intro V S w2 HM HU HE
            have lw : Below wr.heap.size wr w2 := Rc.Mod.below HM (fun _ h => h.elim)
            have h6 : V 6 = .bool true := HU.holds 6 (by decide)
            have tb187 : (Rg.putUse V [(6, 187)] fr).eval (.tmp 187) = .bool true := (Rg.use_eval V fr 187 [(6, 187)] (by simp only [hz]; decide)).trans h6
            show Rg.Does1 _ _ V (Rg.putUse V [(6, 187)] fr) w2 _
            exact Ob.rc_mv (.bool true) (by simp only [execOp, tb187]; go_simp) rfl rfl True.intro
          · intro V S w2 HM HU HE
            have lw : Below wr.heap.size wr w2 := Rc.Mod.below HM (fun _ h => h.elim)
            have h7 : V 7 = .bool true := HU.holds 7 (by decide)
            show Rg.Does1 _ _ V (Rg.putUse V [(7, 188)] fr) w2 _
            exact Ob.step_tell (.bool false) #[.slice none 0 0, .slice none 0 0, .int .i64 0, .int .i64 0, .slice none 0 0] (fun args w => Rg.call_enter Tryd.func17 (by kernel_rfl) (by kernel_rfl) args w) rfl (by simp only [List.map_toArray, List.map_cons, List.map_nil, Rg.eval_const]) rfl (fun x => Rg.alias_none rfl V x) h7 ((pCheckGrown w2 [] [] none none 0 0 0 0 [] none 0 (by omega) (by omega) (Rd.nil _ _) (Rd.nil _ _) (Nat.le_refl _) (.inr (.inl (by omega))) (RdL.nil _ _) (Nat.le_refl _) (by simp) (by simp) (HK1.out.later lw)).mono fun e w' h => ⟨by rw [h.1, chkg_no (.inl (by omega))], h.2⟩)
          · intro V S w2 HM HU HE
            have lw : Below wr.heap.size wr w2 := Rc.Mod.below HM (fun _ h => h.elim)
            have h7 : V 7 = .bool true := HU.holds 7 (by decide)
            have h8 : V 8 = .bool false := HU.holds 8 (by decide)
            have tb189 : (Rg.putUse V [(7, 188), (8, 189)] fr).eval (.tmp 189) = .bool false := (Rg.use_eval V fr 189 [(7, 188), (8, 189)] (by simp only [hz]; decide)).trans h8
            show Rg.Does1 _ _ V (Rg.putUse V [(7, 188), (8, 189)] fr) w2 _
            exact Ob.rc_mv (.bool true) (by simp only [execOp, tb189]; go_simp) rfl rfl h7
          · intro V S w2 HM HU HE
            have lw : Below wr.heap.size wr w2 := Rc.Mod.below HM (fun _ h => h.elim)
            have h7 : V 7 = .bool true := HU.holds 7 (by decide)
            have tb188 : (Rg.putUse V [(7, 188), (9, 190)] fr).eval (.tmp 188) = .bool true := (Rg.use_eval V fr 188 [(7, 188), (9, 190)] (by simp only [hz]; decide)).trans h7
            have h9 : V 9 = .bool true := HU.holds 9 (by decide)
            have tb190 : (Rg.putUse V [(7, 188), (9, 190)] fr).eval (.tmp 190) = .bool true := (Rg.use_eval V fr 190 [(7, 188), (9, 190)] (by simp only [hz]; decide)).trans h9
            show Rg.Does1 _ _ V (Rg.putUse V [(7, 188), (9, 190)] fr) w2 _
            exact Ob.rc_mv (.bool true) (by simp only [execOp, tb188, tb190]; go_simp) rfl rfl True.intro
          · intro V S w2 HM HU HE
            have lw : Below wr.heap.size wr w2 := Rc.Mod.below HM (fun _ h => h.elim)
            have h10 : V 10 = .bool true := HU.holds 10 (by decide)
            have tb191 : (Rg.putUse V [(10, 191)] fr).eval (.tmp 191) = .bool true := (Rg.use_eval V fr 191 [(10, 191)] (by simp only [hz]; decide)).trans h10
            show Rg.Does1 _ _ V (Rg.putUse V [(10, 191)] fr) w2 _
            exact Ob.rc_mv (.bool true) (by simp only [execOp, tb191]; go_simp) rfl rfl True.intro
          · intro V S w2 HM HU HE
            have lw : Below wr.heap.size wr w2 := Rc.Mod.below HM (fun _ h => h.elim)
            have h11 : V 11 = .bool true := HU.holds 11 (by decide)
            show Rg.Does1 _ _ V (Rg.putUse V [(11, 192)] fr) w2 _
            exact Ob.step_tell (.bool false) #[.slice none 0 0, .slice none 0 0, .int .i64 3, .int .i64 2, .slice none 0 0] (fun args w => Rg.call_enter Tryd.func17 (by kernel_rfl) (by kernel_rfl) args w) rfl (by simp only [List.map_toArray, List.map_cons, List.map_nil, Rg.eval_const]) rfl (fun x => Rg.alias_none rfl V x) h11 ((pCheckGrown w2 [] [] none none 0 0 3 2 [] none 0 (by omega) (by omega) (Rd.nil _ _) (Rd.nil _ _) (Nat.le_refl _) (.inr (.inr (by omega))) (RdL.nil _ _) (Nat.le_refl _) (by simp) (by simp) (HK1.out.later lw)).mono fun e w' h => ⟨by rw [h.1, chkg_no (.inr (by omega))], h.2⟩)
          · intro V S w2 HM HU HE
            have lw : Below wr.heap.size wr w2 := Rc.Mod.below HM (fun _ h => h.elim)
            have h11 : V 11 = .bool true := HU.holds 11 (by decide)
            have h12 : V 12 = .bool false := HU.holds 12 (by decide)
            have tb193 : (Rg.putUse V [(11, 192), (12, 193)] fr).eval (.tmp 193) = .bool false := (Rg.use_eval V fr 193 [(11, 192), (12, 193)] (by simp only [hz]; decide)).trans h12
            show Rg.Does1 _ _ V (Rg.putUse V [(11, 192), (12, 193)] fr) w2 _
            exact Ob.rc_mv (.bool true) (by simp only [execOp, tb193]; go_simp) rfl rfl h11
          · intro V S w2 HM HU HE
            have lw : Below wr.heap.size wr w2 := Rc.Mod.below HM (fun _ h => h.elim)
            have h11 : V 11 = .bool true := HU.holds 11 (by decide)
            have tb192 : (Rg.putUse V [(11, 192), (13, 194)] fr).eval (.tmp 192) = .bool true := (Rg.use_eval V fr 192 [(11, 192), (13, 194)] (by simp only [hz]; decide)).trans h11
            have h13 : V 13 = .bool true := HU.holds 13 (by decide)
            have tb194 : (Rg.putUse V [(11, 192), (13, 194)] fr).eval (.tmp 194) = .bool true := (Rg.use_eval V fr 194 [(11, 192), (13, 194)] (by simp only [hz]; decide)).trans h13
            show Rg.Does1 _ _ V (Rg.putUse V [(11, 192), (13, 194)] fr) w2 _
            exact Ob.rc_mv (.bool true) (by simp only [execOp, tb192, tb194]; go_simp) rfl rfl True.intro
          · intro V S w2 HM HU HE
            have lw : Below wr.heap.size wr w2 := Rc.Mod.below HM (fun _ h => h.elim)
            have h14 : V 14 = .bool true := HU.holds 14 (by decide)
            have tb195 : (Rg.putUse V [(14, 195)] fr).eval (.tmp 195) = .bool true := (Rg.use_eval V fr 195 [(14, 195)] (by simp only [hz]; decide)).trans h14
            show Rg.Does1 _ _ V (Rg.putUse V [(14, 195)] fr) w2 _
            exact Ob.rc_mv (.bool true) (by simp only [execOp, tb195]; go_simp) rfl rfl True.intro
          · intro V S w2 HM HU HE
            have lw : Below wr.heap.size wr w2 := Rc.Mod.below HM (fun _ h => h.elim)
            have h15 : V 15 = .bool true := HU.holds 15 (by decide)
            show Rg.Does1 _ _ V (Rg.putUse V [(15, 196)] fr) w2 _
            exact Ob.step_tell (.bool true) #[] (fun args w => Rg.call_enter Tryd.func18 (by kernel_rfl) (by kernel_rfl) args w) rfl (by simp only [List.map_toArray, List.map_cons, List.map_nil]) rfl (fun x => Rg.alias_none rfl V x) h15 (known_any w2 (HK1.out.later lw))
          · intro V S w2 HM HU HE
            have lw : Below wr.heap.size wr w2 := Rc.Mod.below HM (fun _ h => h.elim)
            have h15 : V 15 = .bool true := HU.holds 15 (by decide)
            have tb196 : (Rg.putUse V [(15, 196), (16, 197)] fr).eval (.tmp 196) = .bool true := (Rg.use_eval V fr 196 [(15, 196), (16, 197)] (by simp only [hz]; decide)).trans h15
            have h16 : V 16 = .bool true := HU.holds 16 (by decide)
            have tb197 : (Rg.putUse V [(15, 196), (16, 197)] fr).eval (.tmp 197) = .bool true := (Rg.use_eval V fr 197 [(15, 196), (16, 197)] (by simp only [hz]; decide)).trans h16
            show Rg.Does1 _ _ V (Rg.putUse V [(15, 196), (16, 197)] fr) w2 _
            exact Ob.rc_mv (.bool true) (by simp only [execOp, tb196, tb197]; go_simp) rfl rfl True.intro
          · intro V S w2 HM HU HE
            have lw : Below wr.heap.size wr w2 := Rc.Mod.below HM (fun _ h => h.elim)
            have h17 : V 17 = .bool true := HU.holds 17 (by decide)
            have tb198 : (Rg.putUse V [(17, 198)] fr).eval (.tmp 198) = .bool true := (Rg.use_eval V fr 198 [(17, 198)] (by simp only [hz]; decide)).trans h17
            show Rg.Does1 _ _ V (Rg.putUse V [(17, 198)] fr) w2 _
            exact Ob.rc_mv (.bool true) (by simp only [execOp, tb198]; go_simp) rfl rfl True.intro
      · intro V S w2 HI
        have HL2 : Hid (Below wr.heap.size wr w2) := Rc.Mod.below HI.mod.undrew (fun _ h => h.elim)
        have hw18 : V 18 = .bool true := HI.get 18 (by decide) (by rfl)
        simp only [Rg.putList, Act.put, List.setIfInBounds_toArray, List.set_cons_zero, List.set_cons_succ, Nat.zero_add, Nat.reduceAdd]
        rw [hw18]
        clear HI hw18
        go_wp2_with fail
        go_ret
        exact ⟨rfl, HB1.out.trans (HL2.out.mono HB1.out.size)⟩
end Go.Proofs.YtjeclmbableacaaDoor
