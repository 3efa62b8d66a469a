/-
  OWN WORK. The law MerkleSplit, walked.
-/
import Derived.Test.YtjeclmbableacaaDoorMkKnown
import Derived.Test.YtjeclmbableacaaDoorMkCheckR
import Derived.Test.YtjeclmbableacaaDoorMkPathR
import Derived.Test.YtjeclmbableacaaDoorMkLen
import Derived.Test.YtjeclmbableacaaDoorBaWithin
namespace Go.Proofs.YtjeclmbableacaaDoor
open Go.RowKit Rc

set_option maxHeartbeats 8000000 in
set_option maxRecDepth 100000 in
theorem split_any (w : World) (L0 : List (List UInt8)) (A0 : Option Addr) (c0 : Nat) (i : Int) (hr0 : RdL w A0 L0) (hl0 : ∀ y, y ∈ L0 → y.length ≤ 9223372036854775807) (hn0 : L0.length ≤ 9223372036854775807) (hk0 : KP w) (hi : -9223372036854775808 ≤ i ∧ i ≤ 9223372036854775807) :
    Calls Tryd.prog 6 #[.slice A0 L0.length c0, .int .i64 i] w fun e w' => e = .returned (.bool true) ∧ Below w.heap.size w w' := by
  have HK0 := Lib.hid hk0
  have HR0 := Lib.hid hr0
  have HL0 := Lib.hid hl0
  have HN0 := Lib.hid hn0
  obtain ⟨i1, i2⟩ := hi
  have HI1 := Lib.hid i1
  have HI2 := Lib.hid i2
  clear hk0 hr0 hl0 hn0 i1 i2
  go_enter Tryd.func6, Tryd.ntmps6
  go_wp2_with fail
  refine (few_any w L0 A0 c0 HR0.out HL0.out HN0.out).mono ?_
  rintro e w1 ⟨v, R, rfl, hf, h40, hrow, hb⟩
  obtain ⟨A, c, rfl, hc, hrd⟩ := hf.form hb
  have HR1 := Lib.hid hrd
  have HB1 := Lib.hid hb
  have HROW := Lib.hid hrow
  have HS : Hid (Small R) := ⟨by omega, fun y hy => by have := hrow y hy; omega⟩
  have HK1 : Hid (KP w1) := HK0.out.later HB1.out
  clear hf hrd hb hrow HR0 HL0 HN0
  by_cases h0 : R.length = 0
  · rw [h0]
    clear h0 h40 hc
    go_wp2_with fail
    go_upto_region 3 with (fail)
    refine Rc.wp_region (by kernel_rfl) (fun opn => List.getD [Rc.val (.slice A 0 c), Rc.val (.int .i64 0), Rc.val (.bool true), Rc.val (.bool true), Rc.val (undef), Rc.val (undef), Rc.val (undef), Rc.val (undef), Rc.val (undef), Rc.val (undef), Rc.val (undef), Rc.val (undef), Rc.val (undef), Rc.val (.bool true), Rc.val (.bool true), Rc.val (.bool true), Rc.val (.bool true), Rc.val (.bool true)] opn Rc.any) 0 [] [[], [(0, 17)], [(1, 18)], [(2, 19)], [(3, 20)], [(3, 20), (4, 21)], [(3, 20), (5, 22)], [(3, 20)], [(3, 20), (7, 24)], [(3, 20), (8, 25)], [(3, 20), (9, 26)], [(3, 20), (10, 27)], [(3, 20), (6, 23), (11, 28)], [(3, 20), (12, 29)], [(13, 30)], [(14, 31)], [(14, 31), (15, 32)], [(16, 33)]] [[], [0], [0, 1], [0, 1, 2], [0, 1, 2, 3], [0, 1, 2, 3, 4], [0, 1, 2, 3, 4, 5], [0, 1, 2, 3], [0, 1, 2, 3, 7], [0, 1, 2, 3, 7, 8], [0, 1, 2, 3, 4, 5, 7, 8, 9], [0, 1, 2, 3, 4, 5, 7, 8, 9, 10], [0, 1, 2, 3, 4, 5, 6, 7, 8, 9, 10, 11], [0, 1, 2, 3, 4, 5, 6, 7, 8, 9, 10, 11, 12], [0, 1, 2, 3, 4, 5, 6, 7, 8, 9, 10, 11, 12, 13], [0, 1, 2, 3, 4, 5, 6, 7, 8, 9, 10, 11, 12, 13, 14], [0, 1, 2, 3, 4, 5, 6, 7, 8, 9, 10, 11, 12, 13, 14, 15], [0, 1, 2, 3, 4, 5, 6, 7, 8, 9, 10, 11, 12, 13, 14, 15, 16]] [[], [0], [1], [2], [3], [3, 4], [3, 5], [3], [3, 7], [3, 8], [3, 9], [3, 10], [3, 6, 11], [3, 12], [13], [14], [14, 15], [16]] [] (by kernel_rfl) (by rfl) (by kernel_rfl) (fun _ => False) (fun _ _ => False) Rc.Inv.none ?_ ?_
    · intro fr ha
      have hz : fr.tmps.size = 107 := by rw [ha]; rfl
      have y5 : fr.eval (.tmp 5) = .slice A 0 c := by rw [ha]; rfl
      clear ha
      refine .cons ?_ (.cons ?_ (.cons ?_ (.cons ?_ (.cons ?_ (.cons ?_ (.cons ?_ (.cons ?_ (.cons ?_ (.cons ?_ (.cons ?_ (.cons ?_ (.cons ?_ (.cons ?_ (.cons ?_ (.cons ?_ (.cons ?_ (.cons ?_ (.nil))))))))))))))))))
      · intro V S w2 HM HU HE
        have lw : Below w1.heap.size w1 w2 := Rc.Mod.below HM (fun _ h => h.elim)
        have tb5 : (Rg.putUse V [] fr).eval (.tmp 5) = .slice A 0 c := (Rg.use_eval V fr 5 [] (by simp only [hz]; decide)).trans y5
        show Rg.Does1 _ _ V (Rg.putUse V [] fr) w2 _
        exact Ob.rc_mv (.slice A 0 c) (by simp only [execOp, tb5]; go_simp) rfl rfl True.intro
      · intro V S w2 HM HU HE
        have lw : Below w1.heap.size w1 w2 := Rc.Mod.below HM (fun _ h => h.elim)
        have h0 : V 0 = .slice A 0 c := HU.holds 0 (by decide)
        have tb17 : (Rg.putUse V [(0, 17)] fr).eval (.tmp 17) = .slice A 0 c := (Rg.use_eval V fr 17 [(0, 17)] (by simp only [hz]; decide)).trans h0
        show Rg.Does1 _ _ V (Rg.putUse V [(0, 17)] fr) w2 _
        exact Ob.rc_mv (.int .i64 0) (by simp only [execOp, resolve, List.map_toArray, List.map_cons, List.map_nil, tb17]; go_simp) rfl rfl True.intro
      · intro V S w2 HM HU HE
        have lw : Below w1.heap.size w1 w2 := Rc.Mod.below HM (fun _ h => h.elim)
        have h1 : V 1 = .int .i64 0 := HU.holds 1 (by decide)
        have tb18 : (Rg.putUse V [(1, 18)] fr).eval (.tmp 18) = .int .i64 0 := (Rg.use_eval V fr 18 [(1, 18)] (by simp only [hz]; decide)).trans h1
        show Rg.Does1 _ _ V (Rg.putUse V [(1, 18)] fr) w2 _
        exact Ob.rc_mv (.bool true) (by simp only [execOp, tb18]; go_simp) rfl rfl True.intro
      · intro V S w2 HM HU HE
        have lw : Below w1.heap.size w1 w2 := Rc.Mod.below HM (fun _ h => h.elim)
        have h2 : V 2 = .bool true := HU.holds 2 (by decide)
        have tb19 : (Rg.putUse V [(2, 19)] fr).eval (.tmp 19) = .bool true := (Rg.use_eval V fr 19 [(2, 19)] (by simp only [hz]; decide)).trans h2
        show Rg.Does1 _ _ V (Rg.putUse V [(2, 19)] fr) w2 _
        exact Ob.rc_mv (.bool true) (by simp only [execOp, tb19]; go_simp) rfl rfl True.intro
      · intro V S w2 HM HU HE
        have lw : Below w1.heap.size w1 w2 := Rc.Mod.below HM (fun _ h => h.elim)
        have h3 : V 3 = .bool true := HU.holds 3 (by decide)
        exact Rc.step_not rfl h3 (Rg.alias_none rfl V _) rfl
      · intro V S w2 HM HU HE
        have lw : Below w1.heap.size w1 w2 := Rc.Mod.below HM (fun _ h => h.elim)
        have h3 : V 3 = .bool true := HU.holds 3 (by decide)
        have h4 : V 4 = undef := HU.holds 4 (by decide)
        have tb21 : (Rg.putUse V [(3, 20), (4, 21)] fr).eval (.tmp 21) = undef := (Rg.use_eval V fr 21 [(3, 20), (4, 21)] (by simp only [hz]; decide)).trans h4
        exact Rc.step_not rfl h3 (Rg.alias_none rfl V _) rfl
      · intro V S w2 HM HU HE
        have lw : Below w1.heap.size w1 w2 := Rc.Mod.below HM (fun _ h => h.elim)
        have h3 : V 3 = .bool true := HU.holds 3 (by decide)
        have h5 : V 5 = undef := HU.holds 5 (by decide)
        have tb22 : (Rg.putUse V [(3, 20), (5, 22)] fr).eval (.tmp 22) = undef := (Rg.use_eval V fr 22 [(3, 20), (5, 22)] (by simp only [hz]; decide)).trans h5
        exact Rc.step_not rfl h3 (Rg.alias_none rfl V _) rfl
      · intro V S w2 HM HU HE
        have lw : Below w1.heap.size w1 w2 := Rc.Mod.below HM (fun _ h => h.elim)
        have h3 : V 3 = .bool true := HU.holds 3 (by decide)
        exact Rc.step_not rfl h3 (Rg.alias_none rfl V _) rfl
      · intro V S w2 HM HU HE
        have lw : Below w1.heap.size w1 w2 := Rc.Mod.below HM (fun _ h => h.elim)
        have h3 : V 3 = .bool true := HU.holds 3 (by decide)
        have h7 : V 7 = undef := HU.holds 7 (by decide)
        have tb24 : (Rg.putUse V [(3, 20), (7, 24)] fr).eval (.tmp 24) = undef := (Rg.use_eval V fr 24 [(3, 20), (7, 24)] (by simp only [hz]; decide)).trans h7
        exact Rc.step_not rfl h3 (Rg.alias_none rfl V _) rfl
      · intro V S w2 HM HU HE
        have lw : Below w1.heap.size w1 w2 := Rc.Mod.below HM (fun _ h => h.elim)
        have h3 : V 3 = .bool true := HU.holds 3 (by decide)
        have h8 : V 8 = undef := HU.holds 8 (by decide)
        have tb25 : (Rg.putUse V [(3, 20), (8, 25)] fr).eval (.tmp 25) = undef := (Rg.use_eval V fr 25 [(3, 20), (8, 25)] (by simp only [hz]; decide)).trans h8
        exact Rc.step_not rfl h3 (Rg.alias_none rfl V _) rfl
      · intro V S w2 HM HU HE
        have lw : Below w1.heap.size w1 w2 := Rc.Mod.below HM (fun _ h => h.elim)
        have h3 : V 3 = .bool true := HU.holds 3 (by decide)
        have h9 : V 9 = undef := HU.holds 9 (by decide)
        have tb26 : (Rg.putUse V [(3, 20), (9, 26)] fr).eval (.tmp 26) = undef := (Rg.use_eval V fr 26 [(3, 20), (9, 26)] (by simp only [hz]; decide)).trans h9
        exact Rc.step_not rfl h3 (Rg.alias_none rfl V _) rfl
      · intro V S w2 HM HU HE
        have lw : Below w1.heap.size w1 w2 := Rc.Mod.below HM (fun _ h => h.elim)
        have h3 : V 3 = .bool true := HU.holds 3 (by decide)
        have h10 : V 10 = undef := HU.holds 10 (by decide)
        have tb27 : (Rg.putUse V [(3, 20), (10, 27)] fr).eval (.tmp 27) = undef := (Rg.use_eval V fr 27 [(3, 20), (10, 27)] (by simp only [hz]; decide)).trans h10
        exact Rc.step_not rfl h3 (Rg.alias_none rfl V _) rfl
      · intro V S w2 HM HU HE
        have lw : Below w1.heap.size w1 w2 := Rc.Mod.below HM (fun _ h => h.elim)
        have h3 : V 3 = .bool true := HU.holds 3 (by decide)
        have h6 : V 6 = undef := HU.holds 6 (by decide)
        have tb23 : (Rg.putUse V [(3, 20), (6, 23), (11, 28)] fr).eval (.tmp 23) = undef := (Rg.use_eval V fr 23 [(3, 20), (6, 23), (11, 28)] (by simp only [hz]; decide)).trans h6
        have h11 : V 11 = undef := HU.holds 11 (by decide)
        have tb28 : (Rg.putUse V [(3, 20), (6, 23), (11, 28)] fr).eval (.tmp 28) = undef := (Rg.use_eval V fr 28 [(3, 20), (6, 23), (11, 28)] (by simp only [hz]; decide)).trans h11
        exact Rc.step_not rfl h3 (Rg.alias_none rfl V _) rfl
      · intro V S w2 HM HU HE
        have lw : Below w1.heap.size w1 w2 := Rc.Mod.below HM (fun _ h => h.elim)
        have h3 : V 3 = .bool true := HU.holds 3 (by decide)
        have tb20 : (Rg.putUse V [(3, 20), (12, 29)] fr).eval (.tmp 20) = .bool true := (Rg.use_eval V fr 20 [(3, 20), (12, 29)] (by simp only [hz]; decide)).trans h3
        have h12 : V 12 = undef := HU.holds 12 (by decide)
        have tb29 : (Rg.putUse V [(3, 20), (12, 29)] fr).eval (.tmp 29) = undef := (Rg.use_eval V fr 29 [(3, 20), (12, 29)] (by simp only [hz]; decide)).trans h12
        show Rg.Does1 _ _ V (Rg.putUse V [(3, 20), (12, 29)] fr) w2 _
        exact Ob.rc_mv (.bool true) (by simp only [execOp, tb20, tb29]; go_simp) rfl rfl True.intro
      · intro V S w2 HM HU HE
        have lw : Below w1.heap.size w1 w2 := Rc.Mod.below HM (fun _ h => h.elim)
        have h13 : V 13 = .bool true := HU.holds 13 (by decide)
        have tb30 : (Rg.putUse V [(13, 30)] fr).eval (.tmp 30) = .bool true := (Rg.use_eval V fr 30 [(13, 30)] (by simp only [hz]; decide)).trans h13
        show Rg.Does1 _ _ V (Rg.putUse V [(13, 30)] fr) w2 _
        exact Ob.rc_mv (.bool true) (by simp only [execOp, tb30]; go_simp) rfl rfl True.intro
      · intro V S w2 HM HU HE
        have lw : Below w1.heap.size w1 w2 := Rc.Mod.below HM (fun _ h => h.elim)
        have h14 : V 14 = .bool true := HU.holds 14 (by decide)
        show Rg.Does1 _ _ V (Rg.putUse V [(14, 31)] fr) w2 _
        exact Ob.step_tell (.bool true) #[] (fun args w => Rg.call_enter Tryd.func18 (by kernel_rfl) (by kernel_rfl) args w) rfl (by simp only [List.map_toArray, List.map_nil]) rfl (fun x => Rg.alias_none rfl V x) h14 (known_any w2 (HK1.out.later lw))
      · intro V S w2 HM HU HE
        have lw : Below w1.heap.size w1 w2 := Rc.Mod.below HM (fun _ h => h.elim)
        have h14 : V 14 = .bool true := HU.holds 14 (by decide)
        have tb31 : (Rg.putUse V [(14, 31), (15, 32)] fr).eval (.tmp 31) = .bool true := (Rg.use_eval V fr 31 [(14, 31), (15, 32)] (by simp only [hz]; decide)).trans h14
        have h15 : V 15 = .bool true := HU.holds 15 (by decide)
        have tb32 : (Rg.putUse V [(14, 31), (15, 32)] fr).eval (.tmp 32) = .bool true := (Rg.use_eval V fr 32 [(14, 31), (15, 32)] (by simp only [hz]; decide)).trans h15
        show Rg.Does1 _ _ V (Rg.putUse V [(14, 31), (15, 32)] fr) w2 _
        exact Ob.rc_mv (.bool true) (by simp only [execOp, tb31, tb32]; go_simp) rfl rfl True.intro
      · intro V S w2 HM HU HE
        have lw : Below w1.heap.size w1 w2 := Rc.Mod.below HM (fun _ h => h.elim)
        have h16 : V 16 = .bool true := HU.holds 16 (by decide)
        have tb33 : (Rg.putUse V [(16, 33)] fr).eval (.tmp 33) = .bool true := (Rg.use_eval V fr 33 [(16, 33)] (by simp only [hz]; decide)).trans h16
        show Rg.Does1 _ _ V (Rg.putUse V [(16, 33)] fr) w2 _
        exact Ob.rc_mv (.bool true) (by simp only [execOp, tb33]; go_simp) rfl rfl True.intro
    · intro V S w2 HI
      have HL2 : Hid (Below w1.heap.size w1 w2) := Rc.Mod.below HI.mod.undrew (fun _ h => h.elim)
      have hw17 : V 17 = .bool true := HI.get 17 (by decide) (by rfl)
      simp only [Rg.putList, Act.put, List.setIfInBounds_toArray, List.set_cons_zero, List.set_cons_succ, Nat.zero_add, Nat.reduceAdd]
      rw [hw17]
      clear HI hw17
      go_wp2_with fail
      go_ret
      exact ⟨rfl, HB1.out.trans (HL2.out.mono HB1.out.size)⟩
  · by_cases h1 : R.length = 1
    · obtain ⟨y, rfl⟩ := List.length_eq_one_iff.1 h1
      obtain ⟨b, off, y', YA, yc, rfl, hy, hcell, hyc, hyr⟩ := HR1.out.at_ 0 (by simp)
      obtain rfl : y = y' := by simpa using hy
      rw [Nat.add_zero] at hcell
      have HY := Lib.hid hyr
      have hyl : y.length ≤ 40 := HROW.out y (by simp)
      have HBL : Hid (b < w1.heap.size) := World.block_lt_of_cell? w1 ⟨b, _, none⟩ hcell
      clear hyr hy h1 h0
      go_wp2_with fail
      go_upto_region 3 with (fail)
      refine Rc.wp_region (by kernel_rfl) (fun opn => List.getD [Rc.val (.slice (some ⟨b, off, none⟩) 1 c), Rc.val (.int .i64 1), Rc.val (.bool false), Rc.val (.bool false), Rc.val (.slice (some ⟨b, off, none⟩) 1 c), Ob.frow (Mk.leafOf Sh.sum y), Rc.val (.string (strOf (Mk.leafOf Sh.sum y))), Rc.val (.slice (some ⟨b, off, none⟩) 1 c), Rc.val (.pointer (some ⟨b, off, none⟩)), Rc.val (.slice YA y.length yc), Ob.frow (Mk.leafOf Sh.sum y), Rc.val (.string (strOf (Mk.leafOf Sh.sum y))), Rc.val (.bool true), Rc.val (.bool true), Rc.val (.bool true), Rc.val (.bool true), Rc.val (.bool true), Rc.val (.bool true)] opn Rc.any) 0 [] [[], [(0, 17)], [(1, 18)], [(2, 19)], [(3, 20)], [(3, 20), (4, 21)], [(3, 20), (5, 22)], [(3, 20)], [(3, 20), (7, 24)], [(3, 20), (8, 25)], [(3, 20), (9, 26)], [(3, 20), (10, 27)], [(3, 20), (6, 23), (11, 28)], [(3, 20), (12, 29)], [(13, 30)], [(14, 31)], [(14, 31), (15, 32)], [(16, 33)]] [[], [0], [0, 1], [0, 1, 2], [0, 1, 2, 3], [0, 1, 2, 3, 4], [0, 1, 2, 3, 4, 5], [0, 1, 2, 3], [0, 1, 2, 3, 7], [0, 1, 2, 3, 7, 8], [0, 1, 2, 3, 4, 5, 7, 8, 9], [0, 1, 2, 3, 4, 5, 7, 8, 9, 10], [0, 1, 2, 3, 4, 5, 6, 7, 8, 9, 10, 11], [0, 1, 2, 3, 4, 5, 6, 7, 8, 9, 10, 11, 12], [0, 1, 2, 3, 4, 5, 6, 7, 8, 9, 10, 11, 12, 13], [0, 1, 2, 3, 4, 5, 6, 7, 8, 9, 10, 11, 12, 13, 14], [0, 1, 2, 3, 4, 5, 6, 7, 8, 9, 10, 11, 12, 13, 14, 15], [0, 1, 2, 3, 4, 5, 6, 7, 8, 9, 10, 11, 12, 13, 14, 15, 16]] [[], [0], [1], [2], [3], [3, 4], [3, 5], [3], [3, 7], [3, 8], [3, 9], [3, 10], [3, 6, 11], [3, 12], [13], [14], [14, 15], [16]] [] (by kernel_rfl) (by rfl) (by kernel_rfl) (fun _ => False) (fun _ _ => False) Rc.Inv.none ?_ ?_
      · intro fr ha
        have hz : fr.tmps.size = 107 := by rw [ha]; rfl
        have y5 : fr.eval (.tmp 5) = .slice (some ⟨b, off, none⟩) 1 c := by rw [ha]; rfl
        clear ha
        refine .cons ?_ (.cons ?_ (.cons ?_ (.cons ?_ (.cons ?_ (.cons ?_ (.cons ?_ (.cons ?_ (.cons ?_ (.cons ?_ (.cons ?_ (.cons ?_ (.cons ?_ (.cons ?_ (.cons ?_ (.cons ?_ (.cons ?_ (.cons ?_ (.nil))))))))))))))))))
        · intro V S w2 HM HU HE
          have lw : Below w1.heap.size w1 w2 := Rc.Mod.below HM (fun _ h => h.elim)
          have tb5 : (Rg.putUse V [] fr).eval (.tmp 5) = .slice (some ⟨b, off, none⟩) 1 c := (Rg.use_eval V fr 5 [] (by simp only [hz]; decide)).trans y5
          show Rg.Does1 _ _ V (Rg.putUse V [] fr) w2 _
          exact Ob.rc_mv (.slice (some ⟨b, off, none⟩) 1 c) (by simp only [execOp, tb5]; go_simp) rfl rfl True.intro
        · intro V S w2 HM HU HE
          have lw : Below w1.heap.size w1 w2 := Rc.Mod.below HM (fun _ h => h.elim)
          have h0 : V 0 = .slice (some ⟨b, off, none⟩) 1 c := HU.holds 0 (by decide)
          have tb17 : (Rg.putUse V [(0, 17)] fr).eval (.tmp 17) = .slice (some ⟨b, off, none⟩) 1 c := (Rg.use_eval V fr 17 [(0, 17)] (by simp only [hz]; decide)).trans h0
          show Rg.Does1 _ _ V (Rg.putUse V [(0, 17)] fr) w2 _
          exact Ob.rc_mv (.int .i64 1) (by simp only [execOp, resolve, List.map_toArray, List.map_cons, List.map_nil, tb17]; go_simp) rfl rfl True.intro
        · intro V S w2 HM HU HE
          have lw : Below w1.heap.size w1 w2 := Rc.Mod.below HM (fun _ h => h.elim)
          have h1 : V 1 = .int .i64 1 := HU.holds 1 (by decide)
          have tb18 : (Rg.putUse V [(1, 18)] fr).eval (.tmp 18) = .int .i64 1 := (Rg.use_eval V fr 18 [(1, 18)] (by simp only [hz]; decide)).trans h1
          show Rg.Does1 _ _ V (Rg.putUse V [(1, 18)] fr) w2 _
          exact Ob.rc_mv (.bool false) (by simp only [execOp, tb18]; go_simp) rfl rfl True.intro
        · intro V S w2 HM HU HE
          have lw : Below w1.heap.size w1 w2 := Rc.Mod.below HM (fun _ h => h.elim)
          have h2 : V 2 = .bool false := HU.holds 2 (by decide)
          have tb19 : (Rg.putUse V [(2, 19)] fr).eval (.tmp 19) = .bool false := (Rg.use_eval V fr 19 [(2, 19)] (by simp only [hz]; decide)).trans h2
          show Rg.Does1 _ _ V (Rg.putUse V [(2, 19)] fr) w2 _
          exact Ob.rc_mv (.bool false) (by simp only [execOp, tb19]; go_simp) rfl rfl True.intro
        · intro V S w2 HM HU HE
          have lw : Below w1.heap.size w1 w2 := Rc.Mod.below HM (fun _ h => h.elim)
          have h3 : V 3 = .bool false := HU.holds 3 (by decide)
          have tb5 : (Rg.putUse V [(3, 20)] fr).eval (.tmp 5) = .slice (some ⟨b, off, none⟩) 1 c := (Rg.use_eval V fr 5 [(3, 20)] (by simp only [hz]; decide)).trans y5
          show Rg.Does1 _ _ V (Rg.putUse V [(3, 20)] fr) w2 _
          exact Ob.rc_mv (.slice (some ⟨b, off, none⟩) 1 c) (by simp only [execOp, tb5]; go_simp) rfl rfl h3
        · intro V S w2 HM HU HE
          have lw : Below w1.heap.size w1 w2 := Rc.Mod.below HM (fun _ h => h.elim)
          have h3 : V 3 = .bool false := HU.holds 3 (by decide)
          have h4 : V 4 = .slice (some ⟨b, off, none⟩) 1 c := HU.holds 4 (by decide)
          have tb21 : (Rg.putUse V [(3, 20), (4, 21)] fr).eval (.tmp 21) = .slice (some ⟨b, off, none⟩) 1 c := (Rg.use_eval V fr 21 [(3, 20), (4, 21)] (by simp only [hz]; decide)).trans h4
          show Rg.Does1 _ _ V (Rg.putUse V [(3, 20), (4, 21)] fr) w2 _
          exact step_hcall (Mk.leafOf Sh.sum y) #[.slice (some ⟨b, off, none⟩) 1 c] (fun args w => Rg.call_enter Tryd.func9 (by kernel_rfl) (by kernel_rfl) args w) rfl (by simp only [List.map_toArray, List.map_cons, List.map_nil, tb21]) rfl (fun x => Rg.alias_none rfl V x) h3 (by have := pRoot _ w2 [y] (some ⟨b, off, none⟩) c rfl (HR1.out.below lw) hc HS.out (HK1.out.later lw); rw [Mk.root_one] at this; exact this)
        · intro V S w2 HM HU HE
          have lw : Below w1.heap.size w1 w2 := Rc.Mod.below HM (fun _ h => h.elim)
          have h3 : V 3 = .bool false := HU.holds 3 (by decide)
          obtain ⟨X5, k5, e5, hc5, hr5, hX5⟩ := HU.holds 5 (by decide)
          have tb22 : (Rg.putUse V [(3, 20), (5, 22)] fr).eval (.tmp 22) = .slice X5 (Mk.leafOf Sh.sum y).length k5 := (Rg.use_eval V fr 22 [(3, 20), (5, 22)] (by simp only [hz]; decide)).trans e5
          show Rg.Does1 _ _ V (Rg.putUse V [(3, 20), (5, 22)] fr) w2 _
          exact Ob.rc_str (Mk.leafOf Sh.sum y) rfl tb22 (by first | rfl | simp) hr5 rfl rfl h3
        · intro V S w2 HM HU HE
          have lw : Below w1.heap.size w1 w2 := Rc.Mod.below HM (fun _ h => h.elim)
          have h3 : V 3 = .bool false := HU.holds 3 (by decide)
          have tb5 : (Rg.putUse V [(3, 20)] fr).eval (.tmp 5) = .slice (some ⟨b, off, none⟩) 1 c := (Rg.use_eval V fr 5 [(3, 20)] (by simp only [hz]; decide)).trans y5
          show Rg.Does1 _ _ V (Rg.putUse V [(3, 20)] fr) w2 _
          exact Ob.rc_mv (.slice (some ⟨b, off, none⟩) 1 c) (by simp only [execOp, tb5]; go_simp) rfl rfl h3
        · intro V S w2 HM HU HE
          have lw : Below w1.heap.size w1 w2 := Rc.Mod.below HM (fun _ h => h.elim)
          have h3 : V 3 = .bool false := HU.holds 3 (by decide)
          have h7 : V 7 = .slice (some ⟨b, off, none⟩) 1 c := HU.holds 7 (by decide)
          have tb24 : (Rg.putUse V [(3, 20), (7, 24)] fr).eval (.tmp 24) = .slice (some ⟨b, off, none⟩) 1 c := (Rg.use_eval V fr 24 [(3, 20), (7, 24)] (by simp only [hz]; decide)).trans h7
          show Rg.Does1 _ _ V (Rg.putUse V [(3, 20), (7, 24)] fr) w2 _
          exact Ob.rc_mv (.pointer (some ⟨b, off, none⟩)) (by simp only [execOp, tb24]; go_simp) rfl rfl h3
        · intro V S w2 HM HU HE
          have lw : Below w1.heap.size w1 w2 := Rc.Mod.below HM (fun _ h => h.elim)
          have h3 : V 3 = .bool false := HU.holds 3 (by decide)
          have h8 : V 8 = .pointer (some ⟨b, off, none⟩) := HU.holds 8 (by decide)
          have tb25 : (Rg.putUse V [(3, 20), (8, 25)] fr).eval (.tmp 25) = .pointer (some ⟨b, off, none⟩) := (Rg.use_eval V fr 25 [(3, 20), (8, 25)] (by simp only [hz]; decide)).trans h8
          show Rg.Does1 _ _ V (Rg.putUse V [(3, 20), (8, 25)] fr) w2 _
          have cu := (lw.cell (p := ⟨b, off, none⟩) HBL.out).trans hcell
          exact Ob.rc_mv (.slice YA y.length yc) (by simp only [execOp, tb25]; go_simp) rfl rfl h3
        · intro V S w2 HM HU HE
          have lw : Below w1.heap.size w1 w2 := Rc.Mod.below HM (fun _ h => h.elim)
          have h3 : V 3 = .bool false := HU.holds 3 (by decide)
          have h9 : V 9 = .slice YA y.length yc := HU.holds 9 (by decide)
          have tb26 : (Rg.putUse V [(3, 20), (9, 26)] fr).eval (.tmp 26) = .slice YA y.length yc := (Rg.use_eval V fr 26 [(3, 20), (9, 26)] (by simp only [hz]; decide)).trans h9
          show Rg.Does1 _ _ V (Rg.putUse V [(3, 20), (9, 26)] fr) w2 _
          exact step_hcall (Mk.leafOf Sh.sum y) #[.slice YA y.length yc] (fun args w => Rg.call_enter Tryd.func24 (by kernel_rfl) (by kernel_rfl) args w) rfl (by simp only [List.map_toArray, List.map_cons, List.map_nil, tb26]) rfl (fun x => Rg.alias_none rfl V x) h3 (rLeaf w2 y YA yc (HY.out.below lw) hyc trivial (by omega))
        · intro V S w2 HM HU HE
          have lw : Below w1.heap.size w1 w2 := Rc.Mod.below HM (fun _ h => h.elim)
          have h3 : V 3 = .bool false := HU.holds 3 (by decide)
          obtain ⟨X10, k10, e10, hc10, hr10, hX10⟩ := HU.holds 10 (by decide)
          have tb27 : (Rg.putUse V [(3, 20), (10, 27)] fr).eval (.tmp 27) = .slice X10 (Mk.leafOf Sh.sum y).length k10 := (Rg.use_eval V fr 27 [(3, 20), (10, 27)] (by simp only [hz]; decide)).trans e10
          show Rg.Does1 _ _ V (Rg.putUse V [(3, 20), (10, 27)] fr) w2 _
          exact Ob.rc_str (Mk.leafOf Sh.sum y) rfl tb27 (by first | rfl | simp) hr10 rfl rfl h3
        · intro V S w2 HM HU HE
          have lw : Below w1.heap.size w1 w2 := Rc.Mod.below HM (fun _ h => h.elim)
          have h3 : V 3 = .bool false := HU.holds 3 (by decide)
          have h6 : V 6 = .string (strOf (Mk.leafOf Sh.sum y)) := HU.holds 6 (by decide)
          have tb23 : (Rg.putUse V [(3, 20), (6, 23), (11, 28)] fr).eval (.tmp 23) = .string (strOf (Mk.leafOf Sh.sum y)) := (Rg.use_eval V fr 23 [(3, 20), (6, 23), (11, 28)] (by simp only [hz]; decide)).trans h6
          have h11 : V 11 = .string (strOf (Mk.leafOf Sh.sum y)) := HU.holds 11 (by decide)
          have tb28 : (Rg.putUse V [(3, 20), (6, 23), (11, 28)] fr).eval (.tmp 28) = .string (strOf (Mk.leafOf Sh.sum y)) := (Rg.use_eval V fr 28 [(3, 20), (6, 23), (11, 28)] (by simp only [hz]; decide)).trans h11
          show Rg.Does1 _ _ V (Rg.putUse V [(3, 20), (6, 23), (11, 28)] fr) w2 _
          exact Ob.rc_mv (.bool true) (by simp only [execOp, tb23, tb28]; go_simp) rfl rfl h3
        · intro V S w2 HM HU HE
          have lw : Below w1.heap.size w1 w2 := Rc.Mod.below HM (fun _ h => h.elim)
          have h3 : V 3 = .bool false := HU.holds 3 (by decide)
          have tb20 : (Rg.putUse V [(3, 20), (12, 29)] fr).eval (.tmp 20) = .bool false := (Rg.use_eval V fr 20 [(3, 20), (12, 29)] (by simp only [hz]; decide)).trans h3
          have h12 : V 12 = .bool true := HU.holds 12 (by decide)
          have tb29 : (Rg.putUse V [(3, 20), (12, 29)] fr).eval (.tmp 29) = .bool true := (Rg.use_eval V fr 29 [(3, 20), (12, 29)] (by simp only [hz]; decide)).trans h12
          show Rg.Does1 _ _ V (Rg.putUse V [(3, 20), (12, 29)] fr) w2 _
          exact Ob.rc_mv (.bool true) (by simp only [execOp, tb20, tb29]; go_simp) rfl rfl True.intro
        · intro V S w2 HM HU HE
          have lw : Below w1.heap.size w1 w2 := Rc.Mod.below HM (fun _ h => h.elim)
          have h13 : V 13 = .bool true := HU.holds 13 (by decide)
          have tb30 : (Rg.putUse V [(13, 30)] fr).eval (.tmp 30) = .bool true := (Rg.use_eval V fr 30 [(13, 30)] (by simp only [hz]; decide)).trans h13
          show Rg.Does1 _ _ V (Rg.putUse V [(13, 30)] fr) w2 _
          exact Ob.rc_mv (.bool true) (by simp only [execOp, tb30]; go_simp) rfl rfl True.intro
        · intro V S w2 HM HU HE
          have lw : Below w1.heap.size w1 w2 := Rc.Mod.below HM (fun _ h => h.elim)
          have h14 : V 14 = .bool true := HU.holds 14 (by decide)
          show Rg.Does1 _ _ V (Rg.putUse V [(14, 31)] fr) w2 _
          exact Ob.step_tell (.bool true) #[] (fun args w => Rg.call_enter Tryd.func18 (by kernel_rfl) (by kernel_rfl) args w) rfl (by simp only [List.map_toArray, List.map_nil]) rfl (fun x => Rg.alias_none rfl V x) h14 (known_any w2 (HK1.out.later lw))
        · intro V S w2 HM HU HE
          have lw : Below w1.heap.size w1 w2 := Rc.Mod.below HM (fun _ h => h.elim)
          have h14 : V 14 = .bool true := HU.holds 14 (by decide)
          have tb31 : (Rg.putUse V [(14, 31), (15, 32)] fr).eval (.tmp 31) = .bool true := (Rg.use_eval V fr 31 [(14, 31), (15, 32)] (by simp only [hz]; decide)).trans h14
          have h15 : V 15 = .bool true := HU.holds 15 (by decide)
          have tb32 : (Rg.putUse V [(14, 31), (15, 32)] fr).eval (.tmp 32) = .bool true := (Rg.use_eval V fr 32 [(14, 31), (15, 32)] (by simp only [hz]; decide)).trans h15
          show Rg.Does1 _ _ V (Rg.putUse V [(14, 31), (15, 32)] fr) w2 _
          exact Ob.rc_mv (.bool true) (by simp only [execOp, tb31, tb32]; go_simp) rfl rfl True.intro
        · intro V S w2 HM HU HE
          have lw : Below w1.heap.size w1 w2 := Rc.Mod.below HM (fun _ h => h.elim)
          have h16 : V 16 = .bool true := HU.holds 16 (by decide)
          have tb33 : (Rg.putUse V [(16, 33)] fr).eval (.tmp 33) = .bool true := (Rg.use_eval V fr 33 [(16, 33)] (by simp only [hz]; decide)).trans h16
          show Rg.Does1 _ _ V (Rg.putUse V [(16, 33)] fr) w2 _
          exact Ob.rc_mv (.bool true) (by simp only [execOp, tb33]; go_simp) rfl rfl True.intro
      · intro V S w2 HI
        have HL2 : Hid (Below w1.heap.size w1 w2) := Rc.Mod.below HI.mod.undrew (fun _ h => h.elim)
        have hw17 : V 17 = .bool true := HI.get 17 (by decide) (by rfl)
        simp only [Rg.putList, Act.put, List.setIfInBounds_toArray, List.set_cons_zero, List.set_cons_succ, Nat.zero_add, Nat.reduceAdd]
        rw [hw17]
        clear HI hw17
        go_wp2_with fail
        go_ret
        exact ⟨rfl, HB1.out.trans (HL2.out.mono HB1.out.size)⟩
    · have h2 : 2 ≤ R.length := by omega
      have hp1 := Mk.part_lt R.length h2
      have hp2 := Mk.part_pos R.length h2
      have HE := Lib.hid (Mk.root_split Sh.sum R h2)
      have HPL := Lib.hid (Mk.path_left Sh.sum R)
      have HPR := Lib.hid (Mk.path_right Sh.sum R)
      clear h0 h1
      go_wp2_with fail
      go_loopw [6] (fun t6 wr => ∃ k : Nat, t6 = .int .i64 (k : Nat) ∧ 0 < k ∧ k < R.length ∧ Hid (∃ e, k = 2 ^ e) ∧ w1 = wr) (fun t _ => R.length - (intOf t).toNat)
      case atStart => exact ⟨1, rfl, by omega, by omega, ⟨0, rfl⟩, rfl⟩
      case round =>
        obtain ⟨p, rfl, g1, g2, g3, rfl⟩ := hrel
        by_cases g4 : 2 * p < R.length
        · have g5 : Hid (∃ e, 2 * p = 2 ^ e) := by
            obtain ⟨e, he⟩ := g3.out
            exact ⟨e + 1, pow_step p e he⟩
          clear g3
          go_wp2_with fail
          go_roundw
          case rel => exact ⟨2 * p, by go_num, by omega, by omega, g5, trivial⟩
          case measure => simp [intOf]; omega
        · have g6 : Mk.part R.length = p := by
            obtain ⟨e, he⟩ := g3.out
            exact Mk.part_only R.length p e he g2 (by omega)
          clear g3
          have S1 := fun W => rows_h W A R c p (by omega) hc
          have S2 := fun W => rows_l W A R c p (by omega)
          have hc1 : (R.take p).length ≤ c := by rw [List.length_take]; omega
          have hc2 : (R.drop p).length ≤ c - p := by rw [List.length_drop]; omega
          have Q1 : Hid (∀ W, RdL W A R → RdL W A (R.take p)) := fun W h => h.take p
          have Q2 : Hid (∀ W, RdL W A R → RdL W (cutA A p c) (R.drop p)) := fun W h => h.cut p c hc
          have M1 := Lib.hid (HS.out.take p)
          have M2 := Lib.hid (HS.out.drop p)
          have HE2 : Hid (Mk.root Sh.sum R = Mk.pairOf Sh.sum (Mk.root Sh.sum (R.take p)) (Mk.root Sh.sum (R.drop p))) := by
            have := HE.out
            rw [g6] at this; exact this
          have HPL2 : Hid (∀ k, k < p → Mk.path Sh.sum R k = Mk.path Sh.sum (R.take p) k ++ [Mk.root Sh.sum (R.drop p)]) := fun k hk => by
            have := HPL.out k h2 (by rw [g6]; exact hk)
            rw [g6] at this; exact this
          have HPR2 : Hid (∀ k, ¬ k < p → Mk.path Sh.sum R k = Mk.path Sh.sum (R.drop p) (k - p) ++ [Mk.root Sh.sum (R.take p)]) := fun k hk => by
            have := HPR.out k h2 (by rw [g6]; exact hk)
            rw [g6] at this; exact this
          obtain ⟨L1, hL1⟩ : ∃ L1, L1 = R.take p := ⟨_, rfl⟩
          obtain ⟨L2, hL2⟩ : ∃ L2, L2 = R.drop p := ⟨_, rfl⟩
          rw [← hL1] at S1 Q1 M1 hc1 HE2 HPL2 HPR2
          rw [← hL2] at S2 Q2 M2 hc2 HE2 HPL2 HPR2
          clear hL1 hL2 HE HPL HPR g6
          go_wp2_with fail
          go_upto_region 7 with (fail)
          refine Rc.wp_region (by kernel_rfl) (fun opn => List.getD [Rc.val (.slice A R.length c), Rc.val (.int .i64 ((p : Nat) : Int)), Rc.val (.slice A L1.length c), Ob.frow (Mk.root Sh.sum L1), Rc.val (.slice A R.length c), Rc.val (.int .i64 ((p : Nat) : Int)), Rc.val (.slice (cutA A p c) L2.length (c - p)), Ob.frow (Mk.root Sh.sum L2), Rc.any, Rc.any] opn Rc.any) 0 [(8, 3, fun v => v), (9, 7, fun v => v)] [[], [], [(0, 41), (1, 42)], [(2, 43)], [], [], [(4, 45), (5, 46)], [(6, 47)], [(3, 44)], [(7, 48)]] [[], [], [0, 1], [0, 1, 2], [], [], [4, 5], [0, 1, 2, 3, 4, 5, 6], [0, 1, 2, 3, 4, 5, 6, 7], [0, 1, 2, 3, 4, 5, 6, 7, 8]] [[], [], [0, 1], [2], [], [], [4, 5], [6], [3], [7]] [] (by kernel_rfl) (by rfl) (by kernel_rfl) (fun _ => False) (fun _ _ => False) Rc.Inv.none ?_ ?_
          · intro fr ha
            have hz : fr.tmps.size = 107 := by rw [ha]; rfl
            have y5 : fr.eval (.tmp 5) = .slice A R.length c := by rw [ha]; rfl
            have y6 : fr.eval (.tmp 6) = .int .i64 ((p : Nat) : Int) := by rw [ha]; rfl
            clear ha
            refine .cons ?_ (.cons ?_ (.cons ?_ (.cons ?_ (.cons ?_ (.cons ?_ (.cons ?_ (.cons ?_ (.cons ?_ (.cons ?_ (.nil))))))))))
            · intro V S w2 HM HU HE
              have lw : Below w1.heap.size w1 w2 := Rc.Mod.below HM (fun _ h => h.elim)
              have tb5 : (Rg.putUse V [] fr).eval (.tmp 5) = .slice A R.length c := (Rg.use_eval V fr 5 [] (by simp only [hz]; decide)).trans y5
              show Rg.Does1 _ _ V (Rg.putUse V [] fr) w2 _
              exact Ob.rc_mv (.slice A R.length c) (by simp only [execOp, tb5]; go_simp) rfl rfl True.intro
            · intro V S w2 HM HU HE
              have lw : Below w1.heap.size w1 w2 := Rc.Mod.below HM (fun _ h => h.elim)
              have tb6 : (Rg.putUse V [] fr).eval (.tmp 6) = .int .i64 ((p : Nat) : Int) := (Rg.use_eval V fr 6 [] (by simp only [hz]; decide)).trans y6
              show Rg.Does1 _ _ V (Rg.putUse V [] fr) w2 _
              exact Ob.rc_mv (.int .i64 ((p : Nat) : Int)) (by simp only [execOp, tb6]; go_simp) rfl rfl True.intro
            · intro V S w2 HM HU HE
              have lw : Below w1.heap.size w1 w2 := Rc.Mod.below HM (fun _ h => h.elim)
              have h0 : V 0 = .slice A R.length c := HU.holds 0 (by decide)
              have tb41 : (Rg.putUse V [(0, 41), (1, 42)] fr).eval (.tmp 41) = .slice A R.length c := (Rg.use_eval V fr 41 [(0, 41), (1, 42)] (by simp only [hz]; decide)).trans h0
              have h1 : V 1 = .int .i64 ((p : Nat) : Int) := HU.holds 1 (by decide)
              have tb42 : (Rg.putUse V [(0, 41), (1, 42)] fr).eval (.tmp 42) = .int .i64 ((p : Nat) : Int) := (Rg.use_eval V fr 42 [(0, 41), (1, 42)] (by simp only [hz]; decide)).trans h1
              show Rg.Does1 _ _ V (Rg.putUse V [(0, 41), (1, 42)] fr) w2 _
              exact Ob.rc_slh rfl tb41 tb42 (S1 w2) rfl rfl True.intro
            · intro V S w2 HM HU HE
              have lw : Below w1.heap.size w1 w2 := Rc.Mod.below HM (fun _ h => h.elim)
              have h2 : V 2 = .slice A L1.length c := HU.holds 2 (by decide)
              have tb43 : (Rg.putUse V [(2, 43)] fr).eval (.tmp 43) = .slice A L1.length c := (Rg.use_eval V fr 43 [(2, 43)] (by simp only [hz]; decide)).trans h2
              show Rg.Does1 _ _ V (Rg.putUse V [(2, 43)] fr) w2 _
              exact step_hcall (Mk.root Sh.sum L1) #[.slice A L1.length c] (fun args w => Rg.call_enter Tryd.func9 (by kernel_rfl) (by kernel_rfl) args w) rfl (by simp only [List.map_toArray, List.map_cons, List.map_nil, tb43]) rfl (fun x => Rg.alias_none rfl V x) True.intro (pRoot _ w2 L1 A c rfl (Q1.out w2 (HR1.out.below lw)) hc1 M1.out (HK1.out.later lw))
            · intro V S w2 HM HU HE
              have lw : Below w1.heap.size w1 w2 := Rc.Mod.below HM (fun _ h => h.elim)
              have tb5 : (Rg.putUse V [] fr).eval (.tmp 5) = .slice A R.length c := (Rg.use_eval V fr 5 [] (by simp only [hz]; decide)).trans y5
              show Rg.Does1 _ _ V (Rg.putUse V [] fr) w2 _
              exact Ob.rc_mv (.slice A R.length c) (by simp only [execOp, tb5]; go_simp) rfl rfl True.intro
            · intro V S w2 HM HU HE
              have lw : Below w1.heap.size w1 w2 := Rc.Mod.below HM (fun _ h => h.elim)
              have tb6 : (Rg.putUse V [] fr).eval (.tmp 6) = .int .i64 ((p : Nat) : Int) := (Rg.use_eval V fr 6 [] (by simp only [hz]; decide)).trans y6
              show Rg.Does1 _ _ V (Rg.putUse V [] fr) w2 _
              exact Ob.rc_mv (.int .i64 ((p : Nat) : Int)) (by simp only [execOp, tb6]; go_simp) rfl rfl True.intro
            · intro V S w2 HM HU HE
              have lw : Below w1.heap.size w1 w2 := Rc.Mod.below HM (fun _ h => h.elim)
              have h4 : V 4 = .slice A R.length c := HU.holds 4 (by decide)
              have tb45 : (Rg.putUse V [(4, 45), (5, 46)] fr).eval (.tmp 45) = .slice A R.length c := (Rg.use_eval V fr 45 [(4, 45), (5, 46)] (by simp only [hz]; decide)).trans h4
              have h5 : V 5 = .int .i64 ((p : Nat) : Int) := HU.holds 5 (by decide)
              have tb46 : (Rg.putUse V [(4, 45), (5, 46)] fr).eval (.tmp 46) = .int .i64 ((p : Nat) : Int) := (Rg.use_eval V fr 46 [(4, 45), (5, 46)] (by simp only [hz]; decide)).trans h5
              show Rg.Does1 _ _ V (Rg.putUse V [(4, 45), (5, 46)] fr) w2 _
              exact Ob.rc_sll rfl tb45 tb46 (S2 w2) rfl rfl True.intro
            · intro V S w2 HM HU HE
              have lw : Below w1.heap.size w1 w2 := Rc.Mod.below HM (fun _ h => h.elim)
              have h6 : V 6 = .slice (cutA A p c) L2.length (c - p) := HU.holds 6 (by decide)
              have tb47 : (Rg.putUse V [(6, 47)] fr).eval (.tmp 47) = .slice (cutA A p c) L2.length (c - p) := (Rg.use_eval V fr 47 [(6, 47)] (by simp only [hz]; decide)).trans h6
              show Rg.Does1 _ _ V (Rg.putUse V [(6, 47)] fr) w2 _
              exact step_hcall (Mk.root Sh.sum L2) #[.slice (cutA A p c) L2.length (c - p)] (fun args w => Rg.call_enter Tryd.func9 (by kernel_rfl) (by kernel_rfl) args w) rfl (by simp only [List.map_toArray, List.map_cons, List.map_nil, tb47]) rfl (fun x => Rg.alias_none rfl V x) True.intro (pRoot _ w2 L2 _ _ rfl (Q2.out w2 (HR1.out.below lw)) hc2 M2.out (HK1.out.later lw))
            · intro V S w2 HM HU HE
              have lw : Below w1.heap.size w1 w2 := Rc.Mod.below HM (fun _ h => h.elim)
              obtain ⟨X3, k3, e3, hc3, hr3, hX3⟩ := HU.holds 3 (by decide)
              have tb44 : (Rg.putUse V [(3, 44)] fr).eval (.tmp 44) = .slice X3 (Mk.root Sh.sum L1).length k3 := (Rg.use_eval V fr 44 [(3, 44)] (by simp only [hz]; decide)).trans e3
              show Rg.Does1 _ _ V (Rg.putUse V [(3, 44)] fr) w2 _
              exact Rc.step_val _ (Rg.alias_one rfl V) True.intro (by simp only [execOp, tb44, ← e3]; go_simp) True.intro
            · intro V S w2 HM HU HE
              have lw : Below w1.heap.size w1 w2 := Rc.Mod.below HM (fun _ h => h.elim)
              obtain ⟨X7, k7, e7, hc7, hr7, hX7⟩ := HU.holds 7 (by decide)
              have tb48 : (Rg.putUse V [(7, 48)] fr).eval (.tmp 48) = .slice X7 (Mk.root Sh.sum L2).length k7 := (Rg.use_eval V fr 48 [(7, 48)] (by simp only [hz]; decide)).trans e7
              show Rg.Does1 _ _ V (Rg.putUse V [(7, 48)] fr) w2 _
              exact Rc.step_val _ (Rg.alias_one rfl V) True.intro (by simp only [execOp, tb48, ← e7]; go_simp) True.intro
          · intro V S w2 HI
            have HL2 : Hid (Below w1.heap.size w1 w2) := Rc.Mod.below HI.mod.undrew (fun _ h => h.elim)
            have ha8 : V 8 = V 3 := HI.same 8 3 (fun v => v) (by decide) (by simp)
            obtain ⟨X3, k3, hw3, hc3, hr3, hX3⟩ := HI.get 3 (by decide) (by rfl)
            have HN3 : Hid (HNew (Mk.root Sh.sum L1) w1 (.slice X3 (Mk.root Sh.sum L1).length k3) w2) := ⟨X3, k3, rfl, hc3, hr3, fun b hb => new_in HI 3 (by decide) (by rfl) (hX3 b hb)⟩
            clear hc3 hr3 hX3
            have ha9 : V 9 = V 7 := HI.same 9 7 (fun v => v) (by decide) (by simp)
            obtain ⟨X7, k7, hw7, hc7, hr7, hX7⟩ := HI.get 7 (by decide) (by rfl)
            have HN7 : Hid (HNew (Mk.root Sh.sum L2) w1 (.slice X7 (Mk.root Sh.sum L2).length k7) w2) := ⟨X7, k7, rfl, hc7, hr7, fun b hb => new_in HI 7 (by decide) (by rfl) (hX7 b hb)⟩
            clear hc7 hr7 hX7
            simp only [Rg.putList, Act.put, List.setIfInBounds_toArray, List.set_cons_zero, List.set_cons_succ, Nat.zero_add, Nat.reduceAdd]
            rw [ha8, hw3, ha9, hw7]
            clear HI ha8 hw3 ha9 hw7
            have HX10 : Hid (Rd w2 X3 (Mk.root Sh.sum L1)) := by obtain ⟨_, _, e, _, h, _⟩ := HN3.out; injection e with e1; rw [← e1] at h; exact h
            have HX20 : Hid (Rd w2 X7 (Mk.root Sh.sum L2)) := by obtain ⟨_, _, e, _, h, _⟩ := HN7.out; injection e with e1; rw [← e1] at h; exact h
            have hx1 : (Mk.root Sh.sum L1).length ≤ k3 := by obtain ⟨_, _, e, h, _⟩ := HN3.out; injection e with _ _ e3; omega
            have hx2 : (Mk.root Sh.sum L2).length ≤ k7 := by obtain ⟨_, _, e, h, _⟩ := HN7.out; injection e with _ _ e3; omega
            obtain ⟨w3, hw3⟩ : ∃ w3, w3 = w2 := ⟨_, rfl⟩
            rw [← hw3] at HX10 HX20 HL2
            rw [← hw3]
            clear hw3 HN3 HN7
            generalize X3 = A1 at *
            generalize X7 = A2 at *
            generalize k3 = c1 at *
            generalize k7 = c2 at *
            have HR3 : Hid (RdL w3 A R) := HR1.out.below HL2.out
            have HB3 : Hid (Below w.heap.size w w3) := HB1.out.trans (HL2.out.mono HB1.out.size)
            have HK3 : Hid (KP w3) := HK1.out.later HL2.out
            clear HL2
            go_wp2_with fail
            refine (within_to i _ (R.length - 1) w3 (by omega) (by omega) HI1.out HI2.out).mono ?_
            rintro e w4 ⟨k, hk, rfl, rfl⟩
            have hk2 : k < R.length := by omega
            clear hk
            go_wp2_with fail
            refine (pPath_in w3 R A c k HR3.out hc HS.out HK3.out hk2).mono ?_
            rintro e w4 ⟨x, rfl, hx, hb⟩
            obtain ⟨PA, pc, rfl, hpc, hpr⟩ := hx.form
            have HX1 : Hid (Rd w4 A1 (Mk.root Sh.sum L1)) := HX10.out.below hb
            have HX2 : Hid (Rd w4 A2 (Mk.root Sh.sum L2)) := HX20.out.below hb
            have HR4 : Hid (RdL w4 A R) := HR3.out.below hb
            have HB4 : Hid (Below w.heap.size w w4) := HB3.out.trans (hb.mono HB3.out.size)
            have HK4 : Hid (KP w4) := HK3.out.later hb
            obtain ⟨P, hP⟩ : ∃ P, P = Mk.path Sh.sum R k := ⟨_, rfl⟩
            rw [← hP] at hpr hpc
            rw [← hP]
            have HP4 := Lib.hid hpr
            have HPE := Lib.hid hP
            have hp0 : 0 < P.length := by
              by_cases hik : k < p
              · rw [hP, HPL2.out k hik, List.length_append]; exact Nat.succ_pos _
              · rw [hP, HPR2.out k hik, List.length_append]; exact Nat.succ_pos _
            have hp6 : P.length ≤ 1000 := by rw [hP]; have := path_len R k (by omega); omega
            clear hx hb hpr hP
            go_wp2_with fail
            go_upto_region 10 with (fail)
            refine Rc.wp_region (by kernel_rfl) (fun opn => List.getD [Rc.val (.int .i64 0), Rc.val (.bool false), Rc.val (.bool false), Rc.val (.slice PA P.length pc), Rc.val (.int .i64 ((P.length : Nat) : Int)), Rc.val (.bool false), Rc.val (.bool false), Rc.val (.bool false), Rc.val (.slice A R.length c), Ob.frow (Mk.pairOf Sh.sum (Mk.root Sh.sum L1) (Mk.root Sh.sum L2)), Rc.val (.string (strOf (Mk.pairOf Sh.sum (Mk.root Sh.sum L1) (Mk.root Sh.sum L2)))), Rc.val (.slice A1 (Mk.root Sh.sum L1).length c1), Rc.val (.slice A2 (Mk.root Sh.sum L2).length c2), Ob.frow (Mk.pairOf Sh.sum (Mk.root Sh.sum L1) (Mk.root Sh.sum L2)), Rc.val (.string (strOf (Mk.pairOf Sh.sum (Mk.root Sh.sum L1) (Mk.root Sh.sum L2)))), Rc.val (.bool false), Rc.val (.bool false)] opn Rc.any) 0 [] [[], [(0, 60)], [(1, 61)], [(2, 62)], [(2, 62), (3, 63)], [(2, 62), (4, 64)], [(2, 62), (5, 65)], [(6, 66)], [(7, 67)], [(7, 67), (8, 68)], [(7, 67), (9, 69)], [(7, 67)], [(7, 67)], [(7, 67), (11, 71), (12, 72)], [(7, 67), (13, 73)], [(7, 67), (10, 70), (14, 74)], [(7, 67), (15, 75)]] [[], [0], [0, 1], [0, 1, 2], [0, 1, 2, 3], [0, 1, 2, 3, 4], [0, 1, 2, 3, 4, 5], [0, 1, 2, 3, 4, 5, 6], [0, 1, 2, 3, 4, 5, 6, 7], [0, 1, 2, 3, 4, 5, 6, 7, 8], [0, 1, 2, 3, 4, 5, 6, 7, 8, 9], [0, 1, 2, 3, 4, 5, 6, 7], [0, 1, 2, 3, 4, 5, 6, 7], [0, 1, 2, 3, 4, 5, 6, 7, 8, 9, 11, 12], [0, 1, 2, 3, 4, 5, 6, 7, 8, 9, 11, 12, 13], [0, 1, 2, 3, 4, 5, 6, 7, 8, 9, 10, 11, 12, 13, 14], [0, 1, 2, 3, 4, 5, 6, 7, 8, 9, 10, 11, 12, 13, 14, 15]] [[], [0], [1], [2], [2, 3], [2, 4], [2, 5], [6], [7], [7, 8], [7, 9], [7], [7], [7, 11, 12], [7, 13], [7, 10, 14], [7, 15]] [] (by kernel_rfl) (by rfl) (by kernel_rfl) (fun _ => False) (fun _ _ => False) Rc.Inv.none ?_ ?_
            · intro fr ha
              have hz : fr.tmps.size = 107 := by rw [ha]; rfl
              have y5 : fr.eval (.tmp 5) = .slice A R.length c := by rw [ha]; rfl
              have y7 : fr.eval (.tmp 7) = .slice A1 (Mk.root Sh.sum L1).length c1 := by rw [ha]; rfl
              have y8 : fr.eval (.tmp 8) = .slice A2 (Mk.root Sh.sum L2).length c2 := by rw [ha]; rfl
              have y9 : fr.eval (.tmp 9) = .slice PA P.length pc := by rw [ha]; rfl
              have y10 : fr.eval (.tmp 10) = .int .i64 0 := by rw [ha]; rfl
              clear ha
              refine .cons ?_ (.cons ?_ (.cons ?_ (.cons ?_ (.cons ?_ (.cons ?_ (.cons ?_ (.cons ?_ (.cons ?_ (.cons ?_ (.cons ?_ (.cons ?_ (.cons ?_ (.cons ?_ (.cons ?_ (.cons ?_ (.cons ?_ (.nil)))))))))))))))))
              · intro V S w2 HM HU HE
                have lw : Below w4.heap.size w4 w2 := Rc.Mod.below HM (fun _ h => h.elim)
                have tb10 : (Rg.putUse V [] fr).eval (.tmp 10) = .int .i64 0 := (Rg.use_eval V fr 10 [] (by simp only [hz]; decide)).trans y10
                show Rg.Does1 _ _ V (Rg.putUse V [] fr) w2 _
                exact Ob.rc_mv (.int .i64 0) (by simp only [execOp, tb10]; go_simp) rfl rfl True.intro
              · intro V S w2 HM HU HE
                have lw : Below w4.heap.size w4 w2 := Rc.Mod.below HM (fun _ h => h.elim)
                have h0 : V 0 = .int .i64 0 := HU.holds 0 (by decide)
                have tb60 : (Rg.putUse V [(0, 60)] fr).eval (.tmp 60) = .int .i64 0 := (Rg.use_eval V fr 60 [(0, 60)] (by simp only [hz]; decide)).trans h0
                show Rg.Does1 _ _ V (Rg.putUse V [(0, 60)] fr) w2 _
                exact Ob.rc_mv (.bool false) (by simp only [execOp, tb60]; go_simp) rfl rfl True.intro
              · intro V S w2 HM HU HE
                have lw : Below w4.heap.size w4 w2 := Rc.Mod.below HM (fun _ h => h.elim)
                have h1 : V 1 = .bool false := HU.holds 1 (by decide)
                have tb61 : (Rg.putUse V [(1, 61)] fr).eval (.tmp 61) = .bool false := (Rg.use_eval V fr 61 [(1, 61)] (by simp only [hz]; decide)).trans h1
                show Rg.Does1 _ _ V (Rg.putUse V [(1, 61)] fr) w2 _
                exact Ob.rc_mv (.bool false) (by simp only [execOp, tb61]; go_simp) rfl rfl True.intro
              · intro V S w2 HM HU HE
                have lw : Below w4.heap.size w4 w2 := Rc.Mod.below HM (fun _ h => h.elim)
                have h2 : V 2 = .bool false := HU.holds 2 (by decide)
                have tb9 : (Rg.putUse V [(2, 62)] fr).eval (.tmp 9) = .slice PA P.length pc := (Rg.use_eval V fr 9 [(2, 62)] (by simp only [hz]; decide)).trans y9
                show Rg.Does1 _ _ V (Rg.putUse V [(2, 62)] fr) w2 _
                exact Ob.rc_mv (.slice PA P.length pc) (by simp only [execOp, tb9]; go_simp) rfl rfl h2
              · intro V S w2 HM HU HE
                have lw : Below w4.heap.size w4 w2 := Rc.Mod.below HM (fun _ h => h.elim)
                have h2 : V 2 = .bool false := HU.holds 2 (by decide)
                have h3 : V 3 = .slice PA P.length pc := HU.holds 3 (by decide)
                have tb63 : (Rg.putUse V [(2, 62), (3, 63)] fr).eval (.tmp 63) = .slice PA P.length pc := (Rg.use_eval V fr 63 [(2, 62), (3, 63)] (by simp only [hz]; decide)).trans h3
                show Rg.Does1 _ _ V (Rg.putUse V [(2, 62), (3, 63)] fr) w2 _
                exact Ob.rc_mv (.int .i64 ((P.length : Nat) : Int)) (by simp only [execOp, resolve, List.map_toArray, List.map_cons, List.map_nil, tb63]; go_simp) rfl rfl h2
              · intro V S w2 HM HU HE
                have lw : Below w4.heap.size w4 w2 := Rc.Mod.below HM (fun _ h => h.elim)
                have h2 : V 2 = .bool false := HU.holds 2 (by decide)
                have h4 : V 4 = .int .i64 ((P.length : Nat) : Int) := HU.holds 4 (by decide)
                have tb64 : (Rg.putUse V [(2, 62), (4, 64)] fr).eval (.tmp 64) = .int .i64 ((P.length : Nat) : Int) := (Rg.use_eval V fr 64 [(2, 62), (4, 64)] (by simp only [hz]; decide)).trans h4
                show Rg.Does1 _ _ V (Rg.putUse V [(2, 62), (4, 64)] fr) w2 _
                exact Ob.rc_mv (.bool false) (by simp only [execOp, tb64]; go_simp; exact fun h => absurd hp0 (by rw [h]; simp)) rfl rfl h2
              · intro V S w2 HM HU HE
                have lw : Below w4.heap.size w4 w2 := Rc.Mod.below HM (fun _ h => h.elim)
                have h2 : V 2 = .bool false := HU.holds 2 (by decide)
                have tb62 : (Rg.putUse V [(2, 62), (5, 65)] fr).eval (.tmp 62) = .bool false := (Rg.use_eval V fr 62 [(2, 62), (5, 65)] (by simp only [hz]; decide)).trans h2
                have h5 : V 5 = .bool false := HU.holds 5 (by decide)
                have tb65 : (Rg.putUse V [(2, 62), (5, 65)] fr).eval (.tmp 65) = .bool false := (Rg.use_eval V fr 65 [(2, 62), (5, 65)] (by simp only [hz]; decide)).trans h5
                show Rg.Does1 _ _ V (Rg.putUse V [(2, 62), (5, 65)] fr) w2 _
                exact Ob.rc_mv (.bool false) (by simp only [execOp, tb62, tb65]; go_simp) rfl rfl True.intro
              · intro V S w2 HM HU HE
                have lw : Below w4.heap.size w4 w2 := Rc.Mod.below HM (fun _ h => h.elim)
                have h6 : V 6 = .bool false := HU.holds 6 (by decide)
                have tb66 : (Rg.putUse V [(6, 66)] fr).eval (.tmp 66) = .bool false := (Rg.use_eval V fr 66 [(6, 66)] (by simp only [hz]; decide)).trans h6
                show Rg.Does1 _ _ V (Rg.putUse V [(6, 66)] fr) w2 _
                exact Ob.rc_mv (.bool false) (by simp only [execOp, tb66]; go_simp) rfl rfl True.intro
              · intro V S w2 HM HU HE
                have lw : Below w4.heap.size w4 w2 := Rc.Mod.below HM (fun _ h => h.elim)
                have h7 : V 7 = .bool false := HU.holds 7 (by decide)
                have tb5 : (Rg.putUse V [(7, 67)] fr).eval (.tmp 5) = .slice A R.length c := (Rg.use_eval V fr 5 [(7, 67)] (by simp only [hz]; decide)).trans y5
                show Rg.Does1 _ _ V (Rg.putUse V [(7, 67)] fr) w2 _
                exact Ob.rc_mv (.slice A R.length c) (by simp only [execOp, tb5]; go_simp) rfl rfl h7
              · intro V S w2 HM HU HE
                have lw : Below w4.heap.size w4 w2 := Rc.Mod.below HM (fun _ h => h.elim)
                have h7 : V 7 = .bool false := HU.holds 7 (by decide)
                have h8 : V 8 = .slice A R.length c := HU.holds 8 (by decide)
                have tb68 : (Rg.putUse V [(7, 67), (8, 68)] fr).eval (.tmp 68) = .slice A R.length c := (Rg.use_eval V fr 68 [(7, 67), (8, 68)] (by simp only [hz]; decide)).trans h8
                show Rg.Does1 _ _ V (Rg.putUse V [(7, 67), (8, 68)] fr) w2 _
                exact step_hcall (Mk.pairOf Sh.sum (Mk.root Sh.sum L1) (Mk.root Sh.sum L2)) #[.slice A R.length c] (fun args w => Rg.call_enter Tryd.func9 (by kernel_rfl) (by kernel_rfl) args w) rfl (by simp only [List.map_toArray, List.map_cons, List.map_nil, tb68]) rfl (fun x => Rg.alias_none rfl V x) h7 (by have := pRoot _ w2 R A c rfl (HR4.out.below lw) hc HS.out (HK4.out.later lw); rw [HE2.out] at this; exact this)
              · intro V S w2 HM HU HE
                have lw : Below w4.heap.size w4 w2 := Rc.Mod.below HM (fun _ h => h.elim)
                have h7 : V 7 = .bool false := HU.holds 7 (by decide)
                obtain ⟨X9, k9, e9, hc9, hr9, hX9⟩ := HU.holds 9 (by decide)
                have tb69 : (Rg.putUse V [(7, 67), (9, 69)] fr).eval (.tmp 69) = .slice X9 (Mk.pairOf Sh.sum (Mk.root Sh.sum L1) (Mk.root Sh.sum L2)).length k9 := (Rg.use_eval V fr 69 [(7, 67), (9, 69)] (by simp only [hz]; decide)).trans e9
                show Rg.Does1 _ _ V (Rg.putUse V [(7, 67), (9, 69)] fr) w2 _
                exact Ob.rc_str (Mk.pairOf Sh.sum (Mk.root Sh.sum L1) (Mk.root Sh.sum L2)) rfl tb69 (by first | rfl | simp) hr9 rfl rfl h7
              · intro V S w2 HM HU HE
                have lw : Below w4.heap.size w4 w2 := Rc.Mod.below HM (fun _ h => h.elim)
                have h7 : V 7 = .bool false := HU.holds 7 (by decide)
                have tb7 : (Rg.putUse V [(7, 67)] fr).eval (.tmp 7) = .slice A1 (Mk.root Sh.sum L1).length c1 := (Rg.use_eval V fr 7 [(7, 67)] (by simp only [hz]; decide)).trans y7
                show Rg.Does1 _ _ V (Rg.putUse V [(7, 67)] fr) w2 _
                exact Ob.rc_mv (.slice A1 (Mk.root Sh.sum L1).length c1) (by simp only [execOp, tb7]; go_simp) rfl rfl h7
              · intro V S w2 HM HU HE
                have lw : Below w4.heap.size w4 w2 := Rc.Mod.below HM (fun _ h => h.elim)
                have h7 : V 7 = .bool false := HU.holds 7 (by decide)
                have tb8 : (Rg.putUse V [(7, 67)] fr).eval (.tmp 8) = .slice A2 (Mk.root Sh.sum L2).length c2 := (Rg.use_eval V fr 8 [(7, 67)] (by simp only [hz]; decide)).trans y8
                show Rg.Does1 _ _ V (Rg.putUse V [(7, 67)] fr) w2 _
                exact Ob.rc_mv (.slice A2 (Mk.root Sh.sum L2).length c2) (by simp only [execOp, tb8]; go_simp) rfl rfl h7
              · intro V S w2 HM HU HE
                have lw : Below w4.heap.size w4 w2 := Rc.Mod.below HM (fun _ h => h.elim)
                have h7 : V 7 = .bool false := HU.holds 7 (by decide)
                have h11 : V 11 = .slice A1 (Mk.root Sh.sum L1).length c1 := HU.holds 11 (by decide)
                have tb71 : (Rg.putUse V [(7, 67), (11, 71), (12, 72)] fr).eval (.tmp 71) = .slice A1 (Mk.root Sh.sum L1).length c1 := (Rg.use_eval V fr 71 [(7, 67), (11, 71), (12, 72)] (by simp only [hz]; decide)).trans h11
                have h12 : V 12 = .slice A2 (Mk.root Sh.sum L2).length c2 := HU.holds 12 (by decide)
                have tb72 : (Rg.putUse V [(7, 67), (11, 71), (12, 72)] fr).eval (.tmp 72) = .slice A2 (Mk.root Sh.sum L2).length c2 := (Rg.use_eval V fr 72 [(7, 67), (11, 71), (12, 72)] (by simp only [hz]; decide)).trans h12
                show Rg.Does1 _ _ V (Rg.putUse V [(7, 67), (11, 71), (12, 72)] fr) w2 _
                exact step_hcall (Mk.pairOf Sh.sum (Mk.root Sh.sum L1) (Mk.root Sh.sum L2)) #[.slice A1 (Mk.root Sh.sum L1).length c1, .slice A2 (Mk.root Sh.sum L2).length c2] (fun args w => Rg.call_enter Tryd.func25 (by kernel_rfl) (by kernel_rfl) args w) rfl (by simp only [List.map_toArray, List.map_cons, List.map_nil, tb71, tb72]) rfl (fun x => Rg.alias_none rfl V x) h7 (rPair w2 _ _ A1 A2 c1 c2 (HX1.out.below lw) hx1 (HX2.out.below lw) hx2 trivial (by rw [root_length]; omega) (by rw [root_length]; omega))
              · intro V S w2 HM HU HE
                have lw : Below w4.heap.size w4 w2 := Rc.Mod.below HM (fun _ h => h.elim)
                have h7 : V 7 = .bool false := HU.holds 7 (by decide)
                obtain ⟨X13, k13, e13, hc13, hr13, hX13⟩ := HU.holds 13 (by decide)
                have tb73 : (Rg.putUse V [(7, 67), (13, 73)] fr).eval (.tmp 73) = .slice X13 (Mk.pairOf Sh.sum (Mk.root Sh.sum L1) (Mk.root Sh.sum L2)).length k13 := (Rg.use_eval V fr 73 [(7, 67), (13, 73)] (by simp only [hz]; decide)).trans e13
                show Rg.Does1 _ _ V (Rg.putUse V [(7, 67), (13, 73)] fr) w2 _
                exact Ob.rc_str (Mk.pairOf Sh.sum (Mk.root Sh.sum L1) (Mk.root Sh.sum L2)) rfl tb73 (by first | rfl | simp) hr13 rfl rfl h7
              · intro V S w2 HM HU HE
                have lw : Below w4.heap.size w4 w2 := Rc.Mod.below HM (fun _ h => h.elim)
                have h7 : V 7 = .bool false := HU.holds 7 (by decide)
                have h10 : V 10 = .string (strOf (Mk.pairOf Sh.sum (Mk.root Sh.sum L1) (Mk.root Sh.sum L2))) := HU.holds 10 (by decide)
                have tb70 : (Rg.putUse V [(7, 67), (10, 70), (14, 74)] fr).eval (.tmp 70) = .string (strOf (Mk.pairOf Sh.sum (Mk.root Sh.sum L1) (Mk.root Sh.sum L2))) := (Rg.use_eval V fr 70 [(7, 67), (10, 70), (14, 74)] (by simp only [hz]; decide)).trans h10
                have h14 : V 14 = .string (strOf (Mk.pairOf Sh.sum (Mk.root Sh.sum L1) (Mk.root Sh.sum L2))) := HU.holds 14 (by decide)
                have tb74 : (Rg.putUse V [(7, 67), (10, 70), (14, 74)] fr).eval (.tmp 74) = .string (strOf (Mk.pairOf Sh.sum (Mk.root Sh.sum L1) (Mk.root Sh.sum L2))) := (Rg.use_eval V fr 74 [(7, 67), (10, 70), (14, 74)] (by simp only [hz]; decide)).trans h14
                show Rg.Does1 _ _ V (Rg.putUse V [(7, 67), (10, 70), (14, 74)] fr) w2 _
                exact Ob.rc_mv (.bool false) (by simp only [execOp, tb70, tb74]; go_simp) rfl rfl h7
              · intro V S w2 HM HU HE
                have lw : Below w4.heap.size w4 w2 := Rc.Mod.below HM (fun _ h => h.elim)
                have h7 : V 7 = .bool false := HU.holds 7 (by decide)
                have tb67 : (Rg.putUse V [(7, 67), (15, 75)] fr).eval (.tmp 67) = .bool false := (Rg.use_eval V fr 67 [(7, 67), (15, 75)] (by simp only [hz]; decide)).trans h7
                have h15 : V 15 = .bool false := HU.holds 15 (by decide)
                have tb75 : (Rg.putUse V [(7, 67), (15, 75)] fr).eval (.tmp 75) = .bool false := (Rg.use_eval V fr 75 [(7, 67), (15, 75)] (by simp only [hz]; decide)).trans h15
                show Rg.Does1 _ _ V (Rg.putUse V [(7, 67), (15, 75)] fr) w2 _
                exact Ob.rc_mv (.bool false) (by simp only [execOp, tb67, tb75]; go_simp) rfl rfl True.intro
            · intro V S w2 HI
              have HL2 : Hid (Below w4.heap.size w4 w2) := Rc.Mod.below HI.mod.undrew (fun _ h => h.elim)
              have hw16 : V 16 = .bool false := HI.get 16 (by decide) (by rfl)
              simp only [Rg.putList, Act.put, List.setIfInBounds_toArray, List.set_cons_zero, List.set_cons_succ, Nat.zero_add, Nat.reduceAdd]
              rw [hw16]
              clear HI hw16
              obtain ⟨w6, hw6⟩ : ∃ w6, w6 = w2 := ⟨_, rfl⟩
              rw [← hw6] at HL2
              rw [← hw6]
              clear hw6
              have HX1b : Hid (Rd w6 A1 (Mk.root Sh.sum L1)) := HX1.out.below HL2.out
              have HX2b : Hid (Rd w6 A2 (Mk.root Sh.sum L2)) := HX2.out.below HL2.out
              have HP6 : Hid (RdL w6 PA P) := HP4.out.below HL2.out
              have HB6 : Hid (Below w.heap.size w w6) := HB4.out.trans (HL2.out.mono HB4.out.size)
              have HK6 : Hid (KP w6) := HK4.out.later HL2.out
              clear HL2 HX1 HX2 HP4 HB4
              by_cases hik : k < p
              · skip
                obtain ⟨PQ, hPQ⟩ : ∃ PQ, P = PQ ++ [Mk.root Sh.sum L2] := ⟨_, HPE.out.trans (HPL2.out k hik)⟩
                obtain ⟨m, hm⟩ : ∃ m, m = PQ.length := ⟨_, rfl⟩
                have hPl : P.length = m + 1 := by rw [hPQ, List.length_append, hm]; rfl
                obtain ⟨b, off, u, UA, uc, rfl, hu, hcell, huc, hur⟩ := HP6.out.at_ m (by omega)
                obtain rfl : u = Mk.root Sh.sum L2 := by
                  rw [hPQ, hm, List.getElem?_append_right (Nat.le_refl _), Nat.sub_self] at hu
                  simpa using hu.symm
                have HU6 := Lib.hid hur
                have hmb : m ≤ 1000 := by omega
                rw [hPl]
                clear hPQ hm hPl hu hur HPE
                
                have e1 := Ob.str_run w6 UA _ uc HU6.out
                have e2 := Ob.str_run w6 A2 _ c2 HX2b.out
                have e3 := strOf_toList (Mk.root Sh.sum L2) (Mk.root Sh.sum L2)
                rw [decide_eq_true rfl] at e3
                go_wp2_with fail
                refine (known_any _ HK6.out).mono ?_
                rintro e wk ⟨rfl, hb⟩
                have HBK : Hid (Below w.heap.size w wk) := HB6.out.trans (hb.mono HB6.out.size)
                clear hb
                go_wp2_with fail
                go_ret
                exact ⟨rfl, HBK.out⟩
              · skip
                obtain ⟨PQ, hPQ⟩ : ∃ PQ, P = PQ ++ [Mk.root Sh.sum L1] := ⟨_, HPE.out.trans (HPR2.out k hik)⟩
                obtain ⟨m, hm⟩ : ∃ m, m = PQ.length := ⟨_, rfl⟩
                have hPl : P.length = m + 1 := by rw [hPQ, List.length_append, hm]; rfl
                obtain ⟨b, off, u, UA, uc, rfl, hu, hcell, huc, hur⟩ := HP6.out.at_ m (by omega)
                obtain rfl : u = Mk.root Sh.sum L1 := by
                  rw [hPQ, hm, List.getElem?_append_right (Nat.le_refl _), Nat.sub_self] at hu
                  simpa using hu.symm
                have HU6 := Lib.hid hur
                have hmb : m ≤ 1000 := by omega
                rw [hPl]
                clear hPQ hm hPl hu hur HPE
                
                have e1 := Ob.str_run w6 UA _ uc HU6.out
                have e2 := Ob.str_run w6 A1 _ c1 HX1b.out
                have e3 := strOf_toList (Mk.root Sh.sum L1) (Mk.root Sh.sum L1)
                rw [decide_eq_true rfl] at e3
                go_wp2_with fail
                refine (known_any _ HK6.out).mono ?_
                rintro e wk ⟨rfl, hb⟩
                have HBK : Hid (Below w.heap.size w wk) := HB6.out.trans (hb.mono HB6.out.size)
                clear hb
                go_wp2_with fail
                go_ret
                exact ⟨rfl, HBK.out⟩
end Go.Proofs.YtjeclmbableacaaDoor
