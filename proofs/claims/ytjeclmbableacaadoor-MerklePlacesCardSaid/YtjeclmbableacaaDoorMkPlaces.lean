/-
  OWN WORK. The law MerklePlaces, walked.
-/
import Derived.Test.YtjeclmbableacaaDoorMkKnown
import Derived.Test.YtjeclmbableacaaDoorMkCheckR
import Derived.Test.YtjeclmbableacaaDoorMkPathR
import Derived.Test.YtjeclmbableacaaDoorMkLen
import Derived.Test.YtjeclmbableacaaDoorBaWithin
namespace Go.Proofs.YtjeclmbableacaaDoor
open Go.RowKit Rc

set_option maxHeartbeats 8000000 in
set_option maxRecDepth 100000 in
theorem places_any (w : World) (L0 : List (List UInt8)) (A0 : Option Addr) (c0 : Nat) (i : Int) (j : Int) (hr0 : RdL w A0 L0) (hl0 : ∀ y, y ∈ L0 → y.length ≤ 9223372036854775807) (hn0 : L0.length ≤ 9223372036854775807) (hk0 : KP w) (hi : -9223372036854775808 ≤ i ∧ i ≤ 9223372036854775807) (hj : -9223372036854775808 ≤ j ∧ j ≤ 9223372036854775807) :
    Calls Tryd.prog 8 #[.slice A0 L0.length c0, .int .i64 i, .int .i64 j] w fun e w' => e = .returned (.bool true) ∧ Below w.heap.size w w' := by
  have HK0 := Lib.hid hk0
  have HR0 := Lib.hid hr0
  have HL0 := Lib.hid hl0
  have HN0 := Lib.hid hn0
  obtain ⟨i1, i2⟩ := hi
  have HI1 := Lib.hid i1
  have HI2 := Lib.hid i2
  obtain ⟨j1, j2⟩ := hj
  have HJ1 := Lib.hid j1
  have HJ2 := Lib.hid j2
  clear hk0 hr0 hl0 hn0 i1 i2 j1 j2
  go_enter Tryd.func8, Tryd.ntmps8
  go_wp2_with fail
  refine (few_any w L0 A0 c0 HR0.out HL0.out HN0.out).mono ?_
  rintro e w1 ⟨v, R, rfl, hf, h40, hrow, hb⟩
  obtain ⟨A, c, rfl, hc, hrd⟩ := hf.form hb
  have HR1 := Lib.hid hrd
  have HB1 := Lib.hid hb
  have HROW := Lib.hid hrow
  have HS : Hid (Small R) := ⟨by omega, fun y hy => by have := hrow y hy; omega⟩
  have HK1 : Hid (KP w1) := HK0.out.later HB1.out
  clear hf hrd hb hrow HR0 HL0 HN0
  by_cases h0 : R.length = 0
  · rw [h0]
    clear h0 h40 hc
    go_wp2_with fail
    refine (known_any _ HK1.out).mono ?_
    rintro e wk ⟨rfl, hb⟩
    have HBK : Hid (Below w.heap.size w wk) := HB1.out.trans (hb.mono HB1.out.size)
    clear hb
    go_wp2_with fail
    go_ret
    exact ⟨rfl, HBK.out⟩
  · skip
    go_wp2_with fail
    refine (within_to i _ (R.length - 1) w1 (by omega) (by omega) HI1.out HI2.out).mono ?_
    rintro e w2 ⟨k, hk, rfl, rfl⟩
    go_wp2_with fail
    refine (within_to j _ (R.length - 1) w1 (by omega) (by omega) HJ1.out HJ2.out).mono ?_
    rintro e w2 ⟨q, hq, rfl, rfl⟩
    have hk2 : k < R.length := by omega
    have hq2 : q < R.length := by omega
    clear hk hq
    go_wp2_with fail
    refine (pPath_in w1 R A c k HR1.out hc HS.out HK1.out hk2).mono ?_
    rintro e w2 ⟨x, rfl, hx, hb⟩
    obtain ⟨PA, pc, rfl, hpc, hpr⟩ := hx.form
    have HR2 : Hid (RdL w2 A R) := HR1.out.below hb
    have HB2 : Hid (Below w.heap.size w w2) := HB1.out.trans (hb.mono HB1.out.size)
    have HK2 : Hid (KP w2) := HK1.out.later hb
    obtain ⟨P, hP⟩ : ∃ P, P = Mk.path Sh.sum R k := ⟨_, rfl⟩
    rw [← hP] at hpr hpc
    rw [← hP]
    have HP2 := Lib.hid hpr
    have HPE := Lib.hid hP
    have hpl : P.length ≤ 6 := by rw [hP]; exact Mk.path_length Sh.sum 6 R k (by omega)
    have HSP : Hid (Small P) := ⟨by omega, fun y hy => by rw [path_mem R k y (hP ▸ hy)]; omega⟩
    clear hx hb hpr hP
    go_wp2_with fail
    refine (pRoot _ w2 R A c rfl HR2.out hc HS.out HK2.out).mono ?_
    rintro e w4 ⟨v, rfl, ⟨RA, rc, rfl, hrc, hrr, _⟩, hb⟩
    have HR4 : Hid (RdL w4 A R) := HR2.out.below hb
    have HB4 : Hid (Below w.heap.size w w4) := HB2.out.trans (hb.mono HB2.out.size)
    have HK4 : Hid (KP w4) := HK2.out.later hb
    have HP4 : Hid (RdL w4 PA P) := HP2.out.below hb
    have HRR4 := Lib.hid hrr
    obtain ⟨b, off, y, YA, yc, rfl, hy, hcell, hyc, hyr⟩ := HR4.out.at_ k hk2
    obtain ⟨b2, off2, z, ZA, zc, e2, hz, hcell2, hzc, hzr⟩ := HR4.out.at_ q hq2
    injection e2 with e2
    injection e2 with e2 e3
    subst e2 e3
    have HY := Lib.hid hyr
    have HZ := Lib.hid hzr
    have hyl : y.length ≤ 40 := HROW.out y (List.mem_of_getElem? hy)
    have hzl : z.length ≤ 40 := HROW.out z (List.mem_of_getElem? hz)
    have HCK : Hid (chk (Mk.root Sh.sum R) y k R.length P = true) := by
      show _ = _
      rw [HPE.out]
      refine decide_eq_true ⟨by omega, by omega, ?_⟩
      rw [Int.toNat_natCast, Int.toNat_natCast]
      exact Mk.climb_path Sh.sum R.length R k y (Nat.le_refl _) hy
    have HBL : Hid (b < w4.heap.size) := World.block_lt_of_cell? w4 ⟨b, _, none⟩ hcell
    have HONE : Hid (R.length = 1 → y = z) := fun h1 => by
      have a1 : k = 0 := by omega
      have a2 : q = 0 := by omega
      rw [a1] at hy
      rw [a2] at hz
      rw [hy] at hz
      exact Option.some.inj hz
    have k0 : (0 : Int) ≤ (k : Int) := by omega
    have k1 : (k : Int) < (R.length : Int) := by omega
    have q0 : (0 : Int) ≤ (q : Int) := by omega
    have q1 : (q : Int) < (R.length : Int) := by omega
    clear hb hrr hyr hzr hy hz HR1 HR2 HP2 HB1 HB2 HK1 HK2
    by_cases hyz : y = z
    · subst hyz
      go_wp2_with fail
      go_upto_region 9 with (fail)
      refine Rc.wp_region (by kernel_rfl) (fun opn => List.getD [Rc.val (.slice (some ⟨b, off, none⟩) R.length c), Rc.val (.int .i64 ((k : Nat) : Int)), Rc.val (.pointer (some ⟨b, off + k, none⟩)), Rc.val (.slice YA y.length yc), Rc.val (.string (strOf (y))), Rc.val (.slice (some ⟨b, off, none⟩) R.length c), Rc.val (.int .i64 ((q : Nat) : Int)), Rc.val (.pointer (some ⟨b, off + q, none⟩)), Rc.val (.slice ZA y.length zc), Rc.val (.string (strOf (y))), Rc.val (.bool true)] opn Rc.any) 0 [] [[], [], [(0, 37), (1, 38)], [(2, 39)], [(3, 40)], [], [], [(5, 42), (6, 43)], [(7, 44)], [(8, 45)], [(4, 41), (9, 46)]] [[], [], [0, 1], [0, 1, 2], [0, 1, 2, 3], [], [], [5, 6], [5, 6, 7], [5, 6, 7, 8], [0, 1, 2, 3, 4, 5, 6, 7, 8, 9]] [[], [], [0, 1], [2], [3], [], [], [5, 6], [7], [8], [4, 9]] [] (by kernel_rfl) (by rfl) (by kernel_rfl) (fun _ => False) (fun _ _ => False) Rc.Inv.none ?_ ?_
      · intro fr ha
        have hz : fr.tmps.size = 138 := by rw [ha]; rfl
        have y1 : fr.eval (.tmp 1) = .int .i64 ((k : Nat) : Int) := by rw [ha]; rfl
        have y2 : fr.eval (.tmp 2) = .int .i64 ((q : Nat) : Int) := by rw [ha]; rfl
        have y7 : fr.eval (.tmp 7) = .slice (some ⟨b, off, none⟩) R.length c := by rw [ha]; rfl
        clear ha
        refine .cons ?_ (.cons ?_ (.cons ?_ (.cons ?_ (.cons ?_ (.cons ?_ (.cons ?_ (.cons ?_ (.cons ?_ (.cons ?_ (.cons ?_ (.nil)))))))))))
        · intro V S w2 HM HU HE
          have lw : Below w4.heap.size w4 w2 := Rc.Mod.below HM (fun _ h => h.elim)
          have tb7 : (Rg.putUse V [] fr).eval (.tmp 7) = .slice (some ⟨b, off, none⟩) R.length c := (Rg.use_eval V fr 7 [] (by simp only [hz]; decide)).trans y7
          show Rg.Does1 _ _ V (Rg.putUse V [] fr) w2 _
          exact Ob.rc_mv (.slice (some ⟨b, off, none⟩) R.length c) (by simp only [execOp, tb7]; go_simp) rfl rfl True.intro
        · intro V S w2 HM HU HE
          have lw : Below w4.heap.size w4 w2 := Rc.Mod.below HM (fun _ h => h.elim)
          have tb1 : (Rg.putUse V [] fr).eval (.tmp 1) = .int .i64 ((k : Nat) : Int) := (Rg.use_eval V fr 1 [] (by simp only [hz]; decide)).trans y1
          show Rg.Does1 _ _ V (Rg.putUse V [] fr) w2 _
          exact Ob.rc_mv (.int .i64 ((k : Nat) : Int)) (by simp only [execOp, tb1]; go_simp) rfl rfl True.intro
        · intro V S w2 HM HU HE
          have lw : Below w4.heap.size w4 w2 := Rc.Mod.below HM (fun _ h => h.elim)
          have h0 : V 0 = .slice (some ⟨b, off, none⟩) R.length c := HU.holds 0 (by decide)
          have tb37 : (Rg.putUse V [(0, 37), (1, 38)] fr).eval (.tmp 37) = .slice (some ⟨b, off, none⟩) R.length c := (Rg.use_eval V fr 37 [(0, 37), (1, 38)] (by simp only [hz]; decide)).trans h0
          have h1 : V 1 = .int .i64 ((k : Nat) : Int) := HU.holds 1 (by decide)
          have tb38 : (Rg.putUse V [(0, 37), (1, 38)] fr).eval (.tmp 38) = .int .i64 ((k : Nat) : Int) := (Rg.use_eval V fr 38 [(0, 37), (1, 38)] (by simp only [hz]; decide)).trans h1
          show Rg.Does1 _ _ V (Rg.putUse V [(0, 37), (1, 38)] fr) w2 _
          exact Ob.rc_mv (.pointer (some ⟨b, off + k, none⟩)) (by simp only [execOp, tb37, tb38]; go_simp; try (intro h; exfalso; omega)) rfl rfl True.intro
        · intro V S w2 HM HU HE
          have lw : Below w4.heap.size w4 w2 := Rc.Mod.below HM (fun _ h => h.elim)
          have h2 : V 2 = .pointer (some ⟨b, off + k, none⟩) := HU.holds 2 (by decide)
          have tb39 : (Rg.putUse V [(2, 39)] fr).eval (.tmp 39) = .pointer (some ⟨b, off + k, none⟩) := (Rg.use_eval V fr 39 [(2, 39)] (by simp only [hz]; decide)).trans h2
          show Rg.Does1 _ _ V (Rg.putUse V [(2, 39)] fr) w2 _
          have cu := (lw.cell (p := ⟨b, off + k, none⟩) HBL.out).trans hcell
          exact Ob.rc_mv (.slice YA y.length yc) (by simp only [execOp, tb39]; go_simp) rfl rfl True.intro
        · intro V S w2 HM HU HE
          have lw : Below w4.heap.size w4 w2 := Rc.Mod.below HM (fun _ h => h.elim)
          have h3 : V 3 = .slice YA y.length yc := HU.holds 3 (by decide)
          have tb40 : (Rg.putUse V [(3, 40)] fr).eval (.tmp 40) = .slice YA y.length yc := (Rg.use_eval V fr 40 [(3, 40)] (by simp only [hz]; decide)).trans h3
          show Rg.Does1 _ _ V (Rg.putUse V [(3, 40)] fr) w2 _
          exact Ob.rc_str (y) rfl tb40 (by first | rfl | simp) (HY.out.below lw) rfl rfl True.intro
        · intro V S w2 HM HU HE
          have lw : Below w4.heap.size w4 w2 := Rc.Mod.below HM (fun _ h => h.elim)
          have tb7 : (Rg.putUse V [] fr).eval (.tmp 7) = .slice (some ⟨b, off, none⟩) R.length c := (Rg.use_eval V fr 7 [] (by simp only [hz]; decide)).trans y7
          show Rg.Does1 _ _ V (Rg.putUse V [] fr) w2 _
          exact Ob.rc_mv (.slice (some ⟨b, off, none⟩) R.length c) (by simp only [execOp, tb7]; go_simp) rfl rfl True.intro
        · intro V S w2 HM HU HE
          have lw : Below w4.heap.size w4 w2 := Rc.Mod.below HM (fun _ h => h.elim)
          have tb2 : (Rg.putUse V [] fr).eval (.tmp 2) = .int .i64 ((q : Nat) : Int) := (Rg.use_eval V fr 2 [] (by simp only [hz]; decide)).trans y2
          show Rg.Does1 _ _ V (Rg.putUse V [] fr) w2 _
          exact Ob.rc_mv (.int .i64 ((q : Nat) : Int)) (by simp only [execOp, tb2]; go_simp) rfl rfl True.intro
        · intro V S w2 HM HU HE
          have lw : Below w4.heap.size w4 w2 := Rc.Mod.below HM (fun _ h => h.elim)
          have h5 : V 5 = .slice (some ⟨b, off, none⟩) R.length c := HU.holds 5 (by decide)
          have tb42 : (Rg.putUse V [(5, 42), (6, 43)] fr).eval (.tmp 42) = .slice (some ⟨b, off, none⟩) R.length c := (Rg.use_eval V fr 42 [(5, 42), (6, 43)] (by simp only [hz]; decide)).trans h5
          have h6 : V 6 = .int .i64 ((q : Nat) : Int) := HU.holds 6 (by decide)
          have tb43 : (Rg.putUse V [(5, 42), (6, 43)] fr).eval (.tmp 43) = .int .i64 ((q : Nat) : Int) := (Rg.use_eval V fr 43 [(5, 42), (6, 43)] (by simp only [hz]; decide)).trans h6
          show Rg.Does1 _ _ V (Rg.putUse V [(5, 42), (6, 43)] fr) w2 _
          exact Ob.rc_mv (.pointer (some ⟨b, off + q, none⟩)) (by simp only [execOp, tb42, tb43]; go_simp; try (intro h; exfalso; omega)) rfl rfl True.intro
        · intro V S w2 HM HU HE
          have lw : Below w4.heap.size w4 w2 := Rc.Mod.below HM (fun _ h => h.elim)
          have h7 : V 7 = .pointer (some ⟨b, off + q, none⟩) := HU.holds 7 (by decide)
          have tb44 : (Rg.putUse V [(7, 44)] fr).eval (.tmp 44) = .pointer (some ⟨b, off + q, none⟩) := (Rg.use_eval V fr 44 [(7, 44)] (by simp only [hz]; decide)).trans h7
          show Rg.Does1 _ _ V (Rg.putUse V [(7, 44)] fr) w2 _
          have cu := (lw.cell (p := ⟨b, off + q, none⟩) HBL.out).trans hcell2
          exact Ob.rc_mv (.slice ZA y.length zc) (by simp only [execOp, tb44]; go_simp) rfl rfl True.intro
        · intro V S w2 HM HU HE
          have lw : Below w4.heap.size w4 w2 := Rc.Mod.below HM (fun _ h => h.elim)
          have h8 : V 8 = .slice ZA y.length zc := HU.holds 8 (by decide)
          have tb45 : (Rg.putUse V [(8, 45)] fr).eval (.tmp 45) = .slice ZA y.length zc := (Rg.use_eval V fr 45 [(8, 45)] (by simp only [hz]; decide)).trans h8
          show Rg.Does1 _ _ V (Rg.putUse V [(8, 45)] fr) w2 _
          exact Ob.rc_str (y) rfl tb45 (by first | rfl | simp) (HZ.out.below lw) rfl rfl True.intro
        · intro V S w2 HM HU HE
          have lw : Below w4.heap.size w4 w2 := Rc.Mod.below HM (fun _ h => h.elim)
          have h4 : V 4 = .string (strOf (y)) := HU.holds 4 (by decide)
          have tb41 : (Rg.putUse V [(4, 41), (9, 46)] fr).eval (.tmp 41) = .string (strOf (y)) := (Rg.use_eval V fr 41 [(4, 41), (9, 46)] (by simp only [hz]; decide)).trans h4
          have h9 : V 9 = .string (strOf (y)) := HU.holds 9 (by decide)
          have tb46 : (Rg.putUse V [(4, 41), (9, 46)] fr).eval (.tmp 46) = .string (strOf (y)) := (Rg.use_eval V fr 46 [(4, 41), (9, 46)] (by simp only [hz]; decide)).trans h9
          show Rg.Does1 _ _ V (Rg.putUse V [(4, 41), (9, 46)] fr) w2 _
          exact Ob.rc_mv (.bool true) (by simp only [execOp, tb41, tb46]; go_simp) rfl rfl True.intro
      · intro V S w2 HI
        have HL2 : Hid (Below w4.heap.size w4 w2) := Rc.Mod.below HI.mod.undrew (fun _ h => h.elim)
        have hw10 : V 10 = .bool true := HI.get 10 (by decide) (by rfl)
        simp only [Rg.putList, Act.put, List.setIfInBounds_toArray, List.set_cons_zero, List.set_cons_succ, Nat.zero_add, Nat.reduceAdd]
        rw [hw10]
        clear HI hw10
        obtain ⟨w5, hww5⟩ : ∃ x, x = w2 := ⟨_, rfl⟩
        rw [← hww5] at HL2
        rw [← hww5]
        clear hww5
        have HR5 : Hid (RdL w5 (some ⟨b, off, none⟩) R) := HR4.out.below HL2.out
        have HB5 : Hid (Below w.heap.size w w5) := HB4.out.trans (HL2.out.mono HB4.out.size)
        have HK5 : Hid (KP w5) := HK4.out.later HL2.out
        have HP5 : Hid (RdL w5 PA P) := HP4.out.below HL2.out
        have HRR5 : Hid (Rd w5 RA (Mk.root Sh.sum R)) := HRR4.out.below HL2.out
        have HY5 : Hid (Rd w5 YA y) := HY.out.below HL2.out
        have HZ5 : Hid (Rd w5 ZA y) := HZ.out.below HL2.out
        have hcell_5 : w5.cell? ⟨b, off + k, none⟩ = some (.slice YA y.length yc) := (HL2.out.cell (p := ⟨b, off + k, none⟩) HBL.out).trans hcell
        have hcell2_5 : w5.cell? ⟨b, off + q, none⟩ = some (.slice ZA y.length zc) := (HL2.out.cell (p := ⟨b, off + q, none⟩) HBL.out).trans hcell2
        have HBL5 : Hid (b < w5.heap.size) := Nat.lt_of_lt_of_le HBL.out HL2.out.size
        clear HL2 HR4 HB4 HK4 HP4 HRR4 HY HZ hcell hcell2 HBL
        go_wp2_with fail
        refine (pCheck w5 (Mk.root Sh.sum R) y RA ZA rc zc k R.length P PA pc (by omega) (by omega) HRR5.out HZ5.out hzc (by omega) HP5.out hpc HSP.out (by omega) HK5.out).mono ?_
        rintro e w6 ⟨rfl, hb⟩
        rw [HCK.out]
        have HB6 : Hid (Below w.heap.size w w6) := HB5.out.trans (hb.mono HB5.out.size)
        have HK6 : Hid (KP w6) := HK5.out.later hb
        clear hb
        go_wp2_with fail
        refine (known_any _ HK6.out).mono ?_
        rintro e wk ⟨rfl, hb⟩
        have HBK : Hid (Below w.heap.size w wk) := HB6.out.trans (hb.mono HB6.out.size)
        clear hb
        go_wp2_with fail
        go_ret
        exact ⟨rfl, HBK.out⟩
    · have hsne := strOf_toList y z
      rw [decide_eq_false hyz] at hsne
      go_wp2_with fail
      go_upto_region 9 with (fail)
      refine Rc.wp_region (by kernel_rfl) (fun opn => List.getD [Rc.val (.slice (some ⟨b, off, none⟩) R.length c), Rc.val (.int .i64 ((k : Nat) : Int)), Rc.val (.pointer (some ⟨b, off + k, none⟩)), Rc.val (.slice YA y.length yc), Rc.val (.string (strOf (y))), Rc.val (.slice (some ⟨b, off, none⟩) R.length c), Rc.val (.int .i64 ((q : Nat) : Int)), Rc.val (.pointer (some ⟨b, off + q, none⟩)), Rc.val (.slice ZA z.length zc), Rc.val (.string (strOf (z))), Rc.val (.bool false)] opn Rc.any) 0 [] [[], [], [(0, 37), (1, 38)], [(2, 39)], [(3, 40)], [], [], [(5, 42), (6, 43)], [(7, 44)], [(8, 45)], [(4, 41), (9, 46)]] [[], [], [0, 1], [0, 1, 2], [0, 1, 2, 3], [], [], [5, 6], [5, 6, 7], [5, 6, 7, 8], [0, 1, 2, 3, 4, 5, 6, 7, 8, 9]] [[], [], [0, 1], [2], [3], [], [], [5, 6], [7], [8], [4, 9]] [] (by kernel_rfl) (by rfl) (by kernel_rfl) (fun _ => False) (fun _ _ => False) Rc.Inv.none ?_ ?_
      · intro fr ha
        have hz : fr.tmps.size = 138 := by rw [ha]; rfl
        have y1 : fr.eval (.tmp 1) = .int .i64 ((k : Nat) : Int) := by rw [ha]; rfl
        have y2 : fr.eval (.tmp 2) = .int .i64 ((q : Nat) : Int) := by rw [ha]; rfl
        have y7 : fr.eval (.tmp 7) = .slice (some ⟨b, off, none⟩) R.length c := by rw [ha]; rfl
        clear ha
        refine .cons ?_ (.cons ?_ (.cons ?_ (.cons ?_ (.cons ?_ (.cons ?_ (.cons ?_ (.cons ?_ (.cons ?_ (.cons ?_ (.cons ?_ (.nil)))))))))))
        · intro V S w2 HM HU HE
          have lw : Below w4.heap.size w4 w2 := Rc.Mod.below HM (fun _ h => h.elim)
          have tb7 : (Rg.putUse V [] fr).eval (.tmp 7) = .slice (some ⟨b, off, none⟩) R.length c := (Rg.use_eval V fr 7 [] (by simp only [hz]; decide)).trans y7
          show Rg.Does1 _ _ V (Rg.putUse V [] fr) w2 _
          exact Ob.rc_mv (.slice (some ⟨b, off, none⟩) R.length c) (by simp only [execOp, tb7]; go_simp) rfl rfl True.intro
        · intro V S w2 HM HU HE
          have lw : Below w4.heap.size w4 w2 := Rc.Mod.below HM (fun _ h => h.elim)
          have tb1 : (Rg.putUse V [] fr).eval (.tmp 1) = .int .i64 ((k : Nat) : Int) := (Rg.use_eval V fr 1 [] (by simp only [hz]; decide)).trans y1
          show Rg.Does1 _ _ V (Rg.putUse V [] fr) w2 _
          exact Ob.rc_mv (.int .i64 ((k : Nat) : Int)) (by simp only [execOp, tb1]; go_simp) rfl rfl True.intro
        · intro V S w2 HM HU HE
          have lw : Below w4.heap.size w4 w2 := Rc.Mod.below HM (fun _ h => h.elim)
          have h0 : V 0 = .slice (some ⟨b, off, none⟩) R.length c := HU.holds 0 (by decide)
          have tb37 : (Rg.putUse V [(0, 37), (1, 38)] fr).eval (.tmp 37) = .slice (some ⟨b, off, none⟩) R.length c := (Rg.use_eval V fr 37 [(0, 37), (1, 38)] (by simp only [hz]; decide)).trans h0
          have h1 : V 1 = .int .i64 ((k : Nat) : Int) := HU.holds 1 (by decide)
          have tb38 : (Rg.putUse V [(0, 37), (1, 38)] fr).eval (.tmp 38) = .int .i64 ((k : Nat) : Int) := (Rg.use_eval V fr 38 [(0, 37), (1, 38)] (by simp only [hz]; decide)).trans h1
          show Rg.Does1 _ _ V (Rg.putUse V [(0, 37), (1, 38)] fr) w2 _
          exact Ob.rc_mv (.pointer (some ⟨b, off + k, none⟩)) (by simp only [execOp, tb37, tb38]; go_simp; try (intro h; exfalso; omega)) rfl rfl True.intro
        · intro V S w2 HM HU HE
          have lw : Below w4.heap.size w4 w2 := Rc.Mod.below HM (fun _ h => h.elim)
          have h2 : V 2 = .pointer (some ⟨b, off + k, none⟩) := HU.holds 2 (by decide)
          have tb39 : (Rg.putUse V [(2, 39)] fr).eval (.tmp 39) = .pointer (some ⟨b, off + k, none⟩) := (Rg.use_eval V fr 39 [(2, 39)] (by simp only [hz]; decide)).trans h2
          show Rg.Does1 _ _ V (Rg.putUse V [(2, 39)] fr) w2 _
          have cu := (lw.cell (p := ⟨b, off + k, none⟩) HBL.out).trans hcell
          exact Ob.rc_mv (.slice YA y.length yc) (by simp only [execOp, tb39]; go_simp) rfl rfl True.intro
        · intro V S w2 HM HU HE
          have lw : Below w4.heap.size w4 w2 := Rc.Mod.below HM (fun _ h => h.elim)
          have h3 : V 3 = .slice YA y.length yc := HU.holds 3 (by decide)
          have tb40 : (Rg.putUse V [(3, 40)] fr).eval (.tmp 40) = .slice YA y.length yc := (Rg.use_eval V fr 40 [(3, 40)] (by simp only [hz]; decide)).trans h3
          show Rg.Does1 _ _ V (Rg.putUse V [(3, 40)] fr) w2 _
          exact Ob.rc_str (y) rfl tb40 (by first | rfl | simp) (HY.out.below lw) rfl rfl True.intro
        · intro V S w2 HM HU HE
          have lw : Below w4.heap.size w4 w2 := Rc.Mod.below HM (fun _ h => h.elim)
          have tb7 : (Rg.putUse V [] fr).eval (.tmp 7) = .slice (some ⟨b, off, none⟩) R.length c := (Rg.use_eval V fr 7 [] (by simp only [hz]; decide)).trans y7
          show Rg.Does1 _ _ V (Rg.putUse V [] fr) w2 _
          exact Ob.rc_mv (.slice (some ⟨b, off, none⟩) R.length c) (by simp only [execOp, tb7]; go_simp) rfl rfl True.intro
        · intro V S w2 HM HU HE
          have lw : Below w4.heap.size w4 w2 := Rc.Mod.below HM (fun _ h => h.elim)
          have tb2 : (Rg.putUse V [] fr).eval (.tmp 2) = .int .i64 ((q : Nat) : Int) := (Rg.use_eval V fr 2 [] (by simp only [hz]; decide)).trans y2
          show Rg.Does1 _ _ V (Rg.putUse V [] fr) w2 _
          exact Ob.rc_mv (.int .i64 ((q : Nat) : Int)) (by simp only [execOp, tb2]; go_simp) rfl rfl True.intro
        · intro V S w2 HM HU HE
          have lw : Below w4.heap.size w4 w2 := Rc.Mod.below HM (fun _ h => h.elim)
          have h5 : V 5 = .slice (some ⟨b, off, none⟩) R.length c := HU.holds 5 (by decide)
          have tb42 : (Rg.putUse V [(5, 42), (6, 43)] fr).eval (.tmp 42) = .slice (some ⟨b, off, none⟩) R.length c := (Rg.use_eval V fr 42 [(5, 42), (6, 43)] (by simp only [hz]; decide)).trans h5
          have h6 : V 6 = .int .i64 ((q : Nat) : Int) := HU.holds 6 (by decide)
          have tb43 : (Rg.putUse V [(5, 42), (6, 43)] fr).eval (.tmp 43) = .int .i64 ((q : Nat) : Int) := (Rg.use_eval V fr 43 [(5, 42), (6, 43)] (by simp only [hz]; decide)).trans h6
          show Rg.Does1 _ _ V (Rg.putUse V [(5, 42), (6, 43)] fr) w2 _
          exact Ob.rc_mv (.pointer (some ⟨b, off + q, none⟩)) (by simp only [execOp, tb42, tb43]; go_simp; try (intro h; exfalso; omega)) rfl rfl True.intro
        · intro V S w2 HM HU HE
          have lw : Below w4.heap.size w4 w2 := Rc.Mod.below HM (fun _ h => h.elim)
          have h7 : V 7 = .pointer (some ⟨b, off + q, none⟩) := HU.holds 7 (by decide)
          have tb44 : (Rg.putUse V [(7, 44)] fr).eval (.tmp 44) = .pointer (some ⟨b, off + q, none⟩) := (Rg.use_eval V fr 44 [(7, 44)] (by simp only [hz]; decide)).trans h7
          show Rg.Does1 _ _ V (Rg.putUse V [(7, 44)] fr) w2 _
          have cu := (lw.cell (p := ⟨b, off + q, none⟩) HBL.out).trans hcell2
          exact Ob.rc_mv (.slice ZA z.length zc) (by simp only [execOp, tb44]; go_simp) rfl rfl True.intro
        · intro V S w2 HM HU HE
          have lw : Below w4.heap.size w4 w2 := Rc.Mod.below HM (fun _ h => h.elim)
          have h8 : V 8 = .slice ZA z.length zc := HU.holds 8 (by decide)
          have tb45 : (Rg.putUse V [(8, 45)] fr).eval (.tmp 45) = .slice ZA z.length zc := (Rg.use_eval V fr 45 [(8, 45)] (by simp only [hz]; decide)).trans h8
          show Rg.Does1 _ _ V (Rg.putUse V [(8, 45)] fr) w2 _
          exact Ob.rc_str (z) rfl tb45 (by first | rfl | simp) (HZ.out.below lw) rfl rfl True.intro
        · intro V S w2 HM HU HE
          have lw : Below w4.heap.size w4 w2 := Rc.Mod.below HM (fun _ h => h.elim)
          have h4 : V 4 = .string (strOf (y)) := HU.holds 4 (by decide)
          have tb41 : (Rg.putUse V [(4, 41), (9, 46)] fr).eval (.tmp 41) = .string (strOf (y)) := (Rg.use_eval V fr 41 [(4, 41), (9, 46)] (by simp only [hz]; decide)).trans h4
          have h9 : V 9 = .string (strOf (z)) := HU.holds 9 (by decide)
          have tb46 : (Rg.putUse V [(4, 41), (9, 46)] fr).eval (.tmp 46) = .string (strOf (z)) := (Rg.use_eval V fr 46 [(4, 41), (9, 46)] (by simp only [hz]; decide)).trans h9
          show Rg.Does1 _ _ V (Rg.putUse V [(4, 41), (9, 46)] fr) w2 _
          exact Ob.rc_mv (.bool false) (by simp only [execOp, tb41, tb46]; go_simp) rfl rfl True.intro
      · intro V S w2 HI
        have HL2 : Hid (Below w4.heap.size w4 w2) := Rc.Mod.below HI.mod.undrew (fun _ h => h.elim)
        have hw10 : V 10 = .bool false := HI.get 10 (by decide) (by rfl)
        simp only [Rg.putList, Act.put, List.setIfInBounds_toArray, List.set_cons_zero, List.set_cons_succ, Nat.zero_add, Nat.reduceAdd]
        rw [hw10]
        clear HI hw10
        obtain ⟨w5, hww5⟩ : ∃ x, x = w2 := ⟨_, rfl⟩
        rw [← hww5] at HL2
        rw [← hww5]
        clear hww5
        have HR5 : Hid (RdL w5 (some ⟨b, off, none⟩) R) := HR4.out.below HL2.out
        have HB5 : Hid (Below w.heap.size w w5) := HB4.out.trans (HL2.out.mono HB4.out.size)
        have HK5 : Hid (KP w5) := HK4.out.later HL2.out
        have HP5 : Hid (RdL w5 PA P) := HP4.out.below HL2.out
        have HRR5 : Hid (Rd w5 RA (Mk.root Sh.sum R)) := HRR4.out.below HL2.out
        have HY5 : Hid (Rd w5 YA y) := HY.out.below HL2.out
        have HZ5 : Hid (Rd w5 ZA z) := HZ.out.below HL2.out
        have hcell_5 : w5.cell? ⟨b, off + k, none⟩ = some (.slice YA y.length yc) := (HL2.out.cell (p := ⟨b, off + k, none⟩) HBL.out).trans hcell
        have hcell2_5 : w5.cell? ⟨b, off + q, none⟩ = some (.slice ZA z.length zc) := (HL2.out.cell (p := ⟨b, off + q, none⟩) HBL.out).trans hcell2
        have HBL5 : Hid (b < w5.heap.size) := Nat.lt_of_lt_of_le HBL.out HL2.out.size
        clear HL2 HR4 HB4 HK4 HP4 HRR4 HY HZ hcell hcell2 HBL
        by_cases hll : Mk.leafOf Sh.sum y = Mk.leafOf Sh.sum z
        · have hle := strOf_toList (Mk.leafOf Sh.sum y) (Mk.leafOf Sh.sum z)
          rw [decide_eq_true hll] at hle
          go_wp2_with fail
          go_upto_region 11 with (fail)
          refine Rc.wp_region (by kernel_rfl) (fun opn => List.getD [Rc.val (.slice (some ⟨b, off, none⟩) R.length c), Rc.val (.int .i64 ((k : Nat) : Int)), Rc.val (.pointer (some ⟨b, off + k, none⟩)), Rc.val (.slice YA y.length yc), Ob.frow (Mk.leafOf Sh.sum y), Rc.val (.string (strOf (Mk.leafOf Sh.sum y))), Rc.val (.slice (some ⟨b, off, none⟩) R.length c), Rc.val (.int .i64 ((q : Nat) : Int)), Rc.val (.pointer (some ⟨b, off + q, none⟩)), Rc.val (.slice ZA z.length zc), Ob.frow (Mk.leafOf Sh.sum z), Rc.val (.string (strOf (Mk.leafOf Sh.sum z))), Rc.val (.bool true)] opn Rc.any) 0 [] [[], [], [(0, 61), (1, 62)], [(2, 63)], [(3, 64)], [(4, 65)], [], [], [(6, 67), (7, 68)], [(8, 69)], [(9, 70)], [(10, 71)], [(5, 66), (11, 72)]] [[], [], [0, 1], [0, 1, 2], [0, 1, 2, 3], [0, 1, 2, 3, 4], [], [], [6, 7], [6, 7, 8], [0, 1, 2, 3, 4, 6, 7, 8, 9], [0, 1, 2, 3, 4, 6, 7, 8, 9, 10], [0, 1, 2, 3, 4, 5, 6, 7, 8, 9, 10, 11]] [[], [], [0, 1], [2], [3], [4], [], [], [6, 7], [8], [9], [10], [5, 11]] [] (by kernel_rfl) (by rfl) (by kernel_rfl) (fun _ => False) (fun _ _ => False) Rc.Inv.none ?_ ?_
          · intro fr ha
            have hz : fr.tmps.size = 138 := by rw [ha]; rfl
            have y1 : fr.eval (.tmp 1) = .int .i64 ((k : Nat) : Int) := by rw [ha]; rfl
            have y2 : fr.eval (.tmp 2) = .int .i64 ((q : Nat) : Int) := by rw [ha]; rfl
            have y7 : fr.eval (.tmp 7) = .slice (some ⟨b, off, none⟩) R.length c := by rw [ha]; rfl
            clear ha
            refine .cons ?_ (.cons ?_ (.cons ?_ (.cons ?_ (.cons ?_ (.cons ?_ (.cons ?_ (.cons ?_ (.cons ?_ (.cons ?_ (.cons ?_ (.cons ?_ (.cons ?_ (.nil)))))))))))))
            · intro V S w2 HM HU HE
              have lw : Below w5.heap.size w5 w2 := Rc.Mod.below HM (fun _ h => h.elim)
              have tb7 : (Rg.putUse V [] fr).eval (.tmp 7) = .slice (some ⟨b, off, none⟩) R.length c := (Rg.use_eval V fr 7 [] (by simp only [hz]; decide)).trans y7
              show Rg.Does1 _ _ V (Rg.putUse V [] fr) w2 _
              exact Ob.rc_mv (.slice (some ⟨b, off, none⟩) R.length c) (by simp only [execOp, tb7]; go_simp) rfl rfl True.intro
            · intro V S w2 HM HU HE
              have lw : Below w5.heap.size w5 w2 := Rc.Mod.below HM (fun _ h => h.elim)
              have tb1 : (Rg.putUse V [] fr).eval (.tmp 1) = .int .i64 ((k : Nat) : Int) := (Rg.use_eval V fr 1 [] (by simp only [hz]; decide)).trans y1
              show Rg.Does1 _ _ V (Rg.putUse V [] fr) w2 _
              exact Ob.rc_mv (.int .i64 ((k : Nat) : Int)) (by simp only [execOp, tb1]; go_simp) rfl rfl True.intro
            · intro V S w2 HM HU HE
              have lw : Below w5.heap.size w5 w2 := Rc.Mod.below HM (fun _ h => h.elim)
              have h0 : V 0 = .slice (some ⟨b, off, none⟩) R.length c := HU.holds 0 (by decide)
              have tb61 : (Rg.putUse V [(0, 61), (1, 62)] fr).eval (.tmp 61) = .slice (some ⟨b, off, none⟩) R.length c := (Rg.use_eval V fr 61 [(0, 61), (1, 62)] (by simp only [hz]; decide)).trans h0
              have h1 : V 1 = .int .i64 ((k : Nat) : Int) := HU.holds 1 (by decide)
              have tb62 : (Rg.putUse V [(0, 61), (1, 62)] fr).eval (.tmp 62) = .int .i64 ((k : Nat) : Int) := (Rg.use_eval V fr 62 [(0, 61), (1, 62)] (by simp only [hz]; decide)).trans h1
              show Rg.Does1 _ _ V (Rg.putUse V [(0, 61), (1, 62)] fr) w2 _
              exact Ob.rc_mv (.pointer (some ⟨b, off + k, none⟩)) (by simp only [execOp, tb61, tb62]; go_simp; try (intro h; exfalso; omega)) rfl rfl True.intro
            · intro V S w2 HM HU HE
              have lw : Below w5.heap.size w5 w2 := Rc.Mod.below HM (fun _ h => h.elim)
              have h2 : V 2 = .pointer (some ⟨b, off + k, none⟩) := HU.holds 2 (by decide)
              have tb63 : (Rg.putUse V [(2, 63)] fr).eval (.tmp 63) = .pointer (some ⟨b, off + k, none⟩) := (Rg.use_eval V fr 63 [(2, 63)] (by simp only [hz]; decide)).trans h2
              show Rg.Does1 _ _ V (Rg.putUse V [(2, 63)] fr) w2 _
              have cu := (lw.cell (p := ⟨b, off + k, none⟩) HBL5.out).trans hcell_5
              exact Ob.rc_mv (.slice YA y.length yc) (by simp only [execOp, tb63]; go_simp) rfl rfl True.intro
            · intro V S w2 HM HU HE
              have lw : Below w5.heap.size w5 w2 := Rc.Mod.below HM (fun _ h => h.elim)
              have h3 : V 3 = .slice YA y.length yc := HU.holds 3 (by decide)
              have tb64 : (Rg.putUse V [(3, 64)] fr).eval (.tmp 64) = .slice YA y.length yc := (Rg.use_eval V fr 64 [(3, 64)] (by simp only [hz]; decide)).trans h3
              show Rg.Does1 _ _ V (Rg.putUse V [(3, 64)] fr) w2 _
              exact step_hcall (Mk.leafOf Sh.sum y) #[.slice YA y.length yc] (fun args w => Rg.call_enter Tryd.func24 (by kernel_rfl) (by kernel_rfl) args w) rfl (by simp only [List.map_toArray, List.map_cons, List.map_nil, tb64]) rfl (fun x => Rg.alias_none rfl V x) True.intro (rLeaf w2 y YA yc (HY5.out.below lw) hyc trivial (by omega))
            · intro V S w2 HM HU HE
              have lw : Below w5.heap.size w5 w2 := Rc.Mod.below HM (fun _ h => h.elim)
              obtain ⟨X4, k4, e4, hc4, hr4, hX4⟩ := HU.holds 4 (by decide)
              have tb65 : (Rg.putUse V [(4, 65)] fr).eval (.tmp 65) = .slice X4 (Mk.leafOf Sh.sum y).length k4 := (Rg.use_eval V fr 65 [(4, 65)] (by simp only [hz]; decide)).trans e4
              show Rg.Does1 _ _ V (Rg.putUse V [(4, 65)] fr) w2 _
              exact Ob.rc_str (Mk.leafOf Sh.sum y) rfl tb65 (by first | rfl | simp) hr4 rfl rfl True.intro
            · intro V S w2 HM HU HE
              have lw : Below w5.heap.size w5 w2 := Rc.Mod.below HM (fun _ h => h.elim)
              have tb7 : (Rg.putUse V [] fr).eval (.tmp 7) = .slice (some ⟨b, off, none⟩) R.length c := (Rg.use_eval V fr 7 [] (by simp only [hz]; decide)).trans y7
              show Rg.Does1 _ _ V (Rg.putUse V [] fr) w2 _
              exact Ob.rc_mv (.slice (some ⟨b, off, none⟩) R.length c) (by simp only [execOp, tb7]; go_simp) rfl rfl True.intro
            · intro V S w2 HM HU HE
              have lw : Below w5.heap.size w5 w2 := Rc.Mod.below HM (fun _ h => h.elim)
              have tb2 : (Rg.putUse V [] fr).eval (.tmp 2) = .int .i64 ((q : Nat) : Int) := (Rg.use_eval V fr 2 [] (by simp only [hz]; decide)).trans y2
              show Rg.Does1 _ _ V (Rg.putUse V [] fr) w2 _
              exact Ob.rc_mv (.int .i64 ((q : Nat) : Int)) (by simp only [execOp, tb2]; go_simp) rfl rfl True.intro
            · intro V S w2 HM HU HE
              have lw : Below w5.heap.size w5 w2 := Rc.Mod.below HM (fun _ h => h.elim)
              have h6 : V 6 = .slice (some ⟨b, off, none⟩) R.length c := HU.holds 6 (by decide)
              have tb67 : (Rg.putUse V [(6, 67), (7, 68)] fr).eval (.tmp 67) = .slice (some ⟨b, off, none⟩) R.length c := (Rg.use_eval V fr 67 [(6, 67), (7, 68)] (by simp only [hz]; decide)).trans h6
              have h7 : V 7 = .int .i64 ((q : Nat) : Int) := HU.holds 7 (by decide)
              have tb68 : (Rg.putUse V [(6, 67), (7, 68)] fr).eval (.tmp 68) = .int .i64 ((q : Nat) : Int) := (Rg.use_eval V fr 68 [(6, 67), (7, 68)] (by simp only [hz]; decide)).trans h7
              show Rg.Does1 _ _ V (Rg.putUse V [(6, 67), (7, 68)] fr) w2 _
              exact Ob.rc_mv (.pointer (some ⟨b, off + q, none⟩)) (by simp only [execOp, tb67, tb68]; go_simp; try (intro h; exfalso; omega)) rfl rfl True.intro
            · intro V S w2 HM HU HE
              have lw : Below w5.heap.size w5 w2 := Rc.Mod.below HM (fun _ h => h.elim)
              have h8 : V 8 = .pointer (some ⟨b, off + q, none⟩) := HU.holds 8 (by decide)
              have tb69 : (Rg.putUse V [(8, 69)] fr).eval (.tmp 69) = .pointer (some ⟨b, off + q, none⟩) := (Rg.use_eval V fr 69 [(8, 69)] (by simp only [hz]; decide)).trans h8
              show Rg.Does1 _ _ V (Rg.putUse V [(8, 69)] fr) w2 _
              have cu := (lw.cell (p := ⟨b, off + q, none⟩) HBL5.out).trans hcell2_5
              exact Ob.rc_mv (.slice ZA z.length zc) (by simp only [execOp, tb69]; go_simp) rfl rfl True.intro
            · intro V S w2 HM HU HE
              have lw : Below w5.heap.size w5 w2 := Rc.Mod.below HM (fun _ h => h.elim)
              have h9 : V 9 = .slice ZA z.length zc := HU.holds 9 (by decide)
              have tb70 : (Rg.putUse V [(9, 70)] fr).eval (.tmp 70) = .slice ZA z.length zc := (Rg.use_eval V fr 70 [(9, 70)] (by simp only [hz]; decide)).trans h9
              show Rg.Does1 _ _ V (Rg.putUse V [(9, 70)] fr) w2 _
              exact step_hcall (Mk.leafOf Sh.sum z) #[.slice ZA z.length zc] (fun args w => Rg.call_enter Tryd.func24 (by kernel_rfl) (by kernel_rfl) args w) rfl (by simp only [List.map_toArray, List.map_cons, List.map_nil, tb70]) rfl (fun x => Rg.alias_none rfl V x) True.intro (rLeaf w2 z ZA zc (HZ5.out.below lw) hzc trivial (by omega))
            · intro V S w2 HM HU HE
              have lw : Below w5.heap.size w5 w2 := Rc.Mod.below HM (fun _ h => h.elim)
              obtain ⟨X10, k10, e10, hc10, hr10, hX10⟩ := HU.holds 10 (by decide)
              have tb71 : (Rg.putUse V [(10, 71)] fr).eval (.tmp 71) = .slice X10 (Mk.leafOf Sh.sum z).length k10 := (Rg.use_eval V fr 71 [(10, 71)] (by simp only [hz]; decide)).trans e10
              show Rg.Does1 _ _ V (Rg.putUse V [(10, 71)] fr) w2 _
              exact Ob.rc_str (Mk.leafOf Sh.sum z) rfl tb71 (by first | rfl | simp) hr10 rfl rfl True.intro
            · intro V S w2 HM HU HE
              have lw : Below w5.heap.size w5 w2 := Rc.Mod.below HM (fun _ h => h.elim)
              have h5 : V 5 = .string (strOf (Mk.leafOf Sh.sum y)) := HU.holds 5 (by decide)
              have tb66 : (Rg.putUse V [(5, 66), (11, 72)] fr).eval (.tmp 66) = .string (strOf (Mk.leafOf Sh.sum y)) := (Rg.use_eval V fr 66 [(5, 66), (11, 72)] (by simp only [hz]; decide)).trans h5
              have h11 : V 11 = .string (strOf (Mk.leafOf Sh.sum z)) := HU.holds 11 (by decide)
              have tb72 : (Rg.putUse V [(5, 66), (11, 72)] fr).eval (.tmp 72) = .string (strOf (Mk.leafOf Sh.sum z)) := (Rg.use_eval V fr 72 [(5, 66), (11, 72)] (by simp only [hz]; decide)).trans h11
              show Rg.Does1 _ _ V (Rg.putUse V [(5, 66), (11, 72)] fr) w2 _
              exact Ob.rc_mv (.bool true) (by simp only [execOp, tb66, tb72]; go_simp) rfl rfl True.intro
          · intro V S w2 HI
            have HL2 : Hid (Below w5.heap.size w5 w2) := Rc.Mod.below HI.mod.undrew (fun _ h => h.elim)
            have hw12 : V 12 = .bool true := HI.get 12 (by decide) (by rfl)
            simp only [Rg.putList, Act.put, List.setIfInBounds_toArray, List.set_cons_zero, List.set_cons_succ, Nat.zero_add, Nat.reduceAdd]
            rw [hw12]
            clear HI hw12
            obtain ⟨w6, hww6⟩ : ∃ x, x = w2 := ⟨_, rfl⟩
            rw [← hww6] at HL2
            rw [← hww6]
            clear hww6
            have HR6 : Hid (RdL w6 (some ⟨b, off, none⟩) R) := HR5.out.below HL2.out
            have HB6 : Hid (Below w.heap.size w w6) := HB5.out.trans (HL2.out.mono HB5.out.size)
            have HK6 : Hid (KP w6) := HK5.out.later HL2.out
            have HP6 : Hid (RdL w6 PA P) := HP5.out.below HL2.out
            have HRR6 : Hid (Rd w6 RA (Mk.root Sh.sum R)) := HRR5.out.below HL2.out
            have HY6 : Hid (Rd w6 YA y) := HY5.out.below HL2.out
            have HZ6 : Hid (Rd w6 ZA z) := HZ5.out.below HL2.out
            have hcell_6 : w6.cell? ⟨b, off + k, none⟩ = some (.slice YA y.length yc) := (HL2.out.cell (p := ⟨b, off + k, none⟩) HBL5.out).trans hcell_5
            have hcell2_6 : w6.cell? ⟨b, off + q, none⟩ = some (.slice ZA z.length zc) := (HL2.out.cell (p := ⟨b, off + q, none⟩) HBL5.out).trans hcell2_5
            have HBL6 : Hid (b < w6.heap.size) := Nat.lt_of_lt_of_le HBL5.out HL2.out.size
            clear HL2 HR5 HB5 HK5 HP5 HRR5 HY5 HZ5 hcell_5 hcell2_5 HBL5
            go_wp2_with fail
            refine (known_any _ HK6.out).mono ?_
            rintro e wk ⟨rfl, hb⟩
            have HBK : Hid (Below w.heap.size w wk) := HB6.out.trans (hb.mono HB6.out.size)
            clear hb
            go_wp2_with fail
            go_ret
            exact ⟨rfl, HBK.out⟩
        · have hle := strOf_toList (Mk.leafOf Sh.sum y) (Mk.leafOf Sh.sum z)
          rw [decide_eq_false hll] at hle
          go_wp2_with fail
          go_upto_region 11 with (fail)
          refine Rc.wp_region (by kernel_rfl) (fun opn => List.getD [Rc.val (.slice (some ⟨b, off, none⟩) R.length c), Rc.val (.int .i64 ((k : Nat) : Int)), Rc.val (.pointer (some ⟨b, off + k, none⟩)), Rc.val (.slice YA y.length yc), Ob.frow (Mk.leafOf Sh.sum y), Rc.val (.string (strOf (Mk.leafOf Sh.sum y))), Rc.val (.slice (some ⟨b, off, none⟩) R.length c), Rc.val (.int .i64 ((q : Nat) : Int)), Rc.val (.pointer (some ⟨b, off + q, none⟩)), Rc.val (.slice ZA z.length zc), Ob.frow (Mk.leafOf Sh.sum z), Rc.val (.string (strOf (Mk.leafOf Sh.sum z))), Rc.val (.bool false)] opn Rc.any) 0 [] [[], [], [(0, 61), (1, 62)], [(2, 63)], [(3, 64)], [(4, 65)], [], [], [(6, 67), (7, 68)], [(8, 69)], [(9, 70)], [(10, 71)], [(5, 66), (11, 72)]] [[], [], [0, 1], [0, 1, 2], [0, 1, 2, 3], [0, 1, 2, 3, 4], [], [], [6, 7], [6, 7, 8], [0, 1, 2, 3, 4, 6, 7, 8, 9], [0, 1, 2, 3, 4, 6, 7, 8, 9, 10], [0, 1, 2, 3, 4, 5, 6, 7, 8, 9, 10, 11]] [[], [], [0, 1], [2], [3], [4], [], [], [6, 7], [8], [9], [10], [5, 11]] [] (by kernel_rfl) (by rfl) (by kernel_rfl) (fun _ => False) (fun _ _ => False) Rc.Inv.none ?_ ?_
          · intro fr ha
            have hz : fr.tmps.size = 138 := by rw [ha]; rfl
            have y1 : fr.eval (.tmp 1) = .int .i64 ((k : Nat) : Int) := by rw [ha]; rfl
            have y2 : fr.eval (.tmp 2) = .int .i64 ((q : Nat) : Int) := by rw [ha]; rfl
            have y7 : fr.eval (.tmp 7) = .slice (some ⟨b, off, none⟩) R.length c := by rw [ha]; rfl
            clear ha
            refine .cons ?_ (.cons ?_ (.cons ?_ (.cons ?_ (.cons ?_ (.cons ?_ (.cons ?_ (.cons ?_ (.cons ?_ (.cons ?_ (.cons ?_ (.cons ?_ (.cons ?_ (.nil)))))))))))))
            · intro V S w2 HM HU HE
              have lw : Below w5.heap.size w5 w2 := Rc.Mod.below HM (fun _ h => h.elim)
              have tb7 : (Rg.putUse V [] fr).eval (.tmp 7) = .slice (some ⟨b, off, none⟩) R.length c := (Rg.use_eval V fr 7 [] (by simp only [hz]; decide)).trans y7
              show Rg.Does1 _ _ V (Rg.putUse V [] fr) w2 _
              exact Ob.rc_mv (.slice (some ⟨b, off, none⟩) R.length c) (by simp only [execOp, tb7]; go_simp) rfl rfl True.intro
            · intro V S w2 HM HU HE
              have lw : Below w5.heap.size w5 w2 := Rc.Mod.below HM (fun _ h => h.elim)
              have tb1 : (Rg.putUse V [] fr).eval (.tmp 1) = .int .i64 ((k : Nat) : Int) := (Rg.use_eval V fr 1 [] (by simp only [hz]; decide)).trans y1
              show Rg.Does1 _ _ V (Rg.putUse V [] fr) w2 _
              exact Ob.rc_mv (.int .i64 ((k : Nat) : Int)) (by simp only [execOp, tb1]; go_simp) rfl rfl True.intro
            · intro V S w2 HM HU HE
              have lw : Below w5.heap.size w5 w2 := Rc.Mod.below HM (fun _ h => h.elim)
              have h0 : V 0 = .slice (some ⟨b, off, none⟩) R.length c := HU.holds 0 (by decide)
              have tb61 : (Rg.putUse V [(0, 61), (1, 62)] fr).eval (.tmp 61) = .slice (some ⟨b, off, none⟩) R.length c := (Rg.use_eval V fr 61 [(0, 61), (1, 62)] (by simp only [hz]; decide)).trans h0
              have h1 : V 1 = .int .i64 ((k : Nat) : Int) := HU.holds 1 (by decide)
              have tb62 : (Rg.putUse V [(0, 61), (1, 62)] fr).eval (.tmp 62) = .int .i64 ((k : Nat) : Int) := (Rg.use_eval V fr 62 [(0, 61), (1, 62)] (by simp only [hz]; decide)).trans h1
              show Rg.Does1 _ _ V (Rg.putUse V [(0, 61), (1, 62)] fr) w2 _
              exact Ob.rc_mv (.pointer (some ⟨b, off + k, none⟩)) (by simp only [execOp, tb61, tb62]; go_simp; try (intro h; exfalso; omega)) rfl rfl True.intro
            · intro V S w2 HM HU HE
              have lw : Below w5.heap.size w5 w2 := Rc.Mod.below HM (fun _ h => h.elim)
              have h2 : V 2 = .pointer (some ⟨b, off + k, none⟩) := HU.holds 2 (by decide)
              have tb63 : (Rg.putUse V [(2, 63)] fr).eval (.tmp 63) = .pointer (some ⟨b, off + k, none⟩) := (Rg.use_eval V fr 63 [(2, 63)] (by simp only [hz]; decide)).trans h2
              show Rg.Does1 _ _ V (Rg.putUse V [(2, 63)] fr) w2 _
              have cu := (lw.cell (p := ⟨b, off + k, none⟩) HBL5.out).trans hcell_5
              exact Ob.rc_mv (.slice YA y.length yc) (by simp only [execOp, tb63]; go_simp) rfl rfl True.intro
            · intro V S w2 HM HU HE
              have lw : Below w5.heap.size w5 w2 := Rc.Mod.below HM (fun _ h => h.elim)
              have h3 : V 3 = .slice YA y.length yc := HU.holds 3 (by decide)
              have tb64 : (Rg.putUse V [(3, 64)] fr).eval (.tmp 64) = .slice YA y.length yc := (Rg.use_eval V fr 64 [(3, 64)] (by simp only [hz]; decide)).trans h3
              show Rg.Does1 _ _ V (Rg.putUse V [(3, 64)] fr) w2 _
              exact step_hcall (Mk.leafOf Sh.sum y) #[.slice YA y.length yc] (fun args w => Rg.call_enter Tryd.func24 (by kernel_rfl) (by kernel_rfl) args w) rfl (by simp only [List.map_toArray, List.map_cons, List.map_nil, tb64]) rfl (fun x => Rg.alias_none rfl V x) True.intro (rLeaf w2 y YA yc (HY5.out.below lw) hyc trivial (by omega))
            · intro V S w2 HM HU HE
              have lw : Below w5.heap.size w5 w2 := Rc.Mod.below HM (fun _ h => h.elim)
              obtain ⟨X4, k4, e4, hc4, hr4, hX4⟩ := HU.holds 4 (by decide)
              have tb65 : (Rg.putUse V [(4, 65)] fr).eval (.tmp 65) = .slice X4 (Mk.leafOf Sh.sum y).length k4 := (Rg.use_eval V fr 65 [(4, 65)] (by simp only [hz]; decide)).trans e4
              show Rg.Does1 _ _ V (Rg.putUse V [(4, 65)] fr) w2 _
              exact Ob.rc_str (Mk.leafOf Sh.sum y) rfl tb65 (by first | rfl | simp) hr4 rfl rfl True.intro
            · intro V S w2 HM HU HE
              have lw : Below w5.heap.size w5 w2 := Rc.Mod.below HM (fun _ h => h.elim)
              have tb7 : (Rg.putUse V [] fr).eval (.tmp 7) = .slice (some ⟨b, off, none⟩) R.length c := (Rg.use_eval V fr 7 [] (by simp only [hz]; decide)).trans y7
              show Rg.Does1 _ _ V (Rg.putUse V [] fr) w2 _
              exact Ob.rc_mv (.slice (some ⟨b, off, none⟩) R.length c) (by simp only [execOp, tb7]; go_simp) rfl rfl True.intro
            · intro V S w2 HM HU HE
              have lw : Below w5.heap.size w5 w2 := Rc.Mod.below HM (fun _ h => h.elim)
              have tb2 : (Rg.putUse V [] fr).eval (.tmp 2) = .int .i64 ((q : Nat) : Int) := (Rg.use_eval V fr 2 [] (by simp only [hz]; decide)).trans y2
              show Rg.Does1 _ _ V (Rg.putUse V [] fr) w2 _
              exact Ob.rc_mv (.int .i64 ((q : Nat) : Int)) (by simp only [execOp, tb2]; go_simp) rfl rfl True.intro
            · intro V S w2 HM HU HE
              have lw : Below w5.heap.size w5 w2 := Rc.Mod.below HM (fun _ h => h.elim)
              have h6 : V 6 = .slice (some ⟨b, off, none⟩) R.length c := HU.holds 6 (by decide)
              have tb67 : (Rg.putUse V [(6, 67), (7, 68)] fr).eval (.tmp 67) = .slice (some ⟨b, off, none⟩) R.length c := (Rg.use_eval V fr 67 [(6, 67), (7, 68)] (by simp only [hz]; decide)).trans h6
              have h7 : V 7 = .int .i64 ((q : Nat) : Int) := HU.holds 7 (by decide)
              have tb68 : (Rg.putUse V [(6, 67), (7, 68)] fr).eval (.tmp 68) = .int .i64 ((q : Nat) : Int) := (Rg.use_eval V fr 68 [(6, 67), (7, 68)] (by simp only [hz]; decide)).trans h7
              show Rg.Does1 _ _ V (Rg.putUse V [(6, 67), (7, 68)] fr) w2 _
              exact Ob.rc_mv (.pointer (some ⟨b, off + q, none⟩)) (by simp only [execOp, tb67, tb68]; go_simp; try (intro h; exfalso; omega)) rfl rfl True.intro
            · intro V S w2 HM HU HE
              have lw : Below w5.heap.size w5 w2 := Rc.Mod.below HM (fun _ h => h.elim)
              have h8 : V 8 = .pointer (some ⟨b, off + q, none⟩) := HU.holds 8 (by decide)
              have tb69 : (Rg.putUse V [(8, 69)] fr).eval (.tmp 69) = .pointer (some ⟨b, off + q, none⟩) := (Rg.use_eval V fr 69 [(8, 69)] (by simp only [hz]; decide)).trans h8
              show Rg.Does1 _ _ V (Rg.putUse V [(8, 69)] fr) w2 _
              have cu := (lw.cell (p := ⟨b, off + q, none⟩) HBL5.out).trans hcell2_5
              exact Ob.rc_mv (.slice ZA z.length zc) (by simp only [execOp, tb69]; go_simp) rfl rfl True.intro
            · intro V S w2 HM HU HE
              have lw : Below w5.heap.size w5 w2 := Rc.Mod.below HM (fun _ h => h.elim)
              have h9 : V 9 = .slice ZA z.length zc := HU.holds 9 (by decide)
              have tb70 : (Rg.putUse V [(9, 70)] fr).eval (.tmp 70) = .slice ZA z.length zc := (Rg.use_eval V fr 70 [(9, 70)] (by simp only [hz]; decide)).trans h9
              show Rg.Does1 _ _ V (Rg.putUse V [(9, 70)] fr) w2 _
              exact step_hcall (Mk.leafOf Sh.sum z) #[.slice ZA z.length zc] (fun args w => Rg.call_enter Tryd.func24 (by kernel_rfl) (by kernel_rfl) args w) rfl (by simp only [List.map_toArray, List.map_cons, List.map_nil, tb70]) rfl (fun x => Rg.alias_none rfl V x) True.intro (rLeaf w2 z ZA zc (HZ5.out.below lw) hzc trivial (by omega))
            · intro V S w2 HM HU HE
              have lw : Below w5.heap.size w5 w2 := Rc.Mod.below HM (fun _ h => h.elim)
              obtain ⟨X10, k10, e10, hc10, hr10, hX10⟩ := HU.holds 10 (by decide)
              have tb71 : (Rg.putUse V [(10, 71)] fr).eval (.tmp 71) = .slice X10 (Mk.leafOf Sh.sum z).length k10 := (Rg.use_eval V fr 71 [(10, 71)] (by simp only [hz]; decide)).trans e10
              show Rg.Does1 _ _ V (Rg.putUse V [(10, 71)] fr) w2 _
              exact Ob.rc_str (Mk.leafOf Sh.sum z) rfl tb71 (by first | rfl | simp) hr10 rfl rfl True.intro
            · intro V S w2 HM HU HE
              have lw : Below w5.heap.size w5 w2 := Rc.Mod.below HM (fun _ h => h.elim)
              have h5 : V 5 = .string (strOf (Mk.leafOf Sh.sum y)) := HU.holds 5 (by decide)
              have tb66 : (Rg.putUse V [(5, 66), (11, 72)] fr).eval (.tmp 66) = .string (strOf (Mk.leafOf Sh.sum y)) := (Rg.use_eval V fr 66 [(5, 66), (11, 72)] (by simp only [hz]; decide)).trans h5
              have h11 : V 11 = .string (strOf (Mk.leafOf Sh.sum z)) := HU.holds 11 (by decide)
              have tb72 : (Rg.putUse V [(5, 66), (11, 72)] fr).eval (.tmp 72) = .string (strOf (Mk.leafOf Sh.sum z)) := (Rg.use_eval V fr 72 [(5, 66), (11, 72)] (by simp only [hz]; decide)).trans h11
              show Rg.Does1 _ _ V (Rg.putUse V [(5, 66), (11, 72)] fr) w2 _
              exact Ob.rc_mv (.bool false) (by simp only [execOp, tb66, tb72]; go_simp) rfl rfl True.intro
          · intro V S w2 HI
            have HL2 : Hid (Below w5.heap.size w5 w2) := Rc.Mod.below HI.mod.undrew (fun _ h => h.elim)
            have hw12 : V 12 = .bool false := HI.get 12 (by decide) (by rfl)
            simp only [Rg.putList, Act.put, List.setIfInBounds_toArray, List.set_cons_zero, List.set_cons_succ, Nat.zero_add, Nat.reduceAdd]
            rw [hw12]
            clear HI hw12
            obtain ⟨w6, hww6⟩ : ∃ x, x = w2 := ⟨_, rfl⟩
            rw [← hww6] at HL2
            rw [← hww6]
            clear hww6
            have HR6 : Hid (RdL w6 (some ⟨b, off, none⟩) R) := HR5.out.below HL2.out
            have HB6 : Hid (Below w.heap.size w w6) := HB5.out.trans (HL2.out.mono HB5.out.size)
            have HK6 : Hid (KP w6) := HK5.out.later HL2.out
            have HP6 : Hid (RdL w6 PA P) := HP5.out.below HL2.out
            have HRR6 : Hid (Rd w6 RA (Mk.root Sh.sum R)) := HRR5.out.below HL2.out
            have HY6 : Hid (Rd w6 YA y) := HY5.out.below HL2.out
            have HZ6 : Hid (Rd w6 ZA z) := HZ5.out.below HL2.out
            have hcell_6 : w6.cell? ⟨b, off + k, none⟩ = some (.slice YA y.length yc) := (HL2.out.cell (p := ⟨b, off + k, none⟩) HBL5.out).trans hcell_5
            have hcell2_6 : w6.cell? ⟨b, off + q, none⟩ = some (.slice ZA z.length zc) := (HL2.out.cell (p := ⟨b, off + q, none⟩) HBL5.out).trans hcell2_5
            have HBL6 : Hid (b < w6.heap.size) := Nat.lt_of_lt_of_le HBL5.out HL2.out.size
            clear HL2 HR5 HB5 HK5 HP5 HRR5 HY5 HZ5 hcell_5 hcell2_5 HBL5
            have hr1 : ¬ R.length = 1 := fun h => hyz (HONE.out h)
            have hr2 : ((R.length : Int) == 1) = false := beq_eq_false_iff_ne.2 (by omega)
            clear hr1
            go_wp2_with fail
            go_upto_region 13 with (fail)
            refine Rc.wp_region (by kernel_rfl) (fun opn => List.getD [Rc.val (.slice (some ⟨b, off, none⟩) R.length c), Rc.val (.int .i64 ((R.length : Nat) : Int)), Rc.val (.bool false), Rc.val (.bool false), Rc.val (undef), Rc.val (undef), Rc.val (undef), Rc.val (undef), Rc.val (undef), Rc.val (undef), Rc.val (undef), Rc.val (undef), Rc.val (.bool false), Rc.val (.bool true), Rc.val (.bool true), Rc.val (.slice RA (Mk.root Sh.sum R).length rc), Rc.val (.slice (some ⟨b, off, none⟩) R.length c), Rc.val (.int .i64 ((q : Nat) : Int)), Rc.val (.pointer (some ⟨b, off + q, none⟩)), Rc.val (.slice ZA z.length zc), Rc.val (.int .i64 ((k : Nat) : Int)), Rc.val (.slice (some ⟨b, off, none⟩) R.length c), Rc.val (.int .i64 ((R.length : Nat) : Int)), Rc.val (.slice PA P.length pc), Rc.val (.bool (chk (Mk.root Sh.sum R) z (k : Nat) R.length P)), Rc.val (.slice RA (Mk.root Sh.sum R).length rc), Rc.val (.slice (some ⟨b, off, none⟩) R.length c), Rc.val (.int .i64 ((q : Nat) : Int)), Rc.val (.pointer (some ⟨b, off + q, none⟩)), Rc.val (.slice ZA z.length zc), Rc.val (.int .i64 ((k : Nat) : Int)), Rc.val (.slice (some ⟨b, off, none⟩) R.length c), Rc.val (.int .i64 ((R.length : Nat) : Int)), Rc.val (.slice PA P.length pc), Rc.val (.bool (chk (Mk.root Sh.sum R) z (k : Nat) R.length P)), Rc.val (.bool true), Rc.val (.bool true), Rc.val (.bool true), Rc.val (.slice RA (Mk.root Sh.sum R).length rc), Rc.val (.slice (some ⟨b, off, none⟩) R.length c), Rc.val (.int .i64 ((k : Nat) : Int)), Rc.val (.pointer (some ⟨b, off + k, none⟩)), Rc.val (.slice YA y.length yc), Rc.val (.int .i64 ((q : Nat) : Int)), Rc.val (.slice (some ⟨b, off, none⟩) R.length c), Rc.val (.int .i64 ((R.length : Nat) : Int)), Rc.val (.slice PA P.length pc), Rc.val (.bool (chk (Mk.root Sh.sum R) y (q : Nat) R.length P)), Rc.val (.slice RA (Mk.root Sh.sum R).length rc), Rc.val (.slice (some ⟨b, off, none⟩) R.length c), Rc.val (.int .i64 ((k : Nat) : Int)), Rc.val (.pointer (some ⟨b, off + k, none⟩)), Rc.val (.slice YA y.length yc), Rc.val (.int .i64 ((q : Nat) : Int)), Rc.val (.slice (some ⟨b, off, none⟩) R.length c), Rc.val (.int .i64 ((R.length : Nat) : Int)), Rc.val (.slice PA P.length pc), Rc.val (.bool (chk (Mk.root Sh.sum R) y (q : Nat) R.length P)), Rc.val (.bool true), Rc.val (.bool true), Rc.val (.bool true), Rc.val (.bool true), Rc.val (.bool true), Rc.val (.bool true)] opn Rc.any) 0 [] [[], [(0, 75)], [(1, 76)], [(2, 77)], [(3, 78)], [(3, 78)], [(3, 78)], [(3, 78), (5, 80), (6, 81)], [(3, 78), (7, 82)], [(3, 78)], [(3, 78)], [(3, 78), (4, 79), (8, 83), (9, 84), (10, 85)], [(3, 78), (11, 86)], [(12, 87)], [(13, 88)], [(14, 89)], [(14, 89)], [(14, 89)], [(14, 89), (16, 91), (17, 92)], [(14, 89), (18, 93)], [(14, 89)], [(14, 89)], [(14, 89), (21, 96)], [(14, 89)], [(14, 89), (15, 90), (19, 94), (20, 95), (22, 97), (23, 98)], [(14, 89)], [(14, 89)], [(14, 89)], [(14, 89), (26, 101), (27, 102)], [(14, 89), (28, 103)], [(14, 89)], [(14, 89)], [(14, 89), (31, 106)], [(14, 89)], [(14, 89), (25, 100), (29, 104), (30, 105), (32, 107), (33, 108)], [(14, 89), (24, 99), (34, 109)], [(14, 89), (35, 110)], [(36, 111)], [(37, 112)], [(37, 112)], [(37, 112)], [(37, 112), (39, 114), (40, 115)], [(37, 112), (41, 116)], [(37, 112)], [(37, 112)], [(37, 112), (44, 119)], [(37, 112)], [(37, 112), (38, 113), (42, 117), (43, 118), (45, 120), (46, 121)], [(37, 112)], [(37, 112)], [(37, 112)], [(37, 112), (49, 124), (50, 125)], [(37, 112), (51, 126)], [(37, 112)], [(37, 112)], [(37, 112), (54, 129)], [(37, 112)], [(37, 112), (48, 123), (52, 127), (53, 128), (55, 130), (56, 131)], [(37, 112), (47, 122), (57, 132)], [(37, 112), (58, 133)], [(59, 134)], [(60, 135)], [(60, 135), (61, 136)], [(62, 137)]] [[], [0], [0, 1], [0, 1, 2], [0, 1, 2, 3], [0, 1, 2, 3], [0, 1, 2, 3], [0, 1, 2, 3, 5, 6], [0, 1, 2, 3, 5, 6, 7], [0, 1, 2, 3], [0, 1, 2, 3], [0, 1, 2, 3, 4, 5, 6, 7, 8, 9, 10], [0, 1, 2, 3, 4, 5, 6, 7, 8, 9, 10, 11], [0, 1, 2, 3, 4, 5, 6, 7, 8, 9, 10, 11, 12], [0, 1, 2, 3, 4, 5, 6, 7, 8, 9, 10, 11, 12, 13], [0, 1, 2, 3, 4, 5, 6, 7, 8, 9, 10, 11, 12, 13, 14], [0, 1, 2, 3, 4, 5, 6, 7, 8, 9, 10, 11, 12, 13, 14], [0, 1, 2, 3, 4, 5, 6, 7, 8, 9, 10, 11, 12, 13, 14], [0, 1, 2, 3, 4, 5, 6, 7, 8, 9, 10, 11, 12, 13, 14, 16, 17], [0, 1, 2, 3, 4, 5, 6, 7, 8, 9, 10, 11, 12, 13, 14, 16, 17, 18], [0, 1, 2, 3, 4, 5, 6, 7, 8, 9, 10, 11, 12, 13, 14], [0, 1, 2, 3, 4, 5, 6, 7, 8, 9, 10, 11, 12, 13, 14], [0, 1, 2, 3, 4, 5, 6, 7, 8, 9, 10, 11, 12, 13, 14, 21], [0, 1, 2, 3, 4, 5, 6, 7, 8, 9, 10, 11, 12, 13, 14], [0, 1, 2, 3, 4, 5, 6, 7, 8, 9, 10, 11, 12, 13, 14, 15, 16, 17, 18, 19, 20, 21, 22, 23], [0, 1, 2, 3, 4, 5, 6, 7, 8, 9, 10, 11, 12, 13, 14], [0, 1, 2, 3, 4, 5, 6, 7, 8, 9, 10, 11, 12, 13, 14], [0, 1, 2, 3, 4, 5, 6, 7, 8, 9, 10, 11, 12, 13, 14], [0, 1, 2, 3, 4, 5, 6, 7, 8, 9, 10, 11, 12, 13, 14, 26, 27], [0, 1, 2, 3, 4, 5, 6, 7, 8, 9, 10, 11, 12, 13, 14, 26, 27, 28], [0, 1, 2, 3, 4, 5, 6, 7, 8, 9, 10, 11, 12, 13, 14], [0, 1, 2, 3, 4, 5, 6, 7, 8, 9, 10, 11, 12, 13, 14], [0, 1, 2, 3, 4, 5, 6, 7, 8, 9, 10, 11, 12, 13, 14, 31], [0, 1, 2, 3, 4, 5, 6, 7, 8, 9, 10, 11, 12, 13, 14], [0, 1, 2, 3, 4, 5, 6, 7, 8, 9, 10, 11, 12, 13, 14, 15, 16, 17, 18, 19, 20, 21, 22, 23, 24, 25, 26, 27, 28, 29, 30, 31, 32, 33], [0, 1, 2, 3, 4, 5, 6, 7, 8, 9, 10, 11, 12, 13, 14, 15, 16, 17, 18, 19, 20, 21, 22, 23, 24, 25, 26, 27, 28, 29, 30, 31, 32, 33, 34], [0, 1, 2, 3, 4, 5, 6, 7, 8, 9, 10, 11, 12, 13, 14, 15, 16, 17, 18, 19, 20, 21, 22, 23, 24, 25, 26, 27, 28, 29, 30, 31, 32, 33, 34, 35], [0, 1, 2, 3, 4, 5, 6, 7, 8, 9, 10, 11, 12, 13, 14, 15, 16, 17, 18, 19, 20, 21, 22, 23, 24, 25, 26, 27, 28, 29, 30, 31, 32, 33, 34, 35, 36], [0, 1, 2, 3, 4, 5, 6, 7, 8, 9, 10, 11, 12, 13, 14, 15, 16, 17, 18, 19, 20, 21, 22, 23, 24, 25, 26, 27, 28, 29, 30, 31, 32, 33, 34, 35, 36, 37], [0, 1, 2, 3, 4, 5, 6, 7, 8, 9, 10, 11, 12, 13, 14, 15, 16, 17, 18, 19, 20, 21, 22, 23, 24, 25, 26, 27, 28, 29, 30, 31, 32, 33, 34, 35, 36, 37], [0, 1, 2, 3, 4, 5, 6, 7, 8, 9, 10, 11, 12, 13, 14, 15, 16, 17, 18, 19, 20, 21, 22, 23, 24, 25, 26, 27, 28, 29, 30, 31, 32, 33, 34, 35, 36, 37], [0, 1, 2, 3, 4, 5, 6, 7, 8, 9, 10, 11, 12, 13, 14, 15, 16, 17, 18, 19, 20, 21, 22, 23, 24, 25, 26, 27, 28, 29, 30, 31, 32, 33, 34, 35, 36, 37, 39, 40], [0, 1, 2, 3, 4, 5, 6, 7, 8, 9, 10, 11, 12, 13, 14, 15, 16, 17, 18, 19, 20, 21, 22, 23, 24, 25, 26, 27, 28, 29, 30, 31, 32, 33, 34, 35, 36, 37, 39, 40, 41], [0, 1, 2, 3, 4, 5, 6, 7, 8, 9, 10, 11, 12, 13, 14, 15, 16, 17, 18, 19, 20, 21, 22, 23, 24, 25, 26, 27, 28, 29, 30, 31, 32, 33, 34, 35, 36, 37], [0, 1, 2, 3, 4, 5, 6, 7, 8, 9, 10, 11, 12, 13, 14, 15, 16, 17, 18, 19, 20, 21, 22, 23, 24, 25, 26, 27, 28, 29, 30, 31, 32, 33, 34, 35, 36, 37], [0, 1, 2, 3, 4, 5, 6, 7, 8, 9, 10, 11, 12, 13, 14, 15, 16, 17, 18, 19, 20, 21, 22, 23, 24, 25, 26, 27, 28, 29, 30, 31, 32, 33, 34, 35, 36, 37, 44], [0, 1, 2, 3, 4, 5, 6, 7, 8, 9, 10, 11, 12, 13, 14, 15, 16, 17, 18, 19, 20, 21, 22, 23, 24, 25, 26, 27, 28, 29, 30, 31, 32, 33, 34, 35, 36, 37], [0, 1, 2, 3, 4, 5, 6, 7, 8, 9, 10, 11, 12, 13, 14, 15, 16, 17, 18, 19, 20, 21, 22, 23, 24, 25, 26, 27, 28, 29, 30, 31, 32, 33, 34, 35, 36, 37, 38, 39, 40, 41, 42, 43, 44, 45, 46], [0, 1, 2, 3, 4, 5, 6, 7, 8, 9, 10, 11, 12, 13, 14, 15, 16, 17, 18, 19, 20, 21, 22, 23, 24, 25, 26, 27, 28, 29, 30, 31, 32, 33, 34, 35, 36, 37], [0, 1, 2, 3, 4, 5, 6, 7, 8, 9, 10, 11, 12, 13, 14, 15, 16, 17, 18, 19, 20, 21, 22, 23, 24, 25, 26, 27, 28, 29, 30, 31, 32, 33, 34, 35, 36, 37], [0, 1, 2, 3, 4, 5, 6, 7, 8, 9, 10, 11, 12, 13, 14, 15, 16, 17, 18, 19, 20, 21, 22, 23, 24, 25, 26, 27, 28, 29, 30, 31, 32, 33, 34, 35, 36, 37], [0, 1, 2, 3, 4, 5, 6, 7, 8, 9, 10, 11, 12, 13, 14, 15, 16, 17, 18, 19, 20, 21, 22, 23, 24, 25, 26, 27, 28, 29, 30, 31, 32, 33, 34, 35, 36, 37, 49, 50], [0, 1, 2, 3, 4, 5, 6, 7, 8, 9, 10, 11, 12, 13, 14, 15, 16, 17, 18, 19, 20, 21, 22, 23, 24, 25, 26, 27, 28, 29, 30, 31, 32, 33, 34, 35, 36, 37, 49, 50, 51], [0, 1, 2, 3, 4, 5, 6, 7, 8, 9, 10, 11, 12, 13, 14, 15, 16, 17, 18, 19, 20, 21, 22, 23, 24, 25, 26, 27, 28, 29, 30, 31, 32, 33, 34, 35, 36, 37], [0, 1, 2, 3, 4, 5, 6, 7, 8, 9, 10, 11, 12, 13, 14, 15, 16, 17, 18, 19, 20, 21, 22, 23, 24, 25, 26, 27, 28, 29, 30, 31, 32, 33, 34, 35, 36, 37], [0, 1, 2, 3, 4, 5, 6, 7, 8, 9, 10, 11, 12, 13, 14, 15, 16, 17, 18, 19, 20, 21, 22, 23, 24, 25, 26, 27, 28, 29, 30, 31, 32, 33, 34, 35, 36, 37, 54], [0, 1, 2, 3, 4, 5, 6, 7, 8, 9, 10, 11, 12, 13, 14, 15, 16, 17, 18, 19, 20, 21, 22, 23, 24, 25, 26, 27, 28, 29, 30, 31, 32, 33, 34, 35, 36, 37], [0, 1, 2, 3, 4, 5, 6, 7, 8, 9, 10, 11, 12, 13, 14, 15, 16, 17, 18, 19, 20, 21, 22, 23, 24, 25, 26, 27, 28, 29, 30, 31, 32, 33, 34, 35, 36, 37, 38, 39, 40, 41, 42, 43, 44, 45, 46, 47, 48, 49, 50, 51, 52, 53, 54, 55, 56], [0, 1, 2, 3, 4, 5, 6, 7, 8, 9, 10, 11, 12, 13, 14, 15, 16, 17, 18, 19, 20, 21, 22, 23, 24, 25, 26, 27, 28, 29, 30, 31, 32, 33, 34, 35, 36, 37, 38, 39, 40, 41, 42, 43, 44, 45, 46, 47, 48, 49, 50, 51, 52, 53, 54, 55, 56, 57], [0, 1, 2, 3, 4, 5, 6, 7, 8, 9, 10, 11, 12, 13, 14, 15, 16, 17, 18, 19, 20, 21, 22, 23, 24, 25, 26, 27, 28, 29, 30, 31, 32, 33, 34, 35, 36, 37, 38, 39, 40, 41, 42, 43, 44, 45, 46, 47, 48, 49, 50, 51, 52, 53, 54, 55, 56, 57, 58], [0, 1, 2, 3, 4, 5, 6, 7, 8, 9, 10, 11, 12, 13, 14, 15, 16, 17, 18, 19, 20, 21, 22, 23, 24, 25, 26, 27, 28, 29, 30, 31, 32, 33, 34, 35, 36, 37, 38, 39, 40, 41, 42, 43, 44, 45, 46, 47, 48, 49, 50, 51, 52, 53, 54, 55, 56, 57, 58, 59], [0, 1, 2, 3, 4, 5, 6, 7, 8, 9, 10, 11, 12, 13, 14, 15, 16, 17, 18, 19, 20, 21, 22, 23, 24, 25, 26, 27, 28, 29, 30, 31, 32, 33, 34, 35, 36, 37, 38, 39, 40, 41, 42, 43, 44, 45, 46, 47, 48, 49, 50, 51, 52, 53, 54, 55, 56, 57, 58, 59, 60], [0, 1, 2, 3, 4, 5, 6, 7, 8, 9, 10, 11, 12, 13, 14, 15, 16, 17, 18, 19, 20, 21, 22, 23, 24, 25, 26, 27, 28, 29, 30, 31, 32, 33, 34, 35, 36, 37, 38, 39, 40, 41, 42, 43, 44, 45, 46, 47, 48, 49, 50, 51, 52, 53, 54, 55, 56, 57, 58, 59, 60, 61], [0, 1, 2, 3, 4, 5, 6, 7, 8, 9, 10, 11, 12, 13, 14, 15, 16, 17, 18, 19, 20, 21, 22, 23, 24, 25, 26, 27, 28, 29, 30, 31, 32, 33, 34, 35, 36, 37, 38, 39, 40, 41, 42, 43, 44, 45, 46, 47, 48, 49, 50, 51, 52, 53, 54, 55, 56, 57, 58, 59, 60, 61, 62]] [[], [0], [1], [2], [3], [3], [3], [3, 5, 6], [3, 7], [3], [3], [3, 4, 8, 9, 10], [3, 11], [12], [13], [14], [14], [14], [14, 16, 17], [14, 18], [14], [14], [14, 21], [14], [14, 15, 19, 20, 22, 23], [14], [14], [14], [14, 26, 27], [14, 28], [14], [14], [14, 31], [14], [14, 25, 29, 30, 32, 33], [14, 24, 34], [14, 35], [36], [37], [37], [37], [37, 39, 40], [37, 41], [37], [37], [37, 44], [37], [37, 38, 42, 43, 45, 46], [37], [37], [37], [37, 49, 50], [37, 51], [37], [37], [37, 54], [37], [37, 48, 52, 53, 55, 56], [37, 47, 57], [37, 58], [59], [60], [60, 61], [62]] [] (by kernel_rfl) (by rfl) (by kernel_rfl) (fun _ => False) (fun _ _ => False) Rc.Inv.none ?_ ?_
            · intro fr ha
              have hz : fr.tmps.size = 138 := by rw [ha]; rfl
              have y1 : fr.eval (.tmp 1) = .int .i64 ((k : Nat) : Int) := by rw [ha]; rfl
              have y2 : fr.eval (.tmp 2) = .int .i64 ((q : Nat) : Int) := by rw [ha]; rfl
              have y7 : fr.eval (.tmp 7) = .slice (some ⟨b, off, none⟩) R.length c := by rw [ha]; rfl
              have y8 : fr.eval (.tmp 8) = .slice PA P.length pc := by rw [ha]; rfl
              have y10 : fr.eval (.tmp 10) = .slice RA (Mk.root Sh.sum R).length rc := by rw [ha]; rfl
              clear ha
              refine .cons ?_ (.cons ?_ (.cons ?_ (.cons ?_ (.cons ?_ (.cons ?_ (.cons ?_ (.cons ?_ (.cons ?_ (.cons ?_ (.cons ?_ (.cons ?_ (.cons ?_ (.cons ?_ (.cons ?_ (.cons ?_ (.cons ?_ (.cons ?_ (.cons ?_ (.cons ?_ (.cons ?_ (.cons ?_ (.cons ?_ (.cons ?_ (.cons ?_ (.cons ?_ (.cons ?_ (.cons ?_ (.cons ?_ (.cons ?_ (.cons ?_ (.cons ?_ (.cons ?_ (.cons ?_ (.cons ?_ (.cons ?_ (.cons ?_ (.cons ?_ (.cons ?_ (.cons ?_ (.cons ?_ (.cons ?_ (.cons ?_ (.cons ?_ (.cons ?_ (.cons ?_ (.cons ?_ (.cons ?_ (.cons ?_ (.cons ?_ (.cons ?_ (.cons ?_ (.cons ?_ (.cons ?_ (.cons ?_ (.cons ?_ (.cons ?_ (.cons ?_ (.cons ?_ (.cons ?_ (.cons ?_ (.cons ?_ (.cons ?_ (.cons ?_ (.nil))))))))))))))))))))))))))))))))))))))))))))))))))))))))))))))))
              · intro V S w2 HM HU HE
                have lw : Below w6.heap.size w6 w2 := Rc.Mod.below HM (fun _ h => h.elim)
                have tb7 : (Rg.putUse V [] fr).eval (.tmp 7) = .slice (some ⟨b, off, none⟩) R.length c := (Rg.use_eval V fr 7 [] (by simp only [hz]; decide)).trans y7
                show Rg.Does1 _ _ V (Rg.putUse V [] fr) w2 _
                exact Ob.rc_mv (.slice (some ⟨b, off, none⟩) R.length c) (by simp only [execOp, tb7]; go_simp) rfl rfl True.intro
              · intro V S w2 HM HU HE
                have lw : Below w6.heap.size w6 w2 := Rc.Mod.below HM (fun _ h => h.elim)
                have h0 : V 0 = .slice (some ⟨b, off, none⟩) R.length c := HU.holds 0 (by decide)
                have tb75 : (Rg.putUse V [(0, 75)] fr).eval (.tmp 75) = .slice (some ⟨b, off, none⟩) R.length c := (Rg.use_eval V fr 75 [(0, 75)] (by simp only [hz]; decide)).trans h0
                show Rg.Does1 _ _ V (Rg.putUse V [(0, 75)] fr) w2 _
                exact Ob.rc_mv (.int .i64 ((R.length : Nat) : Int)) (by simp only [execOp, resolve, List.map_toArray, List.map_cons, List.map_nil, tb75]; go_simp) rfl rfl True.intro
              · intro V S w2 HM HU HE
                have lw : Below w6.heap.size w6 w2 := Rc.Mod.below HM (fun _ h => h.elim)
                have h1 : V 1 = .int .i64 ((R.length : Nat) : Int) := HU.holds 1 (by decide)
                have tb76 : (Rg.putUse V [(1, 76)] fr).eval (.tmp 76) = .int .i64 ((R.length : Nat) : Int) := (Rg.use_eval V fr 76 [(1, 76)] (by simp only [hz]; decide)).trans h1
                show Rg.Does1 _ _ V (Rg.putUse V [(1, 76)] fr) w2 _
                exact Ob.rc_mv (.bool false) (by simp only [execOp, tb76]; go_simp) rfl rfl True.intro
              · intro V S w2 HM HU HE
                have lw : Below w6.heap.size w6 w2 := Rc.Mod.below HM (fun _ h => h.elim)
                have h2 : V 2 = .bool false := HU.holds 2 (by decide)
                have tb77 : (Rg.putUse V [(2, 77)] fr).eval (.tmp 77) = .bool false := (Rg.use_eval V fr 77 [(2, 77)] (by simp only [hz]; decide)).trans h2
                show Rg.Does1 _ _ V (Rg.putUse V [(2, 77)] fr) w2 _
                exact Ob.rc_mv (.bool false) (by simp only [execOp, tb77]; go_simp) rfl rfl True.intro
              · intro V S w2 HM HU HE
                have lw : Below w6.heap.size w6 w2 := Rc.Mod.below HM (fun _ h => h.elim)
                have h3 : V 3 = .bool false := HU.holds 3 (by decide)
                exact Rc.step_not rfl h3 (Rg.alias_none rfl V _) rfl
              · intro V S w2 HM HU HE
                have lw : Below w6.heap.size w6 w2 := Rc.Mod.below HM (fun _ h => h.elim)
                have h3 : V 3 = .bool false := HU.holds 3 (by decide)
                exact Rc.step_not rfl h3 (Rg.alias_none rfl V _) rfl
              · intro V S w2 HM HU HE
                have lw : Below w6.heap.size w6 w2 := Rc.Mod.below HM (fun _ h => h.elim)
                have h3 : V 3 = .bool false := HU.holds 3 (by decide)
                exact Rc.step_not rfl h3 (Rg.alias_none rfl V _) rfl
              · intro V S w2 HM HU HE
                have lw : Below w6.heap.size w6 w2 := Rc.Mod.below HM (fun _ h => h.elim)
                have h3 : V 3 = .bool false := HU.holds 3 (by decide)
                have h5 : V 5 = undef := HU.holds 5 (by decide)
                have tb80 : (Rg.putUse V [(3, 78), (5, 80), (6, 81)] fr).eval (.tmp 80) = undef := (Rg.use_eval V fr 80 [(3, 78), (5, 80), (6, 81)] (by simp only [hz]; decide)).trans h5
                have h6 : V 6 = undef := HU.holds 6 (by decide)
                have tb81 : (Rg.putUse V [(3, 78), (5, 80), (6, 81)] fr).eval (.tmp 81) = undef := (Rg.use_eval V fr 81 [(3, 78), (5, 80), (6, 81)] (by simp only [hz]; decide)).trans h6
                exact Rc.step_not rfl h3 (Rg.alias_none rfl V _) rfl
              · intro V S w2 HM HU HE
                have lw : Below w6.heap.size w6 w2 := Rc.Mod.below HM (fun _ h => h.elim)
                have h3 : V 3 = .bool false := HU.holds 3 (by decide)
                have h7 : V 7 = undef := HU.holds 7 (by decide)
                have tb82 : (Rg.putUse V [(3, 78), (7, 82)] fr).eval (.tmp 82) = undef := (Rg.use_eval V fr 82 [(3, 78), (7, 82)] (by simp only [hz]; decide)).trans h7
                exact Rc.step_not rfl h3 (Rg.alias_none rfl V _) rfl
              · intro V S w2 HM HU HE
                have lw : Below w6.heap.size w6 w2 := Rc.Mod.below HM (fun _ h => h.elim)
                have h3 : V 3 = .bool false := HU.holds 3 (by decide)
                exact Rc.step_not rfl h3 (Rg.alias_none rfl V _) rfl
              · intro V S w2 HM HU HE
                have lw : Below w6.heap.size w6 w2 := Rc.Mod.below HM (fun _ h => h.elim)
                have h3 : V 3 = .bool false := HU.holds 3 (by decide)
                exact Rc.step_not rfl h3 (Rg.alias_none rfl V _) rfl
              · intro V S w2 HM HU HE
                have lw : Below w6.heap.size w6 w2 := Rc.Mod.below HM (fun _ h => h.elim)
                have h3 : V 3 = .bool false := HU.holds 3 (by decide)
                have h4 : V 4 = undef := HU.holds 4 (by decide)
                have tb79 : (Rg.putUse V [(3, 78), (4, 79), (8, 83), (9, 84), (10, 85)] fr).eval (.tmp 79) = undef := (Rg.use_eval V fr 79 [(3, 78), (4, 79), (8, 83), (9, 84), (10, 85)] (by simp only [hz]; decide)).trans h4
                have h8 : V 8 = undef := HU.holds 8 (by decide)
                have tb83 : (Rg.putUse V [(3, 78), (4, 79), (8, 83), (9, 84), (10, 85)] fr).eval (.tmp 83) = undef := (Rg.use_eval V fr 83 [(3, 78), (4, 79), (8, 83), (9, 84), (10, 85)] (by simp only [hz]; decide)).trans h8
                have h9 : V 9 = undef := HU.holds 9 (by decide)
                have tb84 : (Rg.putUse V [(3, 78), (4, 79), (8, 83), (9, 84), (10, 85)] fr).eval (.tmp 84) = undef := (Rg.use_eval V fr 84 [(3, 78), (4, 79), (8, 83), (9, 84), (10, 85)] (by simp only [hz]; decide)).trans h9
                have h10 : V 10 = undef := HU.holds 10 (by decide)
                have tb85 : (Rg.putUse V [(3, 78), (4, 79), (8, 83), (9, 84), (10, 85)] fr).eval (.tmp 85) = undef := (Rg.use_eval V fr 85 [(3, 78), (4, 79), (8, 83), (9, 84), (10, 85)] (by simp only [hz]; decide)).trans h10
                exact Rc.step_not rfl h3 (Rg.alias_none rfl V _) rfl
              · intro V S w2 HM HU HE
                have lw : Below w6.heap.size w6 w2 := Rc.Mod.below HM (fun _ h => h.elim)
                have h3 : V 3 = .bool false := HU.holds 3 (by decide)
                have tb78 : (Rg.putUse V [(3, 78), (11, 86)] fr).eval (.tmp 78) = .bool false := (Rg.use_eval V fr 78 [(3, 78), (11, 86)] (by simp only [hz]; decide)).trans h3
                have h11 : V 11 = undef := HU.holds 11 (by decide)
                have tb86 : (Rg.putUse V [(3, 78), (11, 86)] fr).eval (.tmp 86) = undef := (Rg.use_eval V fr 86 [(3, 78), (11, 86)] (by simp only [hz]; decide)).trans h11
                show Rg.Does1 _ _ V (Rg.putUse V [(3, 78), (11, 86)] fr) w2 _
                exact Ob.rc_mv (.bool false) (by simp only [execOp, tb78, tb86]; go_simp) rfl rfl True.intro
              · intro V S w2 HM HU HE
                have lw : Below w6.heap.size w6 w2 := Rc.Mod.below HM (fun _ h => h.elim)
                have h12 : V 12 = .bool false := HU.holds 12 (by decide)
                have tb87 : (Rg.putUse V [(12, 87)] fr).eval (.tmp 87) = .bool false := (Rg.use_eval V fr 87 [(12, 87)] (by simp only [hz]; decide)).trans h12
                show Rg.Does1 _ _ V (Rg.putUse V [(12, 87)] fr) w2 _
                exact Ob.rc_mv (.bool true) (by simp only [execOp, tb87]; go_simp) rfl rfl True.intro
              · intro V S w2 HM HU HE
                have lw : Below w6.heap.size w6 w2 := Rc.Mod.below HM (fun _ h => h.elim)
                have h13 : V 13 = .bool true := HU.holds 13 (by decide)
                have tb88 : (Rg.putUse V [(13, 88)] fr).eval (.tmp 88) = .bool true := (Rg.use_eval V fr 88 [(13, 88)] (by simp only [hz]; decide)).trans h13
                show Rg.Does1 _ _ V (Rg.putUse V [(13, 88)] fr) w2 _
                exact Ob.rc_mv (.bool true) (by simp only [execOp, tb88]; go_simp) rfl rfl True.intro
              · intro V S w2 HM HU HE
                have lw : Below w6.heap.size w6 w2 := Rc.Mod.below HM (fun _ h => h.elim)
                have h14 : V 14 = .bool true := HU.holds 14 (by decide)
                have tb10 : (Rg.putUse V [(14, 89)] fr).eval (.tmp 10) = .slice RA (Mk.root Sh.sum R).length rc := (Rg.use_eval V fr 10 [(14, 89)] (by simp only [hz]; decide)).trans y10
                show Rg.Does1 _ _ V (Rg.putUse V [(14, 89)] fr) w2 _
                exact Ob.rc_mv (.slice RA (Mk.root Sh.sum R).length rc) (by simp only [execOp, tb10]; go_simp) rfl rfl h14
              · intro V S w2 HM HU HE
                have lw : Below w6.heap.size w6 w2 := Rc.Mod.below HM (fun _ h => h.elim)
                have h14 : V 14 = .bool true := HU.holds 14 (by decide)
                have tb7 : (Rg.putUse V [(14, 89)] fr).eval (.tmp 7) = .slice (some ⟨b, off, none⟩) R.length c := (Rg.use_eval V fr 7 [(14, 89)] (by simp only [hz]; decide)).trans y7
                show Rg.Does1 _ _ V (Rg.putUse V [(14, 89)] fr) w2 _
                exact Ob.rc_mv (.slice (some ⟨b, off, none⟩) R.length c) (by simp only [execOp, tb7]; go_simp) rfl rfl h14
              · intro V S w2 HM HU HE
                have lw : Below w6.heap.size w6 w2 := Rc.Mod.below HM (fun _ h => h.elim)
                have h14 : V 14 = .bool true := HU.holds 14 (by decide)
                have tb2 : (Rg.putUse V [(14, 89)] fr).eval (.tmp 2) = .int .i64 ((q : Nat) : Int) := (Rg.use_eval V fr 2 [(14, 89)] (by simp only [hz]; decide)).trans y2
                show Rg.Does1 _ _ V (Rg.putUse V [(14, 89)] fr) w2 _
                exact Ob.rc_mv (.int .i64 ((q : Nat) : Int)) (by simp only [execOp, tb2]; go_simp) rfl rfl h14
              · intro V S w2 HM HU HE
                have lw : Below w6.heap.size w6 w2 := Rc.Mod.below HM (fun _ h => h.elim)
                have h14 : V 14 = .bool true := HU.holds 14 (by decide)
                have h16 : V 16 = .slice (some ⟨b, off, none⟩) R.length c := HU.holds 16 (by decide)
                have tb91 : (Rg.putUse V [(14, 89), (16, 91), (17, 92)] fr).eval (.tmp 91) = .slice (some ⟨b, off, none⟩) R.length c := (Rg.use_eval V fr 91 [(14, 89), (16, 91), (17, 92)] (by simp only [hz]; decide)).trans h16
                have h17 : V 17 = .int .i64 ((q : Nat) : Int) := HU.holds 17 (by decide)
                have tb92 : (Rg.putUse V [(14, 89), (16, 91), (17, 92)] fr).eval (.tmp 92) = .int .i64 ((q : Nat) : Int) := (Rg.use_eval V fr 92 [(14, 89), (16, 91), (17, 92)] (by simp only [hz]; decide)).trans h17
                show Rg.Does1 _ _ V (Rg.putUse V [(14, 89), (16, 91), (17, 92)] fr) w2 _
                exact Ob.rc_mv (.pointer (some ⟨b, off + q, none⟩)) (by simp only [execOp, tb91, tb92]; go_simp; try (intro h; exfalso; omega)) rfl rfl h14
              · intro V S w2 HM HU HE
                have lw : Below w6.heap.size w6 w2 := Rc.Mod.below HM (fun _ h => h.elim)
                have h14 : V 14 = .bool true := HU.holds 14 (by decide)
                have h18 : V 18 = .pointer (some ⟨b, off + q, none⟩) := HU.holds 18 (by decide)
                have tb93 : (Rg.putUse V [(14, 89), (18, 93)] fr).eval (.tmp 93) = .pointer (some ⟨b, off + q, none⟩) := (Rg.use_eval V fr 93 [(14, 89), (18, 93)] (by simp only [hz]; decide)).trans h18
                show Rg.Does1 _ _ V (Rg.putUse V [(14, 89), (18, 93)] fr) w2 _
                have cu := (lw.cell (p := ⟨b, off + q, none⟩) HBL6.out).trans hcell2_6
                exact Ob.rc_mv (.slice ZA z.length zc) (by simp only [execOp, tb93]; go_simp) rfl rfl h14
              · intro V S w2 HM HU HE
                have lw : Below w6.heap.size w6 w2 := Rc.Mod.below HM (fun _ h => h.elim)
                have h14 : V 14 = .bool true := HU.holds 14 (by decide)
                have tb1 : (Rg.putUse V [(14, 89)] fr).eval (.tmp 1) = .int .i64 ((k : Nat) : Int) := (Rg.use_eval V fr 1 [(14, 89)] (by simp only [hz]; decide)).trans y1
                show Rg.Does1 _ _ V (Rg.putUse V [(14, 89)] fr) w2 _
                exact Ob.rc_mv (.int .i64 ((k : Nat) : Int)) (by simp only [execOp, tb1]; go_simp) rfl rfl h14
              · intro V S w2 HM HU HE
                have lw : Below w6.heap.size w6 w2 := Rc.Mod.below HM (fun _ h => h.elim)
                have h14 : V 14 = .bool true := HU.holds 14 (by decide)
                have tb7 : (Rg.putUse V [(14, 89)] fr).eval (.tmp 7) = .slice (some ⟨b, off, none⟩) R.length c := (Rg.use_eval V fr 7 [(14, 89)] (by simp only [hz]; decide)).trans y7
                show Rg.Does1 _ _ V (Rg.putUse V [(14, 89)] fr) w2 _
                exact Ob.rc_mv (.slice (some ⟨b, off, none⟩) R.length c) (by simp only [execOp, tb7]; go_simp) rfl rfl h14
              · intro V S w2 HM HU HE
                have lw : Below w6.heap.size w6 w2 := Rc.Mod.below HM (fun _ h => h.elim)
                have h14 : V 14 = .bool true := HU.holds 14 (by decide)
                have h21 : V 21 = .slice (some ⟨b, off, none⟩) R.length c := HU.holds 21 (by decide)
                have tb96 : (Rg.putUse V [(14, 89), (21, 96)] fr).eval (.tmp 96) = .slice (some ⟨b, off, none⟩) R.length c := (Rg.use_eval V fr 96 [(14, 89), (21, 96)] (by simp only [hz]; decide)).trans h21
                show Rg.Does1 _ _ V (Rg.putUse V [(14, 89), (21, 96)] fr) w2 _
                exact Ob.rc_mv (.int .i64 ((R.length : Nat) : Int)) (by simp only [execOp, resolve, List.map_toArray, List.map_cons, List.map_nil, tb96]; go_simp) rfl rfl h14
              · intro V S w2 HM HU HE
                have lw : Below w6.heap.size w6 w2 := Rc.Mod.below HM (fun _ h => h.elim)
                have h14 : V 14 = .bool true := HU.holds 14 (by decide)
                have tb8 : (Rg.putUse V [(14, 89)] fr).eval (.tmp 8) = .slice PA P.length pc := (Rg.use_eval V fr 8 [(14, 89)] (by simp only [hz]; decide)).trans y8
                show Rg.Does1 _ _ V (Rg.putUse V [(14, 89)] fr) w2 _
                exact Ob.rc_mv (.slice PA P.length pc) (by simp only [execOp, tb8]; go_simp) rfl rfl h14
              · intro V S w2 HM HU HE
                have lw : Below w6.heap.size w6 w2 := Rc.Mod.below HM (fun _ h => h.elim)
                have h14 : V 14 = .bool true := HU.holds 14 (by decide)
                have h15 : V 15 = .slice RA (Mk.root Sh.sum R).length rc := HU.holds 15 (by decide)
                have tb90 : (Rg.putUse V [(14, 89), (15, 90), (19, 94), (20, 95), (22, 97), (23, 98)] fr).eval (.tmp 90) = .slice RA (Mk.root Sh.sum R).length rc := (Rg.use_eval V fr 90 [(14, 89), (15, 90), (19, 94), (20, 95), (22, 97), (23, 98)] (by simp only [hz]; decide)).trans h15
                have h19 : V 19 = .slice ZA z.length zc := HU.holds 19 (by decide)
                have tb94 : (Rg.putUse V [(14, 89), (15, 90), (19, 94), (20, 95), (22, 97), (23, 98)] fr).eval (.tmp 94) = .slice ZA z.length zc := (Rg.use_eval V fr 94 [(14, 89), (15, 90), (19, 94), (20, 95), (22, 97), (23, 98)] (by simp only [hz]; decide)).trans h19
                have h20 : V 20 = .int .i64 ((k : Nat) : Int) := HU.holds 20 (by decide)
                have tb95 : (Rg.putUse V [(14, 89), (15, 90), (19, 94), (20, 95), (22, 97), (23, 98)] fr).eval (.tmp 95) = .int .i64 ((k : Nat) : Int) := (Rg.use_eval V fr 95 [(14, 89), (15, 90), (19, 94), (20, 95), (22, 97), (23, 98)] (by simp only [hz]; decide)).trans h20
                have h22 : V 22 = .int .i64 ((R.length : Nat) : Int) := HU.holds 22 (by decide)
                have tb97 : (Rg.putUse V [(14, 89), (15, 90), (19, 94), (20, 95), (22, 97), (23, 98)] fr).eval (.tmp 97) = .int .i64 ((R.length : Nat) : Int) := (Rg.use_eval V fr 97 [(14, 89), (15, 90), (19, 94), (20, 95), (22, 97), (23, 98)] (by simp only [hz]; decide)).trans h22
                have h23 : V 23 = .slice PA P.length pc := HU.holds 23 (by decide)
                have tb98 : (Rg.putUse V [(14, 89), (15, 90), (19, 94), (20, 95), (22, 97), (23, 98)] fr).eval (.tmp 98) = .slice PA P.length pc := (Rg.use_eval V fr 98 [(14, 89), (15, 90), (19, 94), (20, 95), (22, 97), (23, 98)] (by simp only [hz]; decide)).trans h23
                show Rg.Does1 _ _ V (Rg.putUse V [(14, 89), (15, 90), (19, 94), (20, 95), (22, 97), (23, 98)] fr) w2 _
                exact Ob.step_tell (.bool (chk (Mk.root Sh.sum R) z (k : Nat) R.length P)) #[.slice RA (Mk.root Sh.sum R).length rc, .slice ZA z.length zc, .int .i64 ((k : Nat) : Int), .int .i64 ((R.length : Nat) : Int), .slice PA P.length pc] (fun args w => Rg.call_enter Tryd.func14 (by kernel_rfl) (by kernel_rfl) args w) rfl (by simp only [List.map_toArray, List.map_cons, List.map_nil, tb90, tb94, tb95, tb97, tb98]) rfl (fun x => Rg.alias_none rfl V x) h14 (pCheck w2 (Mk.root Sh.sum R) z RA ZA rc zc k R.length P PA pc (by omega) (by omega) (HRR6.out.below lw) (HZ6.out.below lw) hzc (by omega) (HP6.out.below lw) hpc HSP.out (by omega) (HK6.out.later lw))
              · intro V S w2 HM HU HE
                have lw : Below w6.heap.size w6 w2 := Rc.Mod.below HM (fun _ h => h.elim)
                have h14 : V 14 = .bool true := HU.holds 14 (by decide)
                have tb10 : (Rg.putUse V [(14, 89)] fr).eval (.tmp 10) = .slice RA (Mk.root Sh.sum R).length rc := (Rg.use_eval V fr 10 [(14, 89)] (by simp only [hz]; decide)).trans y10
                show Rg.Does1 _ _ V (Rg.putUse V [(14, 89)] fr) w2 _
                exact Ob.rc_mv (.slice RA (Mk.root Sh.sum R).length rc) (by simp only [execOp, tb10]; go_simp) rfl rfl h14
              · intro V S w2 HM HU HE
                have lw : Below w6.heap.size w6 w2 := Rc.Mod.below HM (fun _ h => h.elim)
                have h14 : V 14 = .bool true := HU.holds 14 (by decide)
                have tb7 : (Rg.putUse V [(14, 89)] fr).eval (.tmp 7) = .slice (some ⟨b, off, none⟩) R.length c := (Rg.use_eval V fr 7 [(14, 89)] (by simp only [hz]; decide)).trans y7
                show Rg.Does1 _ _ V (Rg.putUse V [(14, 89)] fr) w2 _
                exact Ob.rc_mv (.slice (some ⟨b, off, none⟩) R.length c) (by simp only [execOp, tb7]; go_simp) rfl rfl h14
              · intro V S w2 HM HU HE
                have lw : Below w6.heap.size w6 w2 := Rc.Mod.below HM (fun _ h => h.elim)
                have h14 : V 14 = .bool true := HU.holds 14 (by decide)
                have tb2 : (Rg.putUse V [(14, 89)] fr).eval (.tmp 2) = .int .i64 ((q : Nat) : Int) := (Rg.use_eval V fr 2 [(14, 89)] (by simp only [hz]; decide)).trans y2
                show Rg.Does1 _ _ V (Rg.putUse V [(14, 89)] fr) w2 _
                exact Ob.rc_mv (.int .i64 ((q : Nat) : Int)) (by simp only [execOp, tb2]; go_simp) rfl rfl h14
              · intro V S w2 HM HU HE
                have lw : Below w6.heap.size w6 w2 := Rc.Mod.below HM (fun _ h => h.elim)
                have h14 : V 14 = .bool true := HU.holds 14 (by decide)
                have h26 : V 26 = .slice (some ⟨b, off, none⟩) R.length c := HU.holds 26 (by decide)
                have tb101 : (Rg.putUse V [(14, 89), (26, 101), (27, 102)] fr).eval (.tmp 101) = .slice (some ⟨b, off, none⟩) R.length c := (Rg.use_eval V fr 101 [(14, 89), (26, 101), (27, 102)] (by simp only [hz]; decide)).trans h26
                have h27 : V 27 = .int .i64 ((q : Nat) : Int) := HU.holds 27 (by decide)
                have tb102 : (Rg.putUse V [(14, 89), (26, 101), (27, 102)] fr).eval (.tmp 102) = .int .i64 ((q : Nat) : Int) := (Rg.use_eval V fr 102 [(14, 89), (26, 101), (27, 102)] (by simp only [hz]; decide)).trans h27
                show Rg.Does1 _ _ V (Rg.putUse V [(14, 89), (26, 101), (27, 102)] fr) w2 _
                exact Ob.rc_mv (.pointer (some ⟨b, off + q, none⟩)) (by simp only [execOp, tb101, tb102]; go_simp; try (intro h; exfalso; omega)) rfl rfl h14
              · intro V S w2 HM HU HE
                have lw : Below w6.heap.size w6 w2 := Rc.Mod.below HM (fun _ h => h.elim)
                have h14 : V 14 = .bool true := HU.holds 14 (by decide)
                have h28 : V 28 = .pointer (some ⟨b, off + q, none⟩) := HU.holds 28 (by decide)
                have tb103 : (Rg.putUse V [(14, 89), (28, 103)] fr).eval (.tmp 103) = .pointer (some ⟨b, off + q, none⟩) := (Rg.use_eval V fr 103 [(14, 89), (28, 103)] (by simp only [hz]; decide)).trans h28
                show Rg.Does1 _ _ V (Rg.putUse V [(14, 89), (28, 103)] fr) w2 _
                have cu := (lw.cell (p := ⟨b, off + q, none⟩) HBL6.out).trans hcell2_6
                exact Ob.rc_mv (.slice ZA z.length zc) (by simp only [execOp, tb103]; go_simp) rfl rfl h14
              · intro V S w2 HM HU HE
                have lw : Below w6.heap.size w6 w2 := Rc.Mod.below HM (fun _ h => h.elim)
                have h14 : V 14 = .bool true := HU.holds 14 (by decide)
                have tb1 : (Rg.putUse V [(14, 89)] fr).eval (.tmp 1) = .int .i64 ((k : Nat) : Int) := (Rg.use_eval V fr 1 [(14, 89)] (by simp only [hz]; decide)).trans y1
                show Rg.Does1 _ _ V (Rg.putUse V [(14, 89)] fr) w2 _
                exact Ob.rc_mv (.int .i64 ((k : Nat) : Int)) (by simp only [execOp, tb1]; go_simp) rfl rfl h14
              · intro V S w2 HM HU HE
                have lw : Below w6.heap.size w6 w2 := Rc.Mod.below HM (fun _ h => h.elim)
                have h14 : V 14 = .bool true := HU.holds 14 (by decide)
                have tb7 : (Rg.putUse V [(14, 89)] fr).eval (.tmp 7) = .slice (some ⟨b, off, none⟩) R.length c := (Rg.use_eval V fr 7 [(14, 89)] (by simp only [hz]; decide)).trans y7
                show Rg.Does1 _ _ V (Rg.putUse V [(14, 89)] fr) w2 _
                exact Ob.rc_mv (.slice (some ⟨b, off, none⟩) R.length c) (by simp only [execOp, tb7]; go_simp) rfl rfl h14
              · intro V S w2 HM HU HE
                have lw : Below w6.heap.size w6 w2 := Rc.Mod.below HM (fun _ h => h.elim)
                have h14 : V 14 = .bool true := HU.holds 14 (by decide)
                have h31 : V 31 = .slice (some ⟨b, off, none⟩) R.length c := HU.holds 31 (by decide)
                have tb106 : (Rg.putUse V [(14, 89), (31, 106)] fr).eval (.tmp 106) = .slice (some ⟨b, off, none⟩) R.length c := (Rg.use_eval V fr 106 [(14, 89), (31, 106)] (by simp only [hz]; decide)).trans h31
                show Rg.Does1 _ _ V (Rg.putUse V [(14, 89), (31, 106)] fr) w2 _
                exact Ob.rc_mv (.int .i64 ((R.length : Nat) : Int)) (by simp only [execOp, resolve, List.map_toArray, List.map_cons, List.map_nil, tb106]; go_simp) rfl rfl h14
              · intro V S w2 HM HU HE
                have lw : Below w6.heap.size w6 w2 := Rc.Mod.below HM (fun _ h => h.elim)
                have h14 : V 14 = .bool true := HU.holds 14 (by decide)
                have tb8 : (Rg.putUse V [(14, 89)] fr).eval (.tmp 8) = .slice PA P.length pc := (Rg.use_eval V fr 8 [(14, 89)] (by simp only [hz]; decide)).trans y8
                show Rg.Does1 _ _ V (Rg.putUse V [(14, 89)] fr) w2 _
                exact Ob.rc_mv (.slice PA P.length pc) (by simp only [execOp, tb8]; go_simp) rfl rfl h14
              · intro V S w2 HM HU HE
                have lw : Below w6.heap.size w6 w2 := Rc.Mod.below HM (fun _ h => h.elim)
                have h14 : V 14 = .bool true := HU.holds 14 (by decide)
                have h25 : V 25 = .slice RA (Mk.root Sh.sum R).length rc := HU.holds 25 (by decide)
                have tb100 : (Rg.putUse V [(14, 89), (25, 100), (29, 104), (30, 105), (32, 107), (33, 108)] fr).eval (.tmp 100) = .slice RA (Mk.root Sh.sum R).length rc := (Rg.use_eval V fr 100 [(14, 89), (25, 100), (29, 104), (30, 105), (32, 107), (33, 108)] (by simp only [hz]; decide)).trans h25
                have h29 : V 29 = .slice ZA z.length zc := HU.holds 29 (by decide)
                have tb104 : (Rg.putUse V [(14, 89), (25, 100), (29, 104), (30, 105), (32, 107), (33, 108)] fr).eval (.tmp 104) = .slice ZA z.length zc := (Rg.use_eval V fr 104 [(14, 89), (25, 100), (29, 104), (30, 105), (32, 107), (33, 108)] (by simp only [hz]; decide)).trans h29
                have h30 : V 30 = .int .i64 ((k : Nat) : Int) := HU.holds 30 (by decide)
                have tb105 : (Rg.putUse V [(14, 89), (25, 100), (29, 104), (30, 105), (32, 107), (33, 108)] fr).eval (.tmp 105) = .int .i64 ((k : Nat) : Int) := (Rg.use_eval V fr 105 [(14, 89), (25, 100), (29, 104), (30, 105), (32, 107), (33, 108)] (by simp only [hz]; decide)).trans h30
                have h32 : V 32 = .int .i64 ((R.length : Nat) : Int) := HU.holds 32 (by decide)
                have tb107 : (Rg.putUse V [(14, 89), (25, 100), (29, 104), (30, 105), (32, 107), (33, 108)] fr).eval (.tmp 107) = .int .i64 ((R.length : Nat) : Int) := (Rg.use_eval V fr 107 [(14, 89), (25, 100), (29, 104), (30, 105), (32, 107), (33, 108)] (by simp only [hz]; decide)).trans h32
                have h33 : V 33 = .slice PA P.length pc := HU.holds 33 (by decide)
                have tb108 : (Rg.putUse V [(14, 89), (25, 100), (29, 104), (30, 105), (32, 107), (33, 108)] fr).eval (.tmp 108) = .slice PA P.length pc := (Rg.use_eval V fr 108 [(14, 89), (25, 100), (29, 104), (30, 105), (32, 107), (33, 108)] (by simp only [hz]; decide)).trans h33
                show Rg.Does1 _ _ V (Rg.putUse V [(14, 89), (25, 100), (29, 104), (30, 105), (32, 107), (33, 108)] fr) w2 _
                exact Ob.step_tell (.bool (chk (Mk.root Sh.sum R) z (k : Nat) R.length P)) #[.slice RA (Mk.root Sh.sum R).length rc, .slice ZA z.length zc, .int .i64 ((k : Nat) : Int), .int .i64 ((R.length : Nat) : Int), .slice PA P.length pc] (fun args w => Rg.call_enter Tryd.func22 (by kernel_rfl) (by kernel_rfl) args w) rfl (by simp only [List.map_toArray, List.map_cons, List.map_nil, tb100, tb104, tb105, tb107, tb108]) rfl (fun x => Rg.alias_none rfl V x) h14 (rCheck w2 (Mk.root Sh.sum R) z RA ZA rc zc k R.length P PA pc (by omega) (by omega) (HRR6.out.below lw) (HZ6.out.below lw) hzc (by omega) (HP6.out.below lw) hpc HSP.out (by omega) trivial)
              · intro V S w2 HM HU HE
                have lw : Below w6.heap.size w6 w2 := Rc.Mod.below HM (fun _ h => h.elim)
                have h14 : V 14 = .bool true := HU.holds 14 (by decide)
                have h24 : V 24 = .bool (chk (Mk.root Sh.sum R) z (k : Nat) R.length P) := HU.holds 24 (by decide)
                have tb99 : (Rg.putUse V [(14, 89), (24, 99), (34, 109)] fr).eval (.tmp 99) = .bool (chk (Mk.root Sh.sum R) z (k : Nat) R.length P) := (Rg.use_eval V fr 99 [(14, 89), (24, 99), (34, 109)] (by simp only [hz]; decide)).trans h24
                have h34 : V 34 = .bool (chk (Mk.root Sh.sum R) z (k : Nat) R.length P) := HU.holds 34 (by decide)
                have tb109 : (Rg.putUse V [(14, 89), (24, 99), (34, 109)] fr).eval (.tmp 109) = .bool (chk (Mk.root Sh.sum R) z (k : Nat) R.length P) := (Rg.use_eval V fr 109 [(14, 89), (24, 99), (34, 109)] (by simp only [hz]; decide)).trans h34
                show Rg.Does1 _ _ V (Rg.putUse V [(14, 89), (24, 99), (34, 109)] fr) w2 _
                exact Ob.rc_mv (.bool true) (by simp only [execOp, tb99, tb109]; go_simp) rfl rfl h14
              · intro V S w2 HM HU HE
                have lw : Below w6.heap.size w6 w2 := Rc.Mod.below HM (fun _ h => h.elim)
                have h14 : V 14 = .bool true := HU.holds 14 (by decide)
                have tb89 : (Rg.putUse V [(14, 89), (35, 110)] fr).eval (.tmp 89) = .bool true := (Rg.use_eval V fr 89 [(14, 89), (35, 110)] (by simp only [hz]; decide)).trans h14
                have h35 : V 35 = .bool true := HU.holds 35 (by decide)
                have tb110 : (Rg.putUse V [(14, 89), (35, 110)] fr).eval (.tmp 110) = .bool true := (Rg.use_eval V fr 110 [(14, 89), (35, 110)] (by simp only [hz]; decide)).trans h35
                show Rg.Does1 _ _ V (Rg.putUse V [(14, 89), (35, 110)] fr) w2 _
                exact Ob.rc_mv (.bool true) (by simp only [execOp, tb89, tb110]; go_simp) rfl rfl True.intro
              · intro V S w2 HM HU HE
                have lw : Below w6.heap.size w6 w2 := Rc.Mod.below HM (fun _ h => h.elim)
                have h36 : V 36 = .bool true := HU.holds 36 (by decide)
                have tb111 : (Rg.putUse V [(36, 111)] fr).eval (.tmp 111) = .bool true := (Rg.use_eval V fr 111 [(36, 111)] (by simp only [hz]; decide)).trans h36
                show Rg.Does1 _ _ V (Rg.putUse V [(36, 111)] fr) w2 _
                exact Ob.rc_mv (.bool true) (by simp only [execOp, tb111]; go_simp) rfl rfl True.intro
              · intro V S w2 HM HU HE
                have lw : Below w6.heap.size w6 w2 := Rc.Mod.below HM (fun _ h => h.elim)
                have h37 : V 37 = .bool true := HU.holds 37 (by decide)
                have tb10 : (Rg.putUse V [(37, 112)] fr).eval (.tmp 10) = .slice RA (Mk.root Sh.sum R).length rc := (Rg.use_eval V fr 10 [(37, 112)] (by simp only [hz]; decide)).trans y10
                show Rg.Does1 _ _ V (Rg.putUse V [(37, 112)] fr) w2 _
                exact Ob.rc_mv (.slice RA (Mk.root Sh.sum R).length rc) (by simp only [execOp, tb10]; go_simp) rfl rfl h37
              · intro V S w2 HM HU HE
                have lw : Below w6.heap.size w6 w2 := Rc.Mod.below HM (fun _ h => h.elim)
                have h37 : V 37 = .bool true := HU.holds 37 (by decide)
                have tb7 : (Rg.putUse V [(37, 112)] fr).eval (.tmp 7) = .slice (some ⟨b, off, none⟩) R.length c := (Rg.use_eval V fr 7 [(37, 112)] (by simp only [hz]; decide)).trans y7
                show Rg.Does1 _ _ V (Rg.putUse V [(37, 112)] fr) w2 _
                exact Ob.rc_mv (.slice (some ⟨b, off, none⟩) R.length c) (by simp only [execOp, tb7]; go_simp) rfl rfl h37
              · intro V S w2 HM HU HE
                have lw : Below w6.heap.size w6 w2 := Rc.Mod.below HM (fun _ h => h.elim)
                have h37 : V 37 = .bool true := HU.holds 37 (by decide)
                have tb1 : (Rg.putUse V [(37, 112)] fr).eval (.tmp 1) = .int .i64 ((k : Nat) : Int) := (Rg.use_eval V fr 1 [(37, 112)] (by simp only [hz]; decide)).trans y1
                show Rg.Does1 _ _ V (Rg.putUse V [(37, 112)] fr) w2 _
                exact Ob.rc_mv (.int .i64 ((k : Nat) : Int)) (by simp only [execOp, tb1]; go_simp) rfl rfl h37
              · intro V S w2 HM HU HE
                have lw : Below w6.heap.size w6 w2 := Rc.Mod.below HM (fun _ h => h.elim)
                have h37 : V 37 = .bool true := HU.holds 37 (by decide)
                have h39 : V 39 = .slice (some ⟨b, off, none⟩) R.length c := HU.holds 39 (by decide)
                have tb114 : (Rg.putUse V [(37, 112), (39, 114), (40, 115)] fr).eval (.tmp 114) = .slice (some ⟨b, off, none⟩) R.length c := (Rg.use_eval V fr 114 [(37, 112), (39, 114), (40, 115)] (by simp only [hz]; decide)).trans h39
                have h40 : V 40 = .int .i64 ((k : Nat) : Int) := HU.holds 40 (by decide)
                have tb115 : (Rg.putUse V [(37, 112), (39, 114), (40, 115)] fr).eval (.tmp 115) = .int .i64 ((k : Nat) : Int) := (Rg.use_eval V fr 115 [(37, 112), (39, 114), (40, 115)] (by simp only [hz]; decide)).trans h40
                show Rg.Does1 _ _ V (Rg.putUse V [(37, 112), (39, 114), (40, 115)] fr) w2 _
                exact Ob.rc_mv (.pointer (some ⟨b, off + k, none⟩)) (by simp only [execOp, tb114, tb115]; go_simp; try (intro h; exfalso; omega)) rfl rfl h37
              · intro V S w2 HM HU HE
                have lw : Below w6.heap.size w6 w2 := Rc.Mod.below HM (fun _ h => h.elim)
                have h37 : V 37 = .bool true := HU.holds 37 (by decide)
                have h41 : V 41 = .pointer (some ⟨b, off + k, none⟩) := HU.holds 41 (by decide)
                have tb116 : (Rg.putUse V [(37, 112), (41, 116)] fr).eval (.tmp 116) = .pointer (some ⟨b, off + k, none⟩) := (Rg.use_eval V fr 116 [(37, 112), (41, 116)] (by simp only [hz]; decide)).trans h41
                show Rg.Does1 _ _ V (Rg.putUse V [(37, 112), (41, 116)] fr) w2 _
                have cu := (lw.cell (p := ⟨b, off + k, none⟩) HBL6.out).trans hcell_6
                exact Ob.rc_mv (.slice YA y.length yc) (by simp only [execOp, tb116]; go_simp) rfl rfl h37
              · intro V S w2 HM HU HE
                have lw : Below w6.heap.size w6 w2 := Rc.Mod.below HM (fun _ h => h.elim)
                have h37 : V 37 = .bool true := HU.holds 37 (by decide)
                have tb2 : (Rg.putUse V [(37, 112)] fr).eval (.tmp 2) = .int .i64 ((q : Nat) : Int) := (Rg.use_eval V fr 2 [(37, 112)] (by simp only [hz]; decide)).trans y2
                show Rg.Does1 _ _ V (Rg.putUse V [(37, 112)] fr) w2 _
                exact Ob.rc_mv (.int .i64 ((q : Nat) : Int)) (by simp only [execOp, tb2]; go_simp) rfl rfl h37
              · intro V S w2 HM HU HE
                have lw : Below w6.heap.size w6 w2 := Rc.Mod.below HM (fun _ h => h.elim)
                have h37 : V 37 = .bool true := HU.holds 37 (by decide)
                have tb7 : (Rg.putUse V [(37, 112)] fr).eval (.tmp 7) = .slice (some ⟨b, off, none⟩) R.length c := (Rg.use_eval V fr 7 [(37, 112)] (by simp only [hz]; decide)).trans y7
                show Rg.Does1 _ _ V (Rg.putUse V [(37, 112)] fr) w2 _
                exact Ob.rc_mv (.slice (some ⟨b, off, none⟩) R.length c) (by simp only [execOp, tb7]; go_simp) rfl rfl h37
              · intro V S w2 HM HU HE
                have lw : Below w6.heap.size w6 w2 := Rc.Mod.below HM (fun _ h => h.elim)
                have h37 : V 37 = .bool true := HU.holds 37 (by decide)
                have h44 : V 44 = .slice (some ⟨b, off, none⟩) R.length c := HU.holds 44 (by decide)
                have tb119 : (Rg.putUse V [(37, 112), (44, 119)] fr).eval (.tmp 119) = .slice (some ⟨b, off, none⟩) R.length c := (Rg.use_eval V fr 119 [(37, 112), (44, 119)] (by simp only [hz]; decide)).trans h44
                show Rg.Does1 _ _ V (Rg.putUse V [(37, 112), (44, 119)] fr) w2 _
                exact Ob.rc_mv (.int .i64 ((R.length : Nat) : Int)) (by simp only [execOp, resolve, List.map_toArray, List.map_cons, List.map_nil, tb119]; go_simp) rfl rfl h37
              · intro V S w2 HM HU HE
                have lw : Below w6.heap.size w6 w2 := Rc.Mod.below HM (fun _ h => h.elim)
                have h37 : V 37 = .bool true := HU.holds 37 (by decide)
                have tb8 : (Rg.putUse V [(37, 112)] fr).eval (.tmp 8) = .slice PA P.length pc := (Rg.use_eval V fr 8 [(37, 112)] (by simp only [hz]; decide)).trans y8
                show Rg.Does1 _ _ V (Rg.putUse V [(37, 112)] fr) w2 _
                exact Ob.rc_mv (.slice PA P.length pc) (by simp only [execOp, tb8]; go_simp) rfl rfl h37
              · intro V S w2 HM HU HE
                have lw : Below w6.heap.size w6 w2 := Rc.Mod.below HM (fun _ h => h.elim)
                have h37 : V 37 = .bool true := HU.holds 37 (by decide)
                have h38 : V 38 = .slice RA (Mk.root Sh.sum R).length rc := HU.holds 38 (by decide)
                have tb113 : (Rg.putUse V [(37, 112), (38, 113), (42, 117), (43, 118), (45, 120), (46, 121)] fr).eval (.tmp 113) = .slice RA (Mk.root Sh.sum R).length rc := (Rg.use_eval V fr 113 [(37, 112), (38, 113), (42, 117), (43, 118), (45, 120), (46, 121)] (by simp only [hz]; decide)).trans h38
                have h42 : V 42 = .slice YA y.length yc := HU.holds 42 (by decide)
                have tb117 : (Rg.putUse V [(37, 112), (38, 113), (42, 117), (43, 118), (45, 120), (46, 121)] fr).eval (.tmp 117) = .slice YA y.length yc := (Rg.use_eval V fr 117 [(37, 112), (38, 113), (42, 117), (43, 118), (45, 120), (46, 121)] (by simp only [hz]; decide)).trans h42
                have h43 : V 43 = .int .i64 ((q : Nat) : Int) := HU.holds 43 (by decide)
                have tb118 : (Rg.putUse V [(37, 112), (38, 113), (42, 117), (43, 118), (45, 120), (46, 121)] fr).eval (.tmp 118) = .int .i64 ((q : Nat) : Int) := (Rg.use_eval V fr 118 [(37, 112), (38, 113), (42, 117), (43, 118), (45, 120), (46, 121)] (by simp only [hz]; decide)).trans h43
                have h45 : V 45 = .int .i64 ((R.length : Nat) : Int) := HU.holds 45 (by decide)
                have tb120 : (Rg.putUse V [(37, 112), (38, 113), (42, 117), (43, 118), (45, 120), (46, 121)] fr).eval (.tmp 120) = .int .i64 ((R.length : Nat) : Int) := (Rg.use_eval V fr 120 [(37, 112), (38, 113), (42, 117), (43, 118), (45, 120), (46, 121)] (by simp only [hz]; decide)).trans h45
                have h46 : V 46 = .slice PA P.length pc := HU.holds 46 (by decide)
                have tb121 : (Rg.putUse V [(37, 112), (38, 113), (42, 117), (43, 118), (45, 120), (46, 121)] fr).eval (.tmp 121) = .slice PA P.length pc := (Rg.use_eval V fr 121 [(37, 112), (38, 113), (42, 117), (43, 118), (45, 120), (46, 121)] (by simp only [hz]; decide)).trans h46
                show Rg.Does1 _ _ V (Rg.putUse V [(37, 112), (38, 113), (42, 117), (43, 118), (45, 120), (46, 121)] fr) w2 _
                exact Ob.step_tell (.bool (chk (Mk.root Sh.sum R) y (q : Nat) R.length P)) #[.slice RA (Mk.root Sh.sum R).length rc, .slice YA y.length yc, .int .i64 ((q : Nat) : Int), .int .i64 ((R.length : Nat) : Int), .slice PA P.length pc] (fun args w => Rg.call_enter Tryd.func14 (by kernel_rfl) (by kernel_rfl) args w) rfl (by simp only [List.map_toArray, List.map_cons, List.map_nil, tb113, tb117, tb118, tb120, tb121]) rfl (fun x => Rg.alias_none rfl V x) h37 (pCheck w2 (Mk.root Sh.sum R) y RA YA rc yc q R.length P PA pc (by omega) (by omega) (HRR6.out.below lw) (HY6.out.below lw) hyc (by omega) (HP6.out.below lw) hpc HSP.out (by omega) (HK6.out.later lw))
              · intro V S w2 HM HU HE
                have lw : Below w6.heap.size w6 w2 := Rc.Mod.below HM (fun _ h => h.elim)
                have h37 : V 37 = .bool true := HU.holds 37 (by decide)
                have tb10 : (Rg.putUse V [(37, 112)] fr).eval (.tmp 10) = .slice RA (Mk.root Sh.sum R).length rc := (Rg.use_eval V fr 10 [(37, 112)] (by simp only [hz]; decide)).trans y10
                show Rg.Does1 _ _ V (Rg.putUse V [(37, 112)] fr) w2 _
                exact Ob.rc_mv (.slice RA (Mk.root Sh.sum R).length rc) (by simp only [execOp, tb10]; go_simp) rfl rfl h37
              · intro V S w2 HM HU HE
                have lw : Below w6.heap.size w6 w2 := Rc.Mod.below HM (fun _ h => h.elim)
                have h37 : V 37 = .bool true := HU.holds 37 (by decide)
                have tb7 : (Rg.putUse V [(37, 112)] fr).eval (.tmp 7) = .slice (some ⟨b, off, none⟩) R.length c := (Rg.use_eval V fr 7 [(37, 112)] (by simp only [hz]; decide)).trans y7
                show Rg.Does1 _ _ V (Rg.putUse V [(37, 112)] fr) w2 _
                exact Ob.rc_mv (.slice (some ⟨b, off, none⟩) R.length c) (by simp only [execOp, tb7]; go_simp) rfl rfl h37
              · intro V S w2 HM HU HE
                have lw : Below w6.heap.size w6 w2 := Rc.Mod.below HM (fun _ h => h.elim)
                have h37 : V 37 = .bool true := HU.holds 37 (by decide)
                have tb1 : (Rg.putUse V [(37, 112)] fr).eval (.tmp 1) = .int .i64 ((k : Nat) : Int) := (Rg.use_eval V fr 1 [(37, 112)] (by simp only [hz]; decide)).trans y1
                show Rg.Does1 _ _ V (Rg.putUse V [(37, 112)] fr) w2 _
                exact Ob.rc_mv (.int .i64 ((k : Nat) : Int)) (by simp only [execOp, tb1]; go_simp) rfl rfl h37
              · intro V S w2 HM HU HE
                have lw : Below w6.heap.size w6 w2 := Rc.Mod.below HM (fun _ h => h.elim)
                have h37 : V 37 = .bool true := HU.holds 37 (by decide)
                have h49 : V 49 = .slice (some ⟨b, off, none⟩) R.length c := HU.holds 49 (by decide)
                have tb124 : (Rg.putUse V [(37, 112), (49, 124), (50, 125)] fr).eval (.tmp 124) = .slice (some ⟨b, off, none⟩) R.length c := (Rg.use_eval V fr 124 [(37, 112), (49, 124), (50, 125)] (by simp only [hz]; decide)).trans h49
                have h50 : V 50 = .int .i64 ((k : Nat) : Int) := HU.holds 50 (by decide)
                have tb125 : (Rg.putUse V [(37, 112), (49, 124), (50, 125)] fr).eval (.tmp 125) = .int .i64 ((k : Nat) : Int) := (Rg.use_eval V fr 125 [(37, 112), (49, 124), (50, 125)] (by simp only [hz]; decide)).trans h50
                show Rg.Does1 _ _ V (Rg.putUse V [(37, 112), (49, 124), (50, 125)] fr) w2 _
                exact Ob.rc_mv (.pointer (some ⟨b, off + k, none⟩)) (by simp only [execOp, tb124, tb125]; go_simp; try (intro h; exfalso; omega)) rfl rfl h37
              · intro V S w2 HM HU HE
                have lw : Below w6.heap.size w6 w2 := Rc.Mod.below HM (fun _ h => h.elim)
                have h37 : V 37 = .bool true := HU.holds 37 (by decide)
                have h51 : V 51 = .pointer (some ⟨b, off + k, none⟩) := HU.holds 51 (by decide)
                have tb126 : (Rg.putUse V [(37, 112), (51, 126)] fr).eval (.tmp 126) = .pointer (some ⟨b, off + k, none⟩) := (Rg.use_eval V fr 126 [(37, 112), (51, 126)] (by simp only [hz]; decide)).trans h51
                show Rg.Does1 _ _ V (Rg.putUse V [(37, 112), (51, 126)] fr) w2 _
                have cu := (lw.cell (p := ⟨b, off + k, none⟩) HBL6.out).trans hcell_6
                exact Ob.rc_mv (.slice YA y.length yc) (by simp only [execOp, tb126]; go_simp) rfl rfl h37
              · intro V S w2 HM HU HE
                have lw : Below w6.heap.size w6 w2 := Rc.Mod.below HM (fun _ h => h.elim)
                have h37 : V 37 = .bool true := HU.holds 37 (by decide)
                have tb2 : (Rg.putUse V [(37, 112)] fr).eval (.tmp 2) = .int .i64 ((q : Nat) : Int) := (Rg.use_eval V fr 2 [(37, 112)] (by simp only [hz]; decide)).trans y2
                show Rg.Does1 _ _ V (Rg.putUse V [(37, 112)] fr) w2 _
                exact Ob.rc_mv (.int .i64 ((q : Nat) : Int)) (by simp only [execOp, tb2]; go_simp) rfl rfl h37
              · intro V S w2 HM HU HE
                have lw : Below w6.heap.size w6 w2 := Rc.Mod.below HM (fun _ h => h.elim)
                have h37 : V 37 = .bool true := HU.holds 37 (by decide)
                have tb7 : (Rg.putUse V [(37, 112)] fr).eval (.tmp 7) = .slice (some ⟨b, off, none⟩) R.length c := (Rg.use_eval V fr 7 [(37, 112)] (by simp only [hz]; decide)).trans y7
                show Rg.Does1 _ _ V (Rg.putUse V [(37, 112)] fr) w2 _
                exact Ob.rc_mv (.slice (some ⟨b, off, none⟩) R.length c) (by simp only [execOp, tb7]; go_simp) rfl rfl h37
              · intro V S w2 HM HU HE
                have lw : Below w6.heap.size w6 w2 := Rc.Mod.below HM (fun _ h => h.elim)
                have h37 : V 37 = .bool true := HU.holds 37 (by decide)
                have h54 : V 54 = .slice (some ⟨b, off, none⟩) R.length c := HU.holds 54 (by decide)
                have tb129 : (Rg.putUse V [(37, 112), (54, 129)] fr).eval (.tmp 129) = .slice (some ⟨b, off, none⟩) R.length c := (Rg.use_eval V fr 129 [(37, 112), (54, 129)] (by simp only [hz]; decide)).trans h54
                show Rg.Does1 _ _ V (Rg.putUse V [(37, 112), (54, 129)] fr) w2 _
                exact Ob.rc_mv (.int .i64 ((R.length : Nat) : Int)) (by simp only [execOp, resolve, List.map_toArray, List.map_cons, List.map_nil, tb129]; go_simp) rfl rfl h37
              · intro V S w2 HM HU HE
                have lw : Below w6.heap.size w6 w2 := Rc.Mod.below HM (fun _ h => h.elim)
                have h37 : V 37 = .bool true := HU.holds 37 (by decide)
                have tb8 : (Rg.putUse V [(37, 112)] fr).eval (.tmp 8) = .slice PA P.length pc := (Rg.use_eval V fr 8 [(37, 112)] (by simp only [hz]; decide)).trans y8
                show Rg.Does1 _ _ V (Rg.putUse V [(37, 112)] fr) w2 _
                exact Ob.rc_mv (.slice PA P.length pc) (by simp only [execOp, tb8]; go_simp) rfl rfl h37
              · intro V S w2 HM HU HE
                have lw : Below w6.heap.size w6 w2 := Rc.Mod.below HM (fun _ h => h.elim)
                have h37 : V 37 = .bool true := HU.holds 37 (by decide)
                have h48 : V 48 = .slice RA (Mk.root Sh.sum R).length rc := HU.holds 48 (by decide)
                have tb123 : (Rg.putUse V [(37, 112), (48, 123), (52, 127), (53, 128), (55, 130), (56, 131)] fr).eval (.tmp 123) = .slice RA (Mk.root Sh.sum R).length rc := (Rg.use_eval V fr 123 [(37, 112), (48, 123), (52, 127), (53, 128), (55, 130), (56, 131)] (by simp only [hz]; decide)).trans h48
                have h52 : V 52 = .slice YA y.length yc := HU.holds 52 (by decide)
                have tb127 : (Rg.putUse V [(37, 112), (48, 123), (52, 127), (53, 128), (55, 130), (56, 131)] fr).eval (.tmp 127) = .slice YA y.length yc := (Rg.use_eval V fr 127 [(37, 112), (48, 123), (52, 127), (53, 128), (55, 130), (56, 131)] (by simp only [hz]; decide)).trans h52
                have h53 : V 53 = .int .i64 ((q : Nat) : Int) := HU.holds 53 (by decide)
                have tb128 : (Rg.putUse V [(37, 112), (48, 123), (52, 127), (53, 128), (55, 130), (56, 131)] fr).eval (.tmp 128) = .int .i64 ((q : Nat) : Int) := (Rg.use_eval V fr 128 [(37, 112), (48, 123), (52, 127), (53, 128), (55, 130), (56, 131)] (by simp only [hz]; decide)).trans h53
                have h55 : V 55 = .int .i64 ((R.length : Nat) : Int) := HU.holds 55 (by decide)
                have tb130 : (Rg.putUse V [(37, 112), (48, 123), (52, 127), (53, 128), (55, 130), (56, 131)] fr).eval (.tmp 130) = .int .i64 ((R.length : Nat) : Int) := (Rg.use_eval V fr 130 [(37, 112), (48, 123), (52, 127), (53, 128), (55, 130), (56, 131)] (by simp only [hz]; decide)).trans h55
                have h56 : V 56 = .slice PA P.length pc := HU.holds 56 (by decide)
                have tb131 : (Rg.putUse V [(37, 112), (48, 123), (52, 127), (53, 128), (55, 130), (56, 131)] fr).eval (.tmp 131) = .slice PA P.length pc := (Rg.use_eval V fr 131 [(37, 112), (48, 123), (52, 127), (53, 128), (55, 130), (56, 131)] (by simp only [hz]; decide)).trans h56
                show Rg.Does1 _ _ V (Rg.putUse V [(37, 112), (48, 123), (52, 127), (53, 128), (55, 130), (56, 131)] fr) w2 _
                exact Ob.step_tell (.bool (chk (Mk.root Sh.sum R) y (q : Nat) R.length P)) #[.slice RA (Mk.root Sh.sum R).length rc, .slice YA y.length yc, .int .i64 ((q : Nat) : Int), .int .i64 ((R.length : Nat) : Int), .slice PA P.length pc] (fun args w => Rg.call_enter Tryd.func22 (by kernel_rfl) (by kernel_rfl) args w) rfl (by simp only [List.map_toArray, List.map_cons, List.map_nil, tb123, tb127, tb128, tb130, tb131]) rfl (fun x => Rg.alias_none rfl V x) h37 (rCheck w2 (Mk.root Sh.sum R) y RA YA rc yc q R.length P PA pc (by omega) (by omega) (HRR6.out.below lw) (HY6.out.below lw) hyc (by omega) (HP6.out.below lw) hpc HSP.out (by omega) trivial)
              · intro V S w2 HM HU HE
                have lw : Below w6.heap.size w6 w2 := Rc.Mod.below HM (fun _ h => h.elim)
                have h37 : V 37 = .bool true := HU.holds 37 (by decide)
                have h47 : V 47 = .bool (chk (Mk.root Sh.sum R) y (q : Nat) R.length P) := HU.holds 47 (by decide)
                have tb122 : (Rg.putUse V [(37, 112), (47, 122), (57, 132)] fr).eval (.tmp 122) = .bool (chk (Mk.root Sh.sum R) y (q : Nat) R.length P) := (Rg.use_eval V fr 122 [(37, 112), (47, 122), (57, 132)] (by simp only [hz]; decide)).trans h47
                have h57 : V 57 = .bool (chk (Mk.root Sh.sum R) y (q : Nat) R.length P) := HU.holds 57 (by decide)
                have tb132 : (Rg.putUse V [(37, 112), (47, 122), (57, 132)] fr).eval (.tmp 132) = .bool (chk (Mk.root Sh.sum R) y (q : Nat) R.length P) := (Rg.use_eval V fr 132 [(37, 112), (47, 122), (57, 132)] (by simp only [hz]; decide)).trans h57
                show Rg.Does1 _ _ V (Rg.putUse V [(37, 112), (47, 122), (57, 132)] fr) w2 _
                exact Ob.rc_mv (.bool true) (by simp only [execOp, tb122, tb132]; go_simp) rfl rfl h37
              · intro V S w2 HM HU HE
                have lw : Below w6.heap.size w6 w2 := Rc.Mod.below HM (fun _ h => h.elim)
                have h37 : V 37 = .bool true := HU.holds 37 (by decide)
                have tb112 : (Rg.putUse V [(37, 112), (58, 133)] fr).eval (.tmp 112) = .bool true := (Rg.use_eval V fr 112 [(37, 112), (58, 133)] (by simp only [hz]; decide)).trans h37
                have h58 : V 58 = .bool true := HU.holds 58 (by decide)
                have tb133 : (Rg.putUse V [(37, 112), (58, 133)] fr).eval (.tmp 133) = .bool true := (Rg.use_eval V fr 133 [(37, 112), (58, 133)] (by simp only [hz]; decide)).trans h58
                show Rg.Does1 _ _ V (Rg.putUse V [(37, 112), (58, 133)] fr) w2 _
                exact Ob.rc_mv (.bool true) (by simp only [execOp, tb112, tb133]; go_simp) rfl rfl True.intro
              · intro V S w2 HM HU HE
                have lw : Below w6.heap.size w6 w2 := Rc.Mod.below HM (fun _ h => h.elim)
                have h59 : V 59 = .bool true := HU.holds 59 (by decide)
                have tb134 : (Rg.putUse V [(59, 134)] fr).eval (.tmp 134) = .bool true := (Rg.use_eval V fr 134 [(59, 134)] (by simp only [hz]; decide)).trans h59
                show Rg.Does1 _ _ V (Rg.putUse V [(59, 134)] fr) w2 _
                exact Ob.rc_mv (.bool true) (by simp only [execOp, tb134]; go_simp) rfl rfl True.intro
              · intro V S w2 HM HU HE
                have lw : Below w6.heap.size w6 w2 := Rc.Mod.below HM (fun _ h => h.elim)
                have h60 : V 60 = .bool true := HU.holds 60 (by decide)
                show Rg.Does1 _ _ V (Rg.putUse V [(60, 135)] fr) w2 _
                exact Ob.step_tell (.bool true) #[] (fun args w => Rg.call_enter Tryd.func18 (by kernel_rfl) (by kernel_rfl) args w) rfl (by simp only [List.map_toArray, List.map_nil]) rfl (fun x => Rg.alias_none rfl V x) h60 (known_any w2 (HK6.out.later lw))
              · intro V S w2 HM HU HE
                have lw : Below w6.heap.size w6 w2 := Rc.Mod.below HM (fun _ h => h.elim)
                have h60 : V 60 = .bool true := HU.holds 60 (by decide)
                have tb135 : (Rg.putUse V [(60, 135), (61, 136)] fr).eval (.tmp 135) = .bool true := (Rg.use_eval V fr 135 [(60, 135), (61, 136)] (by simp only [hz]; decide)).trans h60
                have h61 : V 61 = .bool true := HU.holds 61 (by decide)
                have tb136 : (Rg.putUse V [(60, 135), (61, 136)] fr).eval (.tmp 136) = .bool true := (Rg.use_eval V fr 136 [(60, 135), (61, 136)] (by simp only [hz]; decide)).trans h61
                show Rg.Does1 _ _ V (Rg.putUse V [(60, 135), (61, 136)] fr) w2 _
                exact Ob.rc_mv (.bool true) (by simp only [execOp, tb135, tb136]; go_simp) rfl rfl True.intro
              · intro V S w2 HM HU HE
                have lw : Below w6.heap.size w6 w2 := Rc.Mod.below HM (fun _ h => h.elim)
                have h62 : V 62 = .bool true := HU.holds 62 (by decide)
                have tb137 : (Rg.putUse V [(62, 137)] fr).eval (.tmp 137) = .bool true := (Rg.use_eval V fr 137 [(62, 137)] (by simp only [hz]; decide)).trans h62
                show Rg.Does1 _ _ V (Rg.putUse V [(62, 137)] fr) w2 _
                exact Ob.rc_mv (.bool true) (by simp only [execOp, tb137]; go_simp) rfl rfl True.intro
            · intro V S w2 HI
              have HL2 : Hid (Below w6.heap.size w6 w2) := Rc.Mod.below HI.mod.undrew (fun _ h => h.elim)
              have hw63 : V 63 = .bool true := HI.get 63 (by decide) (by rfl)
              simp only [Rg.putList, Act.put, List.setIfInBounds_toArray, List.set_cons_zero, List.set_cons_succ, Nat.zero_add, Nat.reduceAdd]
              rw [hw63]
              clear HI hw63
              go_wp2_with fail
              go_ret
              exact ⟨rfl, HB6.out.trans (HL2.out.mono HB6.out.size)⟩
end Go.Proofs.YtjeclmbableacaaDoor
