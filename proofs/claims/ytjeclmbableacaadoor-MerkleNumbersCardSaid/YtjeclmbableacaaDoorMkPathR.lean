/-
  OWN WORK. Path: the document's, by its contract.
-/
import Derived.Test.YtjeclmbableacaaDoorMkRootR
import Derived.Test.YtjeclmbableacaaDoorMkLen
namespace Go.Proofs.YtjeclmbableacaaDoor
open Go.RowKit Rc

set_option maxHeartbeats 8000000 in
set_option maxRecDepth 100000 in
theorem rPath (N : Nat) : ∀ (w : World) (L : List (List UInt8)) (A : Option Addr) (c i : Nat), L.length = N → RdL w A L → L.length ≤ c → Small L → i ≤ 1000000 → Calls Tryd.prog 12 #[.slice A L.length c, .int .i64 (i : Nat)] w (LOut (Mk.path Sh.sum L i) w) := by
  induction N using Nat.strongRecOn with
  | _ N ih =>
  intro w L A c i hN hr hc hs hi
  subst hN
  have IH := Lib.hid ih
  have HR : Hid (RdL w A L) := hr
  have HS := Lib.hid hs
  have HK : Hid (KR w) := trivial
  have hlen := HS.out.len
  clear ih hr hs
  rcases Nat.lt_or_ge L.length 2 with h2 | h2
  · have HE := Lib.hid (Mk.path_short Sh.sum L i h2)
    go_enter Tryd.func12, Tryd.ntmps12
    go_wp2_with fail
    go_ret
    exact ⟨_, rfl, by rw [HE.out]; exact LOwn.nil _ _ _ _, Below.refl _ _⟩
  · by_cases hik : i < Mk.part L.length
    · skip
      have hp1 := Mk.part_lt L.length h2
      have hp2 := Mk.part_pos L.length h2
      have HP := Lib.hid (rPart w L.length h2 hlen)
      have HE2 := Lib.hid (Mk.path_left Sh.sum L i h2 hik)
      have HE := Lib.hid (Mk.root_split Sh.sum L h2)
      obtain ⟨p, hp⟩ : ∃ p, p = Mk.part L.length := ⟨_, rfl⟩
      rw [← hp] at hp1 hp2 HP HE HE2 hik
      clear hp
      have hl1 : (L.take p).length < L.length := by rw [List.length_take]; omega
      have hl2 : (L.drop p).length < L.length := by rw [List.length_drop]; omega
      have hq1 : (L.take p).length = p := by rw [List.length_take]; omega
      have hq2 : (L.drop p).length = L.length - p := List.length_drop
      have S1 := fun W => rows_h W A L c p (by omega) hc
      have S2 := fun W => rows_l W A L c p (by omega)
      have R1 : Hid (∀ W, RdL W A L → RdL W A (L.take p)) := fun W h => h.take p
      have R2 : Hid (∀ W, RdL W A L → RdL W (cutA A p c) (L.drop p)) := fun W h => h.cut p c hc
      have M1 := Lib.hid (HS.out.take p)
      have M2 := Lib.hid (HS.out.drop p)
      have hc1 : (L.take p).length ≤ c := by rw [List.length_take]; omega
      have hc2 : (L.drop p).length ≤ c - p := by rw [List.length_drop]; omega
      obtain ⟨L1, hL1⟩ : ∃ L1, L1 = L.take p := ⟨_, rfl⟩
      obtain ⟨L2, hL2⟩ : ∃ L2, L2 = L.drop p := ⟨_, rfl⟩
      rw [← hL1] at hl1 S1 R1 M1 hc1 HE HE2 hq1
      rw [← hL2] at hl2 S2 R2 M2 hc2 HE HE2 hq2
      clear hL1 hL2
      have Q1 := Lib.hid hq1
      have Q2 := Lib.hid hq2
      clear hq1 hq2
      go_enter Tryd.func12, Tryd.ntmps12
      go_wp2_with fail
      refine HP.out.mono ?_
      rintro e w1 ⟨rfl, rfl⟩
      go_upto_region 5 with (fail)
      refine Rc.wp_region (by kernel_rfl) (fun opn => List.getD [Rc.val (.slice A L.length c), Rc.val (.int .i64 ((p : Nat) : Int)), Rc.val (.slice A L1.length c), Rc.val (.int .i64 ((i : Nat) : Int)), lrow (Mk.path Sh.sum L1 i), Rc.val (.slice A L.length c), Rc.val (.int .i64 ((p : Nat) : Int)), Rc.val (.slice (cutA A p c) L2.length (c - p)), Ob.frow (Mk.root Sh.sum L2), lrow ([Mk.root Sh.sum L2]), lrow (Mk.path Sh.sum L1 i ++ [Mk.root Sh.sum L2]), Rc.any] opn Rc.any) 0 [(11, 10, fun v => v)] [[], [], [(0, 15), (1, 16)], [], [(2, 17), (3, 18)], [], [], [(5, 20), (6, 21)], [(7, 22)], [(8, 23)], [(4, 19), (9, 24)], [(10, 25)]] [[], [], [0, 1], [], [0, 1, 2, 3], [], [], [5, 6], [0, 1, 2, 3, 4, 5, 6, 7], [0, 1, 2, 3, 4, 5, 6, 7, 8], [0, 1, 2, 3, 4, 5, 6, 7, 8, 9], [0, 1, 2, 3, 4, 5, 6, 7, 8, 9, 10]] [[], [], [0, 1], [], [2, 3], [], [], [5, 6], [7], [8], [4, 9], [10]] [(9, 8), (10, 4), (10, 9)] (by kernel_rfl) (by rfl) (by kernel_rfl) (fun _ => False) (fun _ _ => False) Rc.Inv.none ?_ ?_
      · intro fr ha
        have hz : fr.tmps.size = 39 := by rw [ha]; rfl
        have y0 : fr.eval (.tmp 0) = .slice A L.length c := by rw [ha]; rfl
        have y1 : fr.eval (.tmp 1) = .int .i64 ((i : Nat) : Int) := by rw [ha]; rfl
        have y5 : fr.eval (.tmp 5) = .int .i64 ((p : Nat) : Int) := by rw [ha]; rfl
        clear ha
        refine .cons ?_ (.cons ?_ (.cons ?_ (.cons ?_ (.cons ?_ (.cons ?_ (.cons ?_ (.cons ?_ (.cons ?_ (.cons ?_ (.cons ?_ (.cons ?_ (.nil))))))))))))
        · intro V S w2 HM HU HE
          have lw : Below w.heap.size w w2 := Rc.Mod.below HM (fun _ h => h.elim)
          have tb0 : (Rg.putUse V [] fr).eval (.tmp 0) = .slice A L.length c := (Rg.use_eval V fr 0 [] (by simp only [hz]; decide)).trans y0
          show Rg.Does1 _ _ V (Rg.putUse V [] fr) w2 _
          exact Ob.rc_mv (.slice A L.length c) (by simp only [execOp, tb0]; go_simp) rfl rfl True.intro
        · intro V S w2 HM HU HE
          have lw : Below w.heap.size w w2 := Rc.Mod.below HM (fun _ h => h.elim)
          have tb5 : (Rg.putUse V [] fr).eval (.tmp 5) = .int .i64 ((p : Nat) : Int) := (Rg.use_eval V fr 5 [] (by simp only [hz]; decide)).trans y5
          show Rg.Does1 _ _ V (Rg.putUse V [] fr) w2 _
          exact Ob.rc_mv (.int .i64 ((p : Nat) : Int)) (by simp only [execOp, tb5]; go_simp) rfl rfl True.intro
        · intro V S w2 HM HU HE
          have lw : Below w.heap.size w w2 := Rc.Mod.below HM (fun _ h => h.elim)
          have h0 : V 0 = .slice A L.length c := HU.holds 0 (by decide)
          have tb15 : (Rg.putUse V [(0, 15), (1, 16)] fr).eval (.tmp 15) = .slice A L.length c := (Rg.use_eval V fr 15 [(0, 15), (1, 16)] (by simp only [hz]; decide)).trans h0
          have h1 : V 1 = .int .i64 ((p : Nat) : Int) := HU.holds 1 (by decide)
          have tb16 : (Rg.putUse V [(0, 15), (1, 16)] fr).eval (.tmp 16) = .int .i64 ((p : Nat) : Int) := (Rg.use_eval V fr 16 [(0, 15), (1, 16)] (by simp only [hz]; decide)).trans h1
          show Rg.Does1 _ _ V (Rg.putUse V [(0, 15), (1, 16)] fr) w2 _
          exact Ob.rc_slh rfl tb15 tb16 (S1 w2) rfl rfl True.intro
        · intro V S w2 HM HU HE
          have lw : Below w.heap.size w w2 := Rc.Mod.below HM (fun _ h => h.elim)
          have tb1 : (Rg.putUse V [] fr).eval (.tmp 1) = .int .i64 ((i : Nat) : Int) := (Rg.use_eval V fr 1 [] (by simp only [hz]; decide)).trans y1
          show Rg.Does1 _ _ V (Rg.putUse V [] fr) w2 _
          exact Ob.rc_mv (.int .i64 ((i : Nat) : Int)) (by simp only [execOp, tb1]; go_simp) rfl rfl True.intro
        · intro V S w2 HM HU HE
          have lw : Below w.heap.size w w2 := Rc.Mod.below HM (fun _ h => h.elim)
          have h2 : V 2 = .slice A L1.length c := HU.holds 2 (by decide)
          have tb17 : (Rg.putUse V [(2, 17), (3, 18)] fr).eval (.tmp 17) = .slice A L1.length c := (Rg.use_eval V fr 17 [(2, 17), (3, 18)] (by simp only [hz]; decide)).trans h2
          have h3 : V 3 = .int .i64 ((i : Nat) : Int) := HU.holds 3 (by decide)
          have tb18 : (Rg.putUse V [(2, 17), (3, 18)] fr).eval (.tmp 18) = .int .i64 ((i : Nat) : Int) := (Rg.use_eval V fr 18 [(2, 17), (3, 18)] (by simp only [hz]; decide)).trans h3
          show Rg.Does1 _ _ V (Rg.putUse V [(2, 17), (3, 18)] fr) w2 _
          exact step_lcall (Mk.path Sh.sum L1 i) #[.slice A L1.length c, .int .i64 ((i : Nat) : Int)] (fun args w => Rg.call_enter Tryd.func12 (by kernel_rfl) (by kernel_rfl) args w) rfl (by simp only [List.map_toArray, List.map_cons, List.map_nil, tb17, tb18]) rfl (fun x => Rg.alias_none rfl V x) True.intro (IH.out _ hl1 w2 L1 A c i rfl (R1.out w2 (HR.out.below lw)) hc1 M1.out hi)
        · intro V S w2 HM HU HE
          have lw : Below w.heap.size w w2 := Rc.Mod.below HM (fun _ h => h.elim)
          have tb0 : (Rg.putUse V [] fr).eval (.tmp 0) = .slice A L.length c := (Rg.use_eval V fr 0 [] (by simp only [hz]; decide)).trans y0
          show Rg.Does1 _ _ V (Rg.putUse V [] fr) w2 _
          exact Ob.rc_mv (.slice A L.length c) (by simp only [execOp, tb0]; go_simp) rfl rfl True.intro
        · intro V S w2 HM HU HE
          have lw : Below w.heap.size w w2 := Rc.Mod.below HM (fun _ h => h.elim)
          have tb5 : (Rg.putUse V [] fr).eval (.tmp 5) = .int .i64 ((p : Nat) : Int) := (Rg.use_eval V fr 5 [] (by simp only [hz]; decide)).trans y5
          show Rg.Does1 _ _ V (Rg.putUse V [] fr) w2 _
          exact Ob.rc_mv (.int .i64 ((p : Nat) : Int)) (by simp only [execOp, tb5]; go_simp) rfl rfl True.intro
        · intro V S w2 HM HU HE
          have lw : Below w.heap.size w w2 := Rc.Mod.below HM (fun _ h => h.elim)
          have h5 : V 5 = .slice A L.length c := HU.holds 5 (by decide)
          have tb20 : (Rg.putUse V [(5, 20), (6, 21)] fr).eval (.tmp 20) = .slice A L.length c := (Rg.use_eval V fr 20 [(5, 20), (6, 21)] (by simp only [hz]; decide)).trans h5
          have h6 : V 6 = .int .i64 ((p : Nat) : Int) := HU.holds 6 (by decide)
          have tb21 : (Rg.putUse V [(5, 20), (6, 21)] fr).eval (.tmp 21) = .int .i64 ((p : Nat) : Int) := (Rg.use_eval V fr 21 [(5, 20), (6, 21)] (by simp only [hz]; decide)).trans h6
          show Rg.Does1 _ _ V (Rg.putUse V [(5, 20), (6, 21)] fr) w2 _
          exact Ob.rc_sll rfl tb20 tb21 (S2 w2) rfl rfl True.intro
        · intro V S w2 HM HU HE
          have lw : Below w.heap.size w w2 := Rc.Mod.below HM (fun _ h => h.elim)
          have h7 : V 7 = .slice (cutA A p c) L2.length (c - p) := HU.holds 7 (by decide)
          have tb22 : (Rg.putUse V [(7, 22)] fr).eval (.tmp 22) = .slice (cutA A p c) L2.length (c - p) := (Rg.use_eval V fr 22 [(7, 22)] (by simp only [hz]; decide)).trans h7
          show Rg.Does1 _ _ V (Rg.putUse V [(7, 22)] fr) w2 _
          exact step_hcall (Mk.root Sh.sum L2) #[.slice (cutA A p c) L2.length (c - p)] (fun args w => Rg.call_enter Tryd.func10 (by kernel_rfl) (by kernel_rfl) args w) rfl (by simp only [List.map_toArray, List.map_cons, List.map_nil, tb22]) rfl (fun x => Rg.alias_none rfl V x) True.intro (rRoot _ w2 L2 _ _ rfl (R2.out w2 (HR.out.below lw)) hc2 M2.out (HK.out.later lw))
        · intro V S w2 HM HU HE
          have lw : Below w.heap.size w w2 := Rc.Mod.below HM (fun _ h => h.elim)
          obtain ⟨X8, k8, e8, hc8, hr8, hX8⟩ := HU.holds 8 (by decide)
          have tb23 : (Rg.putUse V [(8, 23)] fr).eval (.tmp 23) = .slice X8 (Mk.root Sh.sum L2).length k8 := (Rg.use_eval V fr 23 [(8, 23)] (by simp only [hz]; decide)).trans e8
          show Rg.Does1 _ _ V (Rg.putUse V [(8, 23)] fr) w2 _
          exact step_lone (i := 8) (Mk.root Sh.sum L2) rfl tb23 rfl (by decide) hc8 hr8 hX8 (HU.lt 8 (by decide)) (fun x => Rg.alias_none rfl V x) True.intro
        · intro V S w2 HM HU HE
          have lw : Below w.heap.size w w2 := Rc.Mod.below HM (fun _ h => h.elim)
          have tb19 : (Rg.putUse V [(4, 19), (9, 24)] fr).eval (.tmp 19) = V 4 := (Rg.use_eval V fr 19 [(4, 19), (9, 24)] (by simp only [hz]; decide)).trans rfl
          have tb24 : (Rg.putUse V [(4, 19), (9, 24)] fr).eval (.tmp 24) = V 9 := (Rg.use_eval V fr 24 [(4, 19), (9, 24)] (by simp only [hz]; decide)).trans rfl
          show Rg.Does1 _ _ V (Rg.putUse V [(4, 19), (9, 24)] fr) w2 _
          exact step_lapp (i := 4) (k := 9) (Mk.path Sh.sum L1 i) ([Mk.root Sh.sum L2]) (Mk.path Sh.sum L1 i ++ [Mk.root Sh.sum L2]) rfl rfl tb19 tb24 rfl (by decide) (by decide) (HU.holds 4 (by decide)) (HU.holds 9 (by decide)) (HU.sep 4 (by decide) 9 (by decide) (by decide)) (HU.lt 4 (by decide)) (HU.lt 9 (by decide)) (Nat.zero_lt_succ _) (by have := path_len L1 i M1.out.len; simp only [List.length_cons, List.length_nil]; omega) (fun x => Rg.alias_none rfl V x) True.intro
        · intro V S w2 HM HU HE
          have lw : Below w.heap.size w w2 := Rc.Mod.below HM (fun _ h => h.elim)
          have tb25 : (Rg.putUse V [(10, 25)] fr).eval (.tmp 25) = V 10 := (Rg.use_eval V fr 25 [(10, 25)] (by simp only [hz]; decide)).trans rfl
          show Rg.Does1 _ _ V (Rg.putUse V [(10, 25)] fr) w2 _
          exact Rc.step_val _ (Rg.alias_one rfl V) True.intro (by simp only [execOp, tb25]; go_simp) True.intro
      · intro V S w2 HI
        have HL2 : Hid (Below w.heap.size w w2) := Rc.Mod.below HI.mod.undrew (fun _ h => h.elim)
        have ha11 : V 11 = V 10 := HI.same 11 10 (fun v => v) (by decide) (by simp)
        have HN10 : Hid (LNew (Mk.path Sh.sum L1 i ++ [Mk.root Sh.sum L2]) w (V 10) w2) := lnew_in HI 10 (by decide) (by rfl)
        obtain ⟨v10, hv10⟩ : ∃ v, v = V 10 := ⟨_, rfl⟩
        rw [← hv10] at HN10
        simp only [Rg.putList, Act.put, List.setIfInBounds_toArray, List.set_cons_zero, List.set_cons_succ, Nat.zero_add, Nat.reduceAdd]
        rw [ha11, ← hv10]
        clear HI ha11 hv10
        go_wp2_with fail
        go_ret
        exact ⟨_, rfl, by rw [HE2.out]; exact HN10.out, HL2.out⟩
    · skip
      have hp1 := Mk.part_lt L.length h2
      have hp2 := Mk.part_pos L.length h2
      have HP := Lib.hid (rPart w L.length h2 hlen)
      have HE2 := Lib.hid (Mk.path_right Sh.sum L i h2 hik)
      have HE := Lib.hid (Mk.root_split Sh.sum L h2)
      obtain ⟨p, hp⟩ : ∃ p, p = Mk.part L.length := ⟨_, rfl⟩
      rw [← hp] at hp1 hp2 HP HE HE2 hik
      clear hp
      have hl1 : (L.take p).length < L.length := by rw [List.length_take]; omega
      have hl2 : (L.drop p).length < L.length := by rw [List.length_drop]; omega
      have hq1 : (L.take p).length = p := by rw [List.length_take]; omega
      have hq2 : (L.drop p).length = L.length - p := List.length_drop
      have S1 := fun W => rows_h W A L c p (by omega) hc
      have S2 := fun W => rows_l W A L c p (by omega)
      have R1 : Hid (∀ W, RdL W A L → RdL W A (L.take p)) := fun W h => h.take p
      have R2 : Hid (∀ W, RdL W A L → RdL W (cutA A p c) (L.drop p)) := fun W h => h.cut p c hc
      have M1 := Lib.hid (HS.out.take p)
      have M2 := Lib.hid (HS.out.drop p)
      have hc1 : (L.take p).length ≤ c := by rw [List.length_take]; omega
      have hc2 : (L.drop p).length ≤ c - p := by rw [List.length_drop]; omega
      obtain ⟨L1, hL1⟩ : ∃ L1, L1 = L.take p := ⟨_, rfl⟩
      obtain ⟨L2, hL2⟩ : ∃ L2, L2 = L.drop p := ⟨_, rfl⟩
      rw [← hL1] at hl1 S1 R1 M1 hc1 HE HE2 hq1
      rw [← hL2] at hl2 S2 R2 M2 hc2 HE HE2 hq2
      clear hL1 hL2
      have Q1 := Lib.hid hq1
      have Q2 := Lib.hid hq2
      clear hq1 hq2
      obtain ⟨q, rfl⟩ : ∃ q, i = p + q := ⟨i - p, by omega⟩
      rw [Nat.add_sub_cancel_left] at HE2
      go_enter Tryd.func12, Tryd.ntmps12
      go_wp2_with fail
      refine HP.out.mono ?_
      rintro e w1 ⟨rfl, rfl⟩
      go_upto_region 6 with (fail)
      refine Rc.wp_region (by kernel_rfl) (fun opn => List.getD [Rc.val (.slice A L.length c), Rc.val (.int .i64 ((p : Nat) : Int)), Rc.val (.slice (cutA A p c) L2.length (c - p)), Rc.val (.int .i64 ((p + q : Nat) : Int)), Rc.val (.int .i64 ((p : Nat) : Int)), Rc.val (.int .i64 ((q : Nat) : Int)), lrow (Mk.path Sh.sum L2 q), Rc.val (.slice A L.length c), Rc.val (.int .i64 ((p : Nat) : Int)), Rc.val (.slice A L1.length c), Ob.frow (Mk.root Sh.sum L1), lrow ([Mk.root Sh.sum L1]), lrow (Mk.path Sh.sum L2 q ++ [Mk.root Sh.sum L1]), Rc.any] opn Rc.any) 0 [(13, 12, fun v => v)] [[], [], [(0, 26), (1, 27)], [], [], [(3, 29), (4, 30)], [(2, 28), (5, 31)], [], [], [(7, 33), (8, 34)], [(9, 35)], [(10, 36)], [(6, 32), (11, 37)], [(12, 38)]] [[], [], [0, 1], [], [], [3, 4], [0, 1, 2, 3, 4, 5], [], [], [7, 8], [0, 1, 2, 3, 4, 5, 6, 7, 8, 9], [0, 1, 2, 3, 4, 5, 6, 7, 8, 9, 10], [0, 1, 2, 3, 4, 5, 6, 7, 8, 9, 10, 11], [0, 1, 2, 3, 4, 5, 6, 7, 8, 9, 10, 11, 12]] [[], [], [0, 1], [], [], [3, 4], [2, 5], [], [], [7, 8], [9], [10], [6, 11], [12]] [(11, 10), (12, 6), (12, 11)] (by kernel_rfl) (by rfl) (by kernel_rfl) (fun _ => False) (fun _ _ => False) Rc.Inv.none ?_ ?_
      · intro fr ha
        have hz : fr.tmps.size = 39 := by rw [ha]; rfl
        have y0 : fr.eval (.tmp 0) = .slice A L.length c := by rw [ha]; rfl
        have y1 : fr.eval (.tmp 1) = .int .i64 ((p + q : Nat) : Int) := by rw [ha]; rfl
        have y5 : fr.eval (.tmp 5) = .int .i64 ((p : Nat) : Int) := by rw [ha]; rfl
        clear ha
        refine .cons ?_ (.cons ?_ (.cons ?_ (.cons ?_ (.cons ?_ (.cons ?_ (.cons ?_ (.cons ?_ (.cons ?_ (.cons ?_ (.cons ?_ (.cons ?_ (.cons ?_ (.cons ?_ (.nil))))))))))))))
        · intro V S w2 HM HU HE
          have lw : Below w.heap.size w w2 := Rc.Mod.below HM (fun _ h => h.elim)
          have tb0 : (Rg.putUse V [] fr).eval (.tmp 0) = .slice A L.length c := (Rg.use_eval V fr 0 [] (by simp only [hz]; decide)).trans y0
          show Rg.Does1 _ _ V (Rg.putUse V [] fr) w2 _
          exact Ob.rc_mv (.slice A L.length c) (by simp only [execOp, tb0]; go_simp) rfl rfl True.intro
        · intro V S w2 HM HU HE
          have lw : Below w.heap.size w w2 := Rc.Mod.below HM (fun _ h => h.elim)
          have tb5 : (Rg.putUse V [] fr).eval (.tmp 5) = .int .i64 ((p : Nat) : Int) := (Rg.use_eval V fr 5 [] (by simp only [hz]; decide)).trans y5
          show Rg.Does1 _ _ V (Rg.putUse V [] fr) w2 _
          exact Ob.rc_mv (.int .i64 ((p : Nat) : Int)) (by simp only [execOp, tb5]; go_simp) rfl rfl True.intro
        · intro V S w2 HM HU HE
          have lw : Below w.heap.size w w2 := Rc.Mod.below HM (fun _ h => h.elim)
          have h0 : V 0 = .slice A L.length c := HU.holds 0 (by decide)
          have tb26 : (Rg.putUse V [(0, 26), (1, 27)] fr).eval (.tmp 26) = .slice A L.length c := (Rg.use_eval V fr 26 [(0, 26), (1, 27)] (by simp only [hz]; decide)).trans h0
          have h1 : V 1 = .int .i64 ((p : Nat) : Int) := HU.holds 1 (by decide)
          have tb27 : (Rg.putUse V [(0, 26), (1, 27)] fr).eval (.tmp 27) = .int .i64 ((p : Nat) : Int) := (Rg.use_eval V fr 27 [(0, 26), (1, 27)] (by simp only [hz]; decide)).trans h1
          show Rg.Does1 _ _ V (Rg.putUse V [(0, 26), (1, 27)] fr) w2 _
          exact Ob.rc_sll rfl tb26 tb27 (S2 w2) rfl rfl True.intro
        · intro V S w2 HM HU HE
          have lw : Below w.heap.size w w2 := Rc.Mod.below HM (fun _ h => h.elim)
          have tb1 : (Rg.putUse V [] fr).eval (.tmp 1) = .int .i64 ((p + q : Nat) : Int) := (Rg.use_eval V fr 1 [] (by simp only [hz]; decide)).trans y1
          show Rg.Does1 _ _ V (Rg.putUse V [] fr) w2 _
          exact Ob.rc_mv (.int .i64 ((p + q : Nat) : Int)) (by simp only [execOp, tb1]; go_simp) rfl rfl True.intro
        · intro V S w2 HM HU HE
          have lw : Below w.heap.size w w2 := Rc.Mod.below HM (fun _ h => h.elim)
          have tb5 : (Rg.putUse V [] fr).eval (.tmp 5) = .int .i64 ((p : Nat) : Int) := (Rg.use_eval V fr 5 [] (by simp only [hz]; decide)).trans y5
          show Rg.Does1 _ _ V (Rg.putUse V [] fr) w2 _
          exact Ob.rc_mv (.int .i64 ((p : Nat) : Int)) (by simp only [execOp, tb5]; go_simp) rfl rfl True.intro
        · intro V S w2 HM HU HE
          have lw : Below w.heap.size w w2 := Rc.Mod.below HM (fun _ h => h.elim)
          have h3 : V 3 = .int .i64 ((p + q : Nat) : Int) := HU.holds 3 (by decide)
          have tb29 : (Rg.putUse V [(3, 29), (4, 30)] fr).eval (.tmp 29) = .int .i64 ((p + q : Nat) : Int) := (Rg.use_eval V fr 29 [(3, 29), (4, 30)] (by simp only [hz]; decide)).trans h3
          have h4 : V 4 = .int .i64 ((p : Nat) : Int) := HU.holds 4 (by decide)
          have tb30 : (Rg.putUse V [(3, 29), (4, 30)] fr).eval (.tmp 30) = .int .i64 ((p : Nat) : Int) := (Rg.use_eval V fr 30 [(3, 29), (4, 30)] (by simp only [hz]; decide)).trans h4
          show Rg.Does1 _ _ V (Rg.putUse V [(3, 29), (4, 30)] fr) w2 _
          exact Ob.rc_mv (.int .i64 ((q : Nat) : Int)) (by simp only [execOp, tb29, tb30]; go_simp; rw [IntWalk.i64_in _ (by omega)]; omega) rfl rfl True.intro
        · intro V S w2 HM HU HE
          have lw : Below w.heap.size w w2 := Rc.Mod.below HM (fun _ h => h.elim)
          have h2 : V 2 = .slice (cutA A p c) L2.length (c - p) := HU.holds 2 (by decide)
          have tb28 : (Rg.putUse V [(2, 28), (5, 31)] fr).eval (.tmp 28) = .slice (cutA A p c) L2.length (c - p) := (Rg.use_eval V fr 28 [(2, 28), (5, 31)] (by simp only [hz]; decide)).trans h2
          have h5 : V 5 = .int .i64 ((q : Nat) : Int) := HU.holds 5 (by decide)
          have tb31 : (Rg.putUse V [(2, 28), (5, 31)] fr).eval (.tmp 31) = .int .i64 ((q : Nat) : Int) := (Rg.use_eval V fr 31 [(2, 28), (5, 31)] (by simp only [hz]; decide)).trans h5
          show Rg.Does1 _ _ V (Rg.putUse V [(2, 28), (5, 31)] fr) w2 _
          exact step_lcall (Mk.path Sh.sum L2 q) #[.slice (cutA A p c) L2.length (c - p), .int .i64 ((q : Nat) : Int)] (fun args w => Rg.call_enter Tryd.func12 (by kernel_rfl) (by kernel_rfl) args w) rfl (by simp only [List.map_toArray, List.map_cons, List.map_nil, tb28, tb31]) rfl (fun x => Rg.alias_none rfl V x) True.intro (IH.out _ hl2 w2 L2 _ _ q rfl (R2.out w2 (HR.out.below lw)) hc2 M2.out (by omega))
        · intro V S w2 HM HU HE
          have lw : Below w.heap.size w w2 := Rc.Mod.below HM (fun _ h => h.elim)
          have tb0 : (Rg.putUse V [] fr).eval (.tmp 0) = .slice A L.length c := (Rg.use_eval V fr 0 [] (by simp only [hz]; decide)).trans y0
          show Rg.Does1 _ _ V (Rg.putUse V [] fr) w2 _
          exact Ob.rc_mv (.slice A L.length c) (by simp only [execOp, tb0]; go_simp) rfl rfl True.intro
        · intro V S w2 HM HU HE
          have lw : Below w.heap.size w w2 := Rc.Mod.below HM (fun _ h => h.elim)
          have tb5 : (Rg.putUse V [] fr).eval (.tmp 5) = .int .i64 ((p : Nat) : Int) := (Rg.use_eval V fr 5 [] (by simp only [hz]; decide)).trans y5
          show Rg.Does1 _ _ V (Rg.putUse V [] fr) w2 _
          exact Ob.rc_mv (.int .i64 ((p : Nat) : Int)) (by simp only [execOp, tb5]; go_simp) rfl rfl True.intro
        · intro V S w2 HM HU HE
          have lw : Below w.heap.size w w2 := Rc.Mod.below HM (fun _ h => h.elim)
          have h7 : V 7 = .slice A L.length c := HU.holds 7 (by decide)
          have tb33 : (Rg.putUse V [(7, 33), (8, 34)] fr).eval (.tmp 33) = .slice A L.length c := (Rg.use_eval V fr 33 [(7, 33), (8, 34)] (by simp only [hz]; decide)).trans h7
          have h8 : V 8 = .int .i64 ((p : Nat) : Int) := HU.holds 8 (by decide)
          have tb34 : (Rg.putUse V [(7, 33), (8, 34)] fr).eval (.tmp 34) = .int .i64 ((p : Nat) : Int) := (Rg.use_eval V fr 34 [(7, 33), (8, 34)] (by simp only [hz]; decide)).trans h8
          show Rg.Does1 _ _ V (Rg.putUse V [(7, 33), (8, 34)] fr) w2 _
          exact Ob.rc_slh rfl tb33 tb34 (S1 w2) rfl rfl True.intro
        · intro V S w2 HM HU HE
          have lw : Below w.heap.size w w2 := Rc.Mod.below HM (fun _ h => h.elim)
          have h9 : V 9 = .slice A L1.length c := HU.holds 9 (by decide)
          have tb35 : (Rg.putUse V [(9, 35)] fr).eval (.tmp 35) = .slice A L1.length c := (Rg.use_eval V fr 35 [(9, 35)] (by simp only [hz]; decide)).trans h9
          show Rg.Does1 _ _ V (Rg.putUse V [(9, 35)] fr) w2 _
          exact step_hcall (Mk.root Sh.sum L1) #[.slice A L1.length c] (fun args w => Rg.call_enter Tryd.func10 (by kernel_rfl) (by kernel_rfl) args w) rfl (by simp only [List.map_toArray, List.map_cons, List.map_nil, tb35]) rfl (fun x => Rg.alias_none rfl V x) True.intro (rRoot _ w2 L1 _ _ rfl (R1.out w2 (HR.out.below lw)) hc1 M1.out (HK.out.later lw))
        · intro V S w2 HM HU HE
          have lw : Below w.heap.size w w2 := Rc.Mod.below HM (fun _ h => h.elim)
          obtain ⟨X10, k10, e10, hc10, hr10, hX10⟩ := HU.holds 10 (by decide)
          have tb36 : (Rg.putUse V [(10, 36)] fr).eval (.tmp 36) = .slice X10 (Mk.root Sh.sum L1).length k10 := (Rg.use_eval V fr 36 [(10, 36)] (by simp only [hz]; decide)).trans e10
          show Rg.Does1 _ _ V (Rg.putUse V [(10, 36)] fr) w2 _
          exact step_lone (i := 10) (Mk.root Sh.sum L1) rfl tb36 rfl (by decide) hc10 hr10 hX10 (HU.lt 10 (by decide)) (fun x => Rg.alias_none rfl V x) True.intro
        · intro V S w2 HM HU HE
          have lw : Below w.heap.size w w2 := Rc.Mod.below HM (fun _ h => h.elim)
          have tb32 : (Rg.putUse V [(6, 32), (11, 37)] fr).eval (.tmp 32) = V 6 := (Rg.use_eval V fr 32 [(6, 32), (11, 37)] (by simp only [hz]; decide)).trans rfl
          have tb37 : (Rg.putUse V [(6, 32), (11, 37)] fr).eval (.tmp 37) = V 11 := (Rg.use_eval V fr 37 [(6, 32), (11, 37)] (by simp only [hz]; decide)).trans rfl
          show Rg.Does1 _ _ V (Rg.putUse V [(6, 32), (11, 37)] fr) w2 _
          exact step_lapp (i := 6) (k := 11) (Mk.path Sh.sum L2 q) ([Mk.root Sh.sum L1]) (Mk.path Sh.sum L2 q ++ [Mk.root Sh.sum L1]) rfl rfl tb32 tb37 rfl (by decide) (by decide) (HU.holds 6 (by decide)) (HU.holds 11 (by decide)) (HU.sep 6 (by decide) 11 (by decide) (by decide)) (HU.lt 6 (by decide)) (HU.lt 11 (by decide)) (Nat.zero_lt_succ _) (by have := path_len L2 q M2.out.len; simp only [List.length_cons, List.length_nil]; omega) (fun x => Rg.alias_none rfl V x) True.intro
        · intro V S w2 HM HU HE
          have lw : Below w.heap.size w w2 := Rc.Mod.below HM (fun _ h => h.elim)
          have tb38 : (Rg.putUse V [(12, 38)] fr).eval (.tmp 38) = V 12 := (Rg.use_eval V fr 38 [(12, 38)] (by simp only [hz]; decide)).trans rfl
          show Rg.Does1 _ _ V (Rg.putUse V [(12, 38)] fr) w2 _
          exact Rc.step_val _ (Rg.alias_one rfl V) True.intro (by simp only [execOp, tb38]; go_simp) True.intro
      · intro V S w2 HI
        have HL2 : Hid (Below w.heap.size w w2) := Rc.Mod.below HI.mod.undrew (fun _ h => h.elim)
        have ha13 : V 13 = V 12 := HI.same 13 12 (fun v => v) (by decide) (by simp)
        have HN12 : Hid (LNew (Mk.path Sh.sum L2 q ++ [Mk.root Sh.sum L1]) w (V 12) w2) := lnew_in HI 12 (by decide) (by rfl)
        obtain ⟨v12, hv12⟩ : ∃ v, v = V 12 := ⟨_, rfl⟩
        rw [← hv12] at HN12
        simp only [Rg.putList, Act.put, List.setIfInBounds_toArray, List.set_cons_zero, List.set_cons_succ, Nat.zero_add, Nat.reduceAdd]
        rw [ha13, ← hv12]
        clear HI ha13 hv12
        go_wp2_with fail
        go_ret
        exact ⟨_, rfl, by rw [HE2.out]; exact HN12.out, HL2.out⟩
end Go.Proofs.YtjeclmbableacaaDoor
