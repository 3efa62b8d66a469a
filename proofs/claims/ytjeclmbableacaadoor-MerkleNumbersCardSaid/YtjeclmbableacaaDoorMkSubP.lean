/-
  OWN WORK. Proofs of growth: the program's, by its contract.
-/
import Derived.Test.YtjeclmbableacaaDoorMkRootP
import Derived.Test.YtjeclmbableacaaDoorMkLen
namespace Go.Proofs.YtjeclmbableacaaDoor
open Go.RowKit Rc

set_option maxHeartbeats 8000000 in
set_option maxRecDepth 100000 in
theorem pSub (N : Nat) : ∀ (w : World) (L : List (List UInt8)) (A : Option Addr) (c m : Nat) (whole : Bool), L.length = N → RdL w A L → L.length ≤ c → Small L → KP w → 1 ≤ m → m ≤ L.length → Calls Tryd.prog 35 #[.slice A L.length c, .int .i64 (m : Nat), .bool whole] w (LOut (Mk.sub Sh.sum L m whole) w) := by
  induction N using Nat.strongRecOn with
  | _ N ih =>
  intro w L A c m whole hN hr hc hs hk h1 hm
  subst hN
  have IH := Lib.hid ih
  have HR : Hid (RdL w A L) := hr
  have HS := Lib.hid hs
  have HK : Hid (KP w) := hk
  have hlen := HS.out.len
  clear ih hr hs hk
  by_cases hme : m = L.length
  · have HE := Lib.hid (Mk.sub_all Sh.sum L m whole hme)
    subst hme
    cases whole with
    | true =>
      go_enter Tryd.func35, Tryd.ntmps35
      go_wp2_with fail
      go_ret
      exact ⟨_, rfl, by rw [HE.out]; exact LOwn.nil _ _ _ _, Below.refl _ _⟩
    | false =>
      go_enter Tryd.func35, Tryd.ntmps35
      go_wp2_with fail
      refine (pRoot _ w L A c rfl HR.out hc HS.out HK.out).mono ?_
      rintro e w1 ⟨x, rfl, hx, hb⟩
      have HX := Lib.hid (lone_new hx hb)
      have HB := Lib.hid hb
      obtain ⟨X, k, rfl, _, _, _⟩ := hx
      clear hb
      go_wp2_with fail
      go_ret
      exact ⟨_, rfl, by rw [HE.out]; exact HX.out, HB.out.alloc HB.out.size _⟩
  · have h2 : 2 ≤ L.length := by omega
    by_cases hmk : m ≤ Mk.part L.length
    · skip
      have hp1 := Mk.part_lt L.length h2
      have hp2 := Mk.part_pos L.length h2
      have HP := Lib.hid (pPart w L.length h2 hlen)
      have HE2 := Lib.hid (Mk.sub_left Sh.sum L m whole h2 hme hmk)
      have HE := Lib.hid (Mk.root_split Sh.sum L h2)
      obtain ⟨p, hp⟩ : ∃ p, p = Mk.part L.length := ⟨_, rfl⟩
      rw [← hp] at hp1 hp2 HP HE HE2 hmk
      clear hp
      have hl1 : (L.take p).length < L.length := by rw [List.length_take]; omega
      have hl2 : (L.drop p).length < L.length := by rw [List.length_drop]; omega
      have hq1 : (L.take p).length = p := by rw [List.length_take]; omega
      have hq2 : (L.drop p).length = L.length - p := List.length_drop
      have S1 := fun W => rows_h W A L c p (by omega) hc
      have S2 := fun W => rows_l W A L c p (by omega)
      have R1 : Hid (∀ W, RdL W A L → RdL W A (L.take p)) := fun W h => h.take p
      have R2 : Hid (∀ W, RdL W A L → RdL W (cutA A p c) (L.drop p)) := fun W h => h.cut p c hc
      have M1 := Lib.hid (HS.out.take p)
      have M2 := Lib.hid (HS.out.drop p)
      have hc1 : (L.take p).length ≤ c := by rw [List.length_take]; omega
      have hc2 : (L.drop p).length ≤ c - p := by rw [List.length_drop]; omega
      obtain ⟨L1, hL1⟩ : ∃ L1, L1 = L.take p := ⟨_, rfl⟩
      obtain ⟨L2, hL2⟩ : ∃ L2, L2 = L.drop p := ⟨_, rfl⟩
      rw [← hL1] at hl1 S1 R1 M1 hc1 HE HE2 hq1
      rw [← hL2] at hl2 S2 R2 M2 hc2 HE HE2 hq2
      clear hL1 hL2
      have Q1 := Lib.hid hq1
      have Q2 := Lib.hid hq2
      clear hq1 hq2
      go_enter Tryd.func35, Tryd.ntmps35
      go_wp2_with fail
      refine HP.out.mono ?_
      rintro e w1 ⟨rfl, rfl⟩
      go_upto_region 7 with (fail)
      refine Rc.wp_region (by kernel_rfl) (fun opn => List.getD [Rc.val (.slice A L.length c), Rc.val (.int .i64 ((p : Nat) : Int)), Rc.val (.slice A L1.length c), Rc.val (.int .i64 ((m : Nat) : Int)), Rc.val (.bool whole), lrow (Mk.sub Sh.sum L1 m whole), Rc.val (.slice A L.length c), Rc.val (.int .i64 ((p : Nat) : Int)), Rc.val (.slice (cutA A p c) L2.length (c - p)), Ob.frow (Mk.root Sh.sum L2), lrow ([Mk.root Sh.sum L2]), lrow (Mk.sub Sh.sum L1 m whole ++ [Mk.root Sh.sum L2]), Rc.any] opn Rc.any) 0 [(12, 11, fun v => v)] [[], [], [(0, 28), (1, 29)], [], [], [(2, 30), (3, 31), (4, 32)], [], [], [(6, 34), (7, 35)], [(8, 36)], [(9, 37)], [(5, 33), (10, 38)], [(11, 39)]] [[], [], [0, 1], [], [], [0, 1, 2, 3, 4], [], [], [6, 7], [0, 1, 2, 3, 4, 5, 6, 7, 8], [0, 1, 2, 3, 4, 5, 6, 7, 8, 9], [0, 1, 2, 3, 4, 5, 6, 7, 8, 9, 10], [0, 1, 2, 3, 4, 5, 6, 7, 8, 9, 10, 11]] [[], [], [0, 1], [], [], [2, 3, 4], [], [], [6, 7], [8], [9], [5, 10], [11]] [(10, 9), (11, 5), (11, 10)] (by kernel_rfl) (by rfl) (by kernel_rfl) (fun _ => False) (fun _ _ => False) Rc.Inv.none ?_ ?_
      · intro fr ha
        have hz : fr.tmps.size = 53 := by rw [ha]; rfl
        have y0 : fr.eval (.tmp 0) = .slice A L.length c := by rw [ha]; rfl
        have y1 : fr.eval (.tmp 1) = .int .i64 ((m : Nat) : Int) := by rw [ha]; rfl
        have y2 : fr.eval (.tmp 2) = .bool whole := by rw [ha]; rfl
        have y7 : fr.eval (.tmp 7) = .int .i64 ((p : Nat) : Int) := by rw [ha]; rfl
        clear ha
        refine .cons ?_ (.cons ?_ (.cons ?_ (.cons ?_ (.cons ?_ (.cons ?_ (.cons ?_ (.cons ?_ (.cons ?_ (.cons ?_ (.cons ?_ (.cons ?_ (.cons ?_ (.nil)))))))))))))
        · intro V S w2 HM HU HE
          have lw : Below w.heap.size w w2 := Rc.Mod.below HM (fun _ h => h.elim)
          have tb0 : (Rg.putUse V [] fr).eval (.tmp 0) = .slice A L.length c := (Rg.use_eval V fr 0 [] (by simp only [hz]; decide)).trans y0
          show Rg.Does1 _ _ V (Rg.putUse V [] fr) w2 _
          exact Ob.rc_mv (.slice A L.length c) (by simp only [execOp, tb0]; go_simp) rfl rfl True.intro
        · intro V S w2 HM HU HE
          have lw : Below w.heap.size w w2 := Rc.Mod.below HM (fun _ h => h.elim)
          have tb7 : (Rg.putUse V [] fr).eval (.tmp 7) = .int .i64 ((p : Nat) : Int) := (Rg.use_eval V fr 7 [] (by simp only [hz]; decide)).trans y7
          show Rg.Does1 _ _ V (Rg.putUse V [] fr) w2 _
          exact Ob.rc_mv (.int .i64 ((p : Nat) : Int)) (by simp only [execOp, tb7]; go_simp) rfl rfl True.intro
        · intro V S w2 HM HU HE
          have lw : Below w.heap.size w w2 := Rc.Mod.below HM (fun _ h => h.elim)
          have h0 : V 0 = .slice A L.length c := HU.holds 0 (by decide)
          have tb28 : (Rg.putUse V [(0, 28), (1, 29)] fr).eval (.tmp 28) = .slice A L.length c := (Rg.use_eval V fr 28 [(0, 28), (1, 29)] (by simp only [hz]; decide)).trans h0
          have h1 : V 1 = .int .i64 ((p : Nat) : Int) := HU.holds 1 (by decide)
          have tb29 : (Rg.putUse V [(0, 28), (1, 29)] fr).eval (.tmp 29) = .int .i64 ((p : Nat) : Int) := (Rg.use_eval V fr 29 [(0, 28), (1, 29)] (by simp only [hz]; decide)).trans h1
          show Rg.Does1 _ _ V (Rg.putUse V [(0, 28), (1, 29)] fr) w2 _
          exact Ob.rc_slh rfl tb28 tb29 (S1 w2) rfl rfl True.intro
        · intro V S w2 HM HU HE
          have lw : Below w.heap.size w w2 := Rc.Mod.below HM (fun _ h => h.elim)
          have tb1 : (Rg.putUse V [] fr).eval (.tmp 1) = .int .i64 ((m : Nat) : Int) := (Rg.use_eval V fr 1 [] (by simp only [hz]; decide)).trans y1
          show Rg.Does1 _ _ V (Rg.putUse V [] fr) w2 _
          exact Ob.rc_mv (.int .i64 ((m : Nat) : Int)) (by simp only [execOp, tb1]; go_simp) rfl rfl True.intro
        · intro V S w2 HM HU HE
          have lw : Below w.heap.size w w2 := Rc.Mod.below HM (fun _ h => h.elim)
          have tb2 : (Rg.putUse V [] fr).eval (.tmp 2) = .bool whole := (Rg.use_eval V fr 2 [] (by simp only [hz]; decide)).trans y2
          show Rg.Does1 _ _ V (Rg.putUse V [] fr) w2 _
          exact Ob.rc_mv (.bool whole) (by simp only [execOp, tb2]; go_simp) rfl rfl True.intro
        · intro V S w2 HM HU HE
          have lw : Below w.heap.size w w2 := Rc.Mod.below HM (fun _ h => h.elim)
          have h2 : V 2 = .slice A L1.length c := HU.holds 2 (by decide)
          have tb30 : (Rg.putUse V [(2, 30), (3, 31), (4, 32)] fr).eval (.tmp 30) = .slice A L1.length c := (Rg.use_eval V fr 30 [(2, 30), (3, 31), (4, 32)] (by simp only [hz]; decide)).trans h2
          have h3 : V 3 = .int .i64 ((m : Nat) : Int) := HU.holds 3 (by decide)
          have tb31 : (Rg.putUse V [(2, 30), (3, 31), (4, 32)] fr).eval (.tmp 31) = .int .i64 ((m : Nat) : Int) := (Rg.use_eval V fr 31 [(2, 30), (3, 31), (4, 32)] (by simp only [hz]; decide)).trans h3
          have h4 : V 4 = .bool whole := HU.holds 4 (by decide)
          have tb32 : (Rg.putUse V [(2, 30), (3, 31), (4, 32)] fr).eval (.tmp 32) = .bool whole := (Rg.use_eval V fr 32 [(2, 30), (3, 31), (4, 32)] (by simp only [hz]; decide)).trans h4
          show Rg.Does1 _ _ V (Rg.putUse V [(2, 30), (3, 31), (4, 32)] fr) w2 _
          exact step_lcall (Mk.sub Sh.sum L1 m whole) #[.slice A L1.length c, .int .i64 ((m : Nat) : Int), .bool whole] (fun args w => Rg.call_enter Tryd.func35 (by kernel_rfl) (by kernel_rfl) args w) rfl (by simp only [List.map_toArray, List.map_cons, List.map_nil, tb30, tb31, tb32]) rfl (fun x => Rg.alias_none rfl V x) True.intro (IH.out _ hl1 w2 L1 A c m whole rfl (R1.out w2 (HR.out.below lw)) hc1 M1.out (HK.out.later lw) h1 (by have := Q1.out; omega))
        · intro V S w2 HM HU HE
          have lw : Below w.heap.size w w2 := Rc.Mod.below HM (fun _ h => h.elim)
          have tb0 : (Rg.putUse V [] fr).eval (.tmp 0) = .slice A L.length c := (Rg.use_eval V fr 0 [] (by simp only [hz]; decide)).trans y0
          show Rg.Does1 _ _ V (Rg.putUse V [] fr) w2 _
          exact Ob.rc_mv (.slice A L.length c) (by simp only [execOp, tb0]; go_simp) rfl rfl True.intro
        · intro V S w2 HM HU HE
          have lw : Below w.heap.size w w2 := Rc.Mod.below HM (fun _ h => h.elim)
          have tb7 : (Rg.putUse V [] fr).eval (.tmp 7) = .int .i64 ((p : Nat) : Int) := (Rg.use_eval V fr 7 [] (by simp only [hz]; decide)).trans y7
          show Rg.Does1 _ _ V (Rg.putUse V [] fr) w2 _
          exact Ob.rc_mv (.int .i64 ((p : Nat) : Int)) (by simp only [execOp, tb7]; go_simp) rfl rfl True.intro
        · intro V S w2 HM HU HE
          have lw : Below w.heap.size w w2 := Rc.Mod.below HM (fun _ h => h.elim)
          have h6 : V 6 = .slice A L.length c := HU.holds 6 (by decide)
          have tb34 : (Rg.putUse V [(6, 34), (7, 35)] fr).eval (.tmp 34) = .slice A L.length c := (Rg.use_eval V fr 34 [(6, 34), (7, 35)] (by simp only [hz]; decide)).trans h6
          have h7 : V 7 = .int .i64 ((p : Nat) : Int) := HU.holds 7 (by decide)
          have tb35 : (Rg.putUse V [(6, 34), (7, 35)] fr).eval (.tmp 35) = .int .i64 ((p : Nat) : Int) := (Rg.use_eval V fr 35 [(6, 34), (7, 35)] (by simp only [hz]; decide)).trans h7
          show Rg.Does1 _ _ V (Rg.putUse V [(6, 34), (7, 35)] fr) w2 _
          exact Ob.rc_sll rfl tb34 tb35 (S2 w2) rfl rfl True.intro
        · intro V S w2 HM HU HE
          have lw : Below w.heap.size w w2 := Rc.Mod.below HM (fun _ h => h.elim)
          have h8 : V 8 = .slice (cutA A p c) L2.length (c - p) := HU.holds 8 (by decide)
          have tb36 : (Rg.putUse V [(8, 36)] fr).eval (.tmp 36) = .slice (cutA A p c) L2.length (c - p) := (Rg.use_eval V fr 36 [(8, 36)] (by simp only [hz]; decide)).trans h8
          show Rg.Does1 _ _ V (Rg.putUse V [(8, 36)] fr) w2 _
          exact step_hcall (Mk.root Sh.sum L2) #[.slice (cutA A p c) L2.length (c - p)] (fun args w => Rg.call_enter Tryd.func9 (by kernel_rfl) (by kernel_rfl) args w) rfl (by simp only [List.map_toArray, List.map_cons, List.map_nil, tb36]) rfl (fun x => Rg.alias_none rfl V x) True.intro (pRoot _ w2 L2 _ _ rfl (R2.out w2 (HR.out.below lw)) hc2 M2.out (HK.out.later lw))
        · intro V S w2 HM HU HE
          have lw : Below w.heap.size w w2 := Rc.Mod.below HM (fun _ h => h.elim)
          obtain ⟨X9, k9, e9, hc9, hr9, hX9⟩ := HU.holds 9 (by decide)
          have tb37 : (Rg.putUse V [(9, 37)] fr).eval (.tmp 37) = .slice X9 (Mk.root Sh.sum L2).length k9 := (Rg.use_eval V fr 37 [(9, 37)] (by simp only [hz]; decide)).trans e9
          show Rg.Does1 _ _ V (Rg.putUse V [(9, 37)] fr) w2 _
          exact step_lone (i := 9) (Mk.root Sh.sum L2) rfl tb37 rfl (by decide) hc9 hr9 hX9 (HU.lt 9 (by decide)) (fun x => Rg.alias_none rfl V x) True.intro
        · intro V S w2 HM HU HE
          have lw : Below w.heap.size w w2 := Rc.Mod.below HM (fun _ h => h.elim)
          have tb33 : (Rg.putUse V [(5, 33), (10, 38)] fr).eval (.tmp 33) = V 5 := (Rg.use_eval V fr 33 [(5, 33), (10, 38)] (by simp only [hz]; decide)).trans rfl
          have tb38 : (Rg.putUse V [(5, 33), (10, 38)] fr).eval (.tmp 38) = V 10 := (Rg.use_eval V fr 38 [(5, 33), (10, 38)] (by simp only [hz]; decide)).trans rfl
          show Rg.Does1 _ _ V (Rg.putUse V [(5, 33), (10, 38)] fr) w2 _
          exact step_lapp (i := 5) (k := 10) (Mk.sub Sh.sum L1 m whole) ([Mk.root Sh.sum L2]) (Mk.sub Sh.sum L1 m whole ++ [Mk.root Sh.sum L2]) rfl rfl tb33 tb38 rfl (by decide) (by decide) (HU.holds 5 (by decide)) (HU.holds 10 (by decide)) (HU.sep 5 (by decide) 10 (by decide) (by decide)) (HU.lt 5 (by decide)) (HU.lt 10 (by decide)) (Nat.zero_lt_succ _) (by have := sub_len L1 m whole M1.out.len; simp only [List.length_cons, List.length_nil]; omega) (fun x => Rg.alias_none rfl V x) True.intro
        · intro V S w2 HM HU HE
          have lw : Below w.heap.size w w2 := Rc.Mod.below HM (fun _ h => h.elim)
          have tb39 : (Rg.putUse V [(11, 39)] fr).eval (.tmp 39) = V 11 := (Rg.use_eval V fr 39 [(11, 39)] (by simp only [hz]; decide)).trans rfl
          show Rg.Does1 _ _ V (Rg.putUse V [(11, 39)] fr) w2 _
          exact Rc.step_val _ (Rg.alias_one rfl V) True.intro (by simp only [execOp, tb39]; go_simp) True.intro
      · intro V S w2 HI
        have HL2 : Hid (Below w.heap.size w w2) := Rc.Mod.below HI.mod.undrew (fun _ h => h.elim)
        have ha12 : V 12 = V 11 := HI.same 12 11 (fun v => v) (by decide) (by simp)
        have HN11 : Hid (LNew (Mk.sub Sh.sum L1 m whole ++ [Mk.root Sh.sum L2]) w (V 11) w2) := lnew_in HI 11 (by decide) (by rfl)
        obtain ⟨v11, hv11⟩ : ∃ v, v = V 11 := ⟨_, rfl⟩
        rw [← hv11] at HN11
        simp only [Rg.putList, Act.put, List.setIfInBounds_toArray, List.set_cons_zero, List.set_cons_succ, Nat.zero_add, Nat.reduceAdd]
        rw [ha12, ← hv11]
        clear HI ha12 hv11
        go_wp2_with fail
        go_ret
        exact ⟨_, rfl, by rw [HE2.out]; exact HN11.out, HL2.out⟩
    · skip
      have hp1 := Mk.part_lt L.length h2
      have hp2 := Mk.part_pos L.length h2
      have HP := Lib.hid (pPart w L.length h2 hlen)
      have HE2 := Lib.hid (Mk.sub_right Sh.sum L m whole h2 hme hmk)
      have HE := Lib.hid (Mk.root_split Sh.sum L h2)
      obtain ⟨p, hp⟩ : ∃ p, p = Mk.part L.length := ⟨_, rfl⟩
      rw [← hp] at hp1 hp2 HP HE HE2 hmk
      clear hp
      have hl1 : (L.take p).length < L.length := by rw [List.length_take]; omega
      have hl2 : (L.drop p).length < L.length := by rw [List.length_drop]; omega
      have hq1 : (L.take p).length = p := by rw [List.length_take]; omega
      have hq2 : (L.drop p).length = L.length - p := List.length_drop
      have S1 := fun W => rows_h W A L c p (by omega) hc
      have S2 := fun W => rows_l W A L c p (by omega)
      have R1 : Hid (∀ W, RdL W A L → RdL W A (L.take p)) := fun W h => h.take p
      have R2 : Hid (∀ W, RdL W A L → RdL W (cutA A p c) (L.drop p)) := fun W h => h.cut p c hc
      have M1 := Lib.hid (HS.out.take p)
      have M2 := Lib.hid (HS.out.drop p)
      have hc1 : (L.take p).length ≤ c := by rw [List.length_take]; omega
      have hc2 : (L.drop p).length ≤ c - p := by rw [List.length_drop]; omega
      obtain ⟨L1, hL1⟩ : ∃ L1, L1 = L.take p := ⟨_, rfl⟩
      obtain ⟨L2, hL2⟩ : ∃ L2, L2 = L.drop p := ⟨_, rfl⟩
      rw [← hL1] at hl1 S1 R1 M1 hc1 HE HE2 hq1
      rw [← hL2] at hl2 S2 R2 M2 hc2 HE HE2 hq2
      clear hL1 hL2
      have Q1 := Lib.hid hq1
      have Q2 := Lib.hid hq2
      clear hq1 hq2
      obtain ⟨q, rfl⟩ : ∃ q, m = p + q := ⟨m - p, by omega⟩
      rw [Nat.add_sub_cancel_left] at HE2
      go_enter Tryd.func35, Tryd.ntmps35
      go_wp2_with fail
      refine HP.out.mono ?_
      rintro e w1 ⟨rfl, rfl⟩
      go_upto_region 8 with (fail)
      refine Rc.wp_region (by kernel_rfl) (fun opn => List.getD [Rc.val (.slice A L.length c), Rc.val (.int .i64 ((p : Nat) : Int)), Rc.val (.slice (cutA A p c) L2.length (c - p)), Rc.val (.int .i64 ((p + q : Nat) : Int)), Rc.val (.int .i64 ((p : Nat) : Int)), Rc.val (.int .i64 ((q : Nat) : Int)), lrow (Mk.sub Sh.sum L2 q false), Rc.val (.slice A L.length c), Rc.val (.int .i64 ((p : Nat) : Int)), Rc.val (.slice A L1.length c), Ob.frow (Mk.root Sh.sum L1), lrow ([Mk.root Sh.sum L1]), lrow (Mk.sub Sh.sum L2 q false ++ [Mk.root Sh.sum L1]), Rc.any] opn Rc.any) 0 [(13, 12, fun v => v)] [[], [], [(0, 40), (1, 41)], [], [], [(3, 43), (4, 44)], [(2, 42), (5, 45)], [], [], [(7, 47), (8, 48)], [(9, 49)], [(10, 50)], [(6, 46), (11, 51)], [(12, 52)]] [[], [], [0, 1], [], [], [3, 4], [0, 1, 2, 3, 4, 5], [], [], [7, 8], [0, 1, 2, 3, 4, 5, 6, 7, 8, 9], [0, 1, 2, 3, 4, 5, 6, 7, 8, 9, 10], [0, 1, 2, 3, 4, 5, 6, 7, 8, 9, 10, 11], [0, 1, 2, 3, 4, 5, 6, 7, 8, 9, 10, 11, 12]] [[], [], [0, 1], [], [], [3, 4], [2, 5], [], [], [7, 8], [9], [10], [6, 11], [12]] [(11, 10), (12, 6), (12, 11)] (by kernel_rfl) (by rfl) (by kernel_rfl) (fun _ => False) (fun _ _ => False) Rc.Inv.none ?_ ?_
      · intro fr ha
        have hz : fr.tmps.size = 53 := by rw [ha]; rfl
        have y0 : fr.eval (.tmp 0) = .slice A L.length c := by rw [ha]; rfl
        have y1 : fr.eval (.tmp 1) = .int .i64 ((p + q : Nat) : Int) := by rw [ha]; rfl
        have y2 : fr.eval (.tmp 2) = .bool whole := by rw [ha]; rfl
        have y7 : fr.eval (.tmp 7) = .int .i64 ((p : Nat) : Int) := by rw [ha]; rfl
        clear ha
        refine .cons ?_ (.cons ?_ (.cons ?_ (.cons ?_ (.cons ?_ (.cons ?_ (.cons ?_ (.cons ?_ (.cons ?_ (.cons ?_ (.cons ?_ (.cons ?_ (.cons ?_ (.cons ?_ (.nil))))))))))))))
        · intro V S w2 HM HU HE
          have lw : Below w.heap.size w w2 := Rc.Mod.below HM (fun _ h => h.elim)
          have tb0 : (Rg.putUse V [] fr).eval (.tmp 0) = .slice A L.length c := (Rg.use_eval V fr 0 [] (by simp only [hz]; decide)).trans y0
          show Rg.Does1 _ _ V (Rg.putUse V [] fr) w2 _
          exact Ob.rc_mv (.slice A L.length c) (by simp only [execOp, tb0]; go_simp) rfl rfl True.intro
        · intro V S w2 HM HU HE
          have lw : Below w.heap.size w w2 := Rc.Mod.below HM (fun _ h => h.elim)
          have tb7 : (Rg.putUse V [] fr).eval (.tmp 7) = .int .i64 ((p : Nat) : Int) := (Rg.use_eval V fr 7 [] (by simp only [hz]; decide)).trans y7
          show Rg.Does1 _ _ V (Rg.putUse V [] fr) w2 _
          exact Ob.rc_mv (.int .i64 ((p : Nat) : Int)) (by simp only [execOp, tb7]; go_simp) rfl rfl True.intro
        · intro V S w2 HM HU HE
          have lw : Below w.heap.size w w2 := Rc.Mod.below HM (fun _ h => h.elim)
          have h0 : V 0 = .slice A L.length c := HU.holds 0 (by decide)
          have tb40 : (Rg.putUse V [(0, 40), (1, 41)] fr).eval (.tmp 40) = .slice A L.length c := (Rg.use_eval V fr 40 [(0, 40), (1, 41)] (by simp only [hz]; decide)).trans h0
          have h1 : V 1 = .int .i64 ((p : Nat) : Int) := HU.holds 1 (by decide)
          have tb41 : (Rg.putUse V [(0, 40), (1, 41)] fr).eval (.tmp 41) = .int .i64 ((p : Nat) : Int) := (Rg.use_eval V fr 41 [(0, 40), (1, 41)] (by simp only [hz]; decide)).trans h1
          show Rg.Does1 _ _ V (Rg.putUse V [(0, 40), (1, 41)] fr) w2 _
          exact Ob.rc_sll rfl tb40 tb41 (S2 w2) rfl rfl True.intro
        · intro V S w2 HM HU HE
          have lw : Below w.heap.size w w2 := Rc.Mod.below HM (fun _ h => h.elim)
          have tb1 : (Rg.putUse V [] fr).eval (.tmp 1) = .int .i64 ((p + q : Nat) : Int) := (Rg.use_eval V fr 1 [] (by simp only [hz]; decide)).trans y1
          show Rg.Does1 _ _ V (Rg.putUse V [] fr) w2 _
          exact Ob.rc_mv (.int .i64 ((p + q : Nat) : Int)) (by simp only [execOp, tb1]; go_simp) rfl rfl True.intro
        · intro V S w2 HM HU HE
          have lw : Below w.heap.size w w2 := Rc.Mod.below HM (fun _ h => h.elim)
          have tb7 : (Rg.putUse V [] fr).eval (.tmp 7) = .int .i64 ((p : Nat) : Int) := (Rg.use_eval V fr 7 [] (by simp only [hz]; decide)).trans y7
          show Rg.Does1 _ _ V (Rg.putUse V [] fr) w2 _
          exact Ob.rc_mv (.int .i64 ((p : Nat) : Int)) (by simp only [execOp, tb7]; go_simp) rfl rfl True.intro
        · intro V S w2 HM HU HE
          have lw : Below w.heap.size w w2 := Rc.Mod.below HM (fun _ h => h.elim)
          have h3 : V 3 = .int .i64 ((p + q : Nat) : Int) := HU.holds 3 (by decide)
          have tb43 : (Rg.putUse V [(3, 43), (4, 44)] fr).eval (.tmp 43) = .int .i64 ((p + q : Nat) : Int) := (Rg.use_eval V fr 43 [(3, 43), (4, 44)] (by simp only [hz]; decide)).trans h3
          have h4 : V 4 = .int .i64 ((p : Nat) : Int) := HU.holds 4 (by decide)
          have tb44 : (Rg.putUse V [(3, 43), (4, 44)] fr).eval (.tmp 44) = .int .i64 ((p : Nat) : Int) := (Rg.use_eval V fr 44 [(3, 43), (4, 44)] (by simp only [hz]; decide)).trans h4
          show Rg.Does1 _ _ V (Rg.putUse V [(3, 43), (4, 44)] fr) w2 _
          exact Ob.rc_mv (.int .i64 ((q : Nat) : Int)) (by simp only [execOp, tb43, tb44]; go_simp; rw [IntWalk.i64_in _ (by omega)]; omega) rfl rfl True.intro
        · intro V S w2 HM HU HE
          have lw : Below w.heap.size w w2 := Rc.Mod.below HM (fun _ h => h.elim)
          have h2 : V 2 = .slice (cutA A p c) L2.length (c - p) := HU.holds 2 (by decide)
          have tb42 : (Rg.putUse V [(2, 42), (5, 45)] fr).eval (.tmp 42) = .slice (cutA A p c) L2.length (c - p) := (Rg.use_eval V fr 42 [(2, 42), (5, 45)] (by simp only [hz]; decide)).trans h2
          have h5 : V 5 = .int .i64 ((q : Nat) : Int) := HU.holds 5 (by decide)
          have tb45 : (Rg.putUse V [(2, 42), (5, 45)] fr).eval (.tmp 45) = .int .i64 ((q : Nat) : Int) := (Rg.use_eval V fr 45 [(2, 42), (5, 45)] (by simp only [hz]; decide)).trans h5
          show Rg.Does1 _ _ V (Rg.putUse V [(2, 42), (5, 45)] fr) w2 _
          exact step_lcall (Mk.sub Sh.sum L2 q false) #[.slice (cutA A p c) L2.length (c - p), .int .i64 ((q : Nat) : Int), .bool false] (fun args w => Rg.call_enter Tryd.func35 (by kernel_rfl) (by kernel_rfl) args w) rfl (by simp only [List.map_toArray, List.map_cons, List.map_nil, Rg.eval_const, tb42, tb45]) rfl (fun x => Rg.alias_none rfl V x) True.intro (IH.out _ hl2 w2 L2 _ _ q false rfl (R2.out w2 (HR.out.below lw)) hc2 M2.out (HK.out.later lw) (by omega) (by have := Q2.out; omega))
        · intro V S w2 HM HU HE
          have lw : Below w.heap.size w w2 := Rc.Mod.below HM (fun _ h => h.elim)
          have tb0 : (Rg.putUse V [] fr).eval (.tmp 0) = .slice A L.length c := (Rg.use_eval V fr 0 [] (by simp only [hz]; decide)).trans y0
          show Rg.Does1 _ _ V (Rg.putUse V [] fr) w2 _
          exact Ob.rc_mv (.slice A L.length c) (by simp only [execOp, tb0]; go_simp) rfl rfl True.intro
        · intro V S w2 HM HU HE
          have lw : Below w.heap.size w w2 := Rc.Mod.below HM (fun _ h => h.elim)
          have tb7 : (Rg.putUse V [] fr).eval (.tmp 7) = .int .i64 ((p : Nat) : Int) := (Rg.use_eval V fr 7 [] (by simp only [hz]; decide)).trans y7
          show Rg.Does1 _ _ V (Rg.putUse V [] fr) w2 _
          exact Ob.rc_mv (.int .i64 ((p : Nat) : Int)) (by simp only [execOp, tb7]; go_simp) rfl rfl True.intro
        · intro V S w2 HM HU HE
          have lw : Below w.heap.size w w2 := Rc.Mod.below HM (fun _ h => h.elim)
          have h7 : V 7 = .slice A L.length c := HU.holds 7 (by decide)
          have tb47 : (Rg.putUse V [(7, 47), (8, 48)] fr).eval (.tmp 47) = .slice A L.length c := (Rg.use_eval V fr 47 [(7, 47), (8, 48)] (by simp only [hz]; decide)).trans h7
          have h8 : V 8 = .int .i64 ((p : Nat) : Int) := HU.holds 8 (by decide)
          have tb48 : (Rg.putUse V [(7, 47), (8, 48)] fr).eval (.tmp 48) = .int .i64 ((p : Nat) : Int) := (Rg.use_eval V fr 48 [(7, 47), (8, 48)] (by simp only [hz]; decide)).trans h8
          show Rg.Does1 _ _ V (Rg.putUse V [(7, 47), (8, 48)] fr) w2 _
          exact Ob.rc_slh rfl tb47 tb48 (S1 w2) rfl rfl True.intro
        · intro V S w2 HM HU HE
          have lw : Below w.heap.size w w2 := Rc.Mod.below HM (fun _ h => h.elim)
          have h9 : V 9 = .slice A L1.length c := HU.holds 9 (by decide)
          have tb49 : (Rg.putUse V [(9, 49)] fr).eval (.tmp 49) = .slice A L1.length c := (Rg.use_eval V fr 49 [(9, 49)] (by simp only [hz]; decide)).trans h9
          show Rg.Does1 _ _ V (Rg.putUse V [(9, 49)] fr) w2 _
          exact step_hcall (Mk.root Sh.sum L1) #[.slice A L1.length c] (fun args w => Rg.call_enter Tryd.func9 (by kernel_rfl) (by kernel_rfl) args w) rfl (by simp only [List.map_toArray, List.map_cons, List.map_nil, tb49]) rfl (fun x => Rg.alias_none rfl V x) True.intro (pRoot _ w2 L1 _ _ rfl (R1.out w2 (HR.out.below lw)) hc1 M1.out (HK.out.later lw))
        · intro V S w2 HM HU HE
          have lw : Below w.heap.size w w2 := Rc.Mod.below HM (fun _ h => h.elim)
          obtain ⟨X10, k10, e10, hc10, hr10, hX10⟩ := HU.holds 10 (by decide)
          have tb50 : (Rg.putUse V [(10, 50)] fr).eval (.tmp 50) = .slice X10 (Mk.root Sh.sum L1).length k10 := (Rg.use_eval V fr 50 [(10, 50)] (by simp only [hz]; decide)).trans e10
          show Rg.Does1 _ _ V (Rg.putUse V [(10, 50)] fr) w2 _
          exact step_lone (i := 10) (Mk.root Sh.sum L1) rfl tb50 rfl (by decide) hc10 hr10 hX10 (HU.lt 10 (by decide)) (fun x => Rg.alias_none rfl V x) True.intro
        · intro V S w2 HM HU HE
          have lw : Below w.heap.size w w2 := Rc.Mod.below HM (fun _ h => h.elim)
          have tb46 : (Rg.putUse V [(6, 46), (11, 51)] fr).eval (.tmp 46) = V 6 := (Rg.use_eval V fr 46 [(6, 46), (11, 51)] (by simp only [hz]; decide)).trans rfl
          have tb51 : (Rg.putUse V [(6, 46), (11, 51)] fr).eval (.tmp 51) = V 11 := (Rg.use_eval V fr 51 [(6, 46), (11, 51)] (by simp only [hz]; decide)).trans rfl
          show Rg.Does1 _ _ V (Rg.putUse V [(6, 46), (11, 51)] fr) w2 _
          exact step_lapp (i := 6) (k := 11) (Mk.sub Sh.sum L2 q false) ([Mk.root Sh.sum L1]) (Mk.sub Sh.sum L2 q false ++ [Mk.root Sh.sum L1]) rfl rfl tb46 tb51 rfl (by decide) (by decide) (HU.holds 6 (by decide)) (HU.holds 11 (by decide)) (HU.sep 6 (by decide) 11 (by decide) (by decide)) (HU.lt 6 (by decide)) (HU.lt 11 (by decide)) (Nat.zero_lt_succ _) (by have := sub_len L2 q false M2.out.len; simp only [List.length_cons, List.length_nil]; omega) (fun x => Rg.alias_none rfl V x) True.intro
        · intro V S w2 HM HU HE
          have lw : Below w.heap.size w w2 := Rc.Mod.below HM (fun _ h => h.elim)
          have tb52 : (Rg.putUse V [(12, 52)] fr).eval (.tmp 52) = V 12 := (Rg.use_eval V fr 52 [(12, 52)] (by simp only [hz]; decide)).trans rfl
          show Rg.Does1 _ _ V (Rg.putUse V [(12, 52)] fr) w2 _
          exact Rc.step_val _ (Rg.alias_one rfl V) True.intro (by simp only [execOp, tb52]; go_simp) True.intro
      · intro V S w2 HI
        have HL2 : Hid (Below w.heap.size w w2) := Rc.Mod.below HI.mod.undrew (fun _ h => h.elim)
        have ha13 : V 13 = V 12 := HI.same 13 12 (fun v => v) (by decide) (by simp)
        have HN12 : Hid (LNew (Mk.sub Sh.sum L2 q false ++ [Mk.root Sh.sum L1]) w (V 12) w2) := lnew_in HI 12 (by decide) (by rfl)
        obtain ⟨v12, hv12⟩ : ∃ v, v = V 12 := ⟨_, rfl⟩
        rw [← hv12] at HN12
        simp only [Rg.putList, Act.put, List.setIfInBounds_toArray, List.set_cons_zero, List.set_cons_succ, Nat.zero_add, Nat.reduceAdd]
        rw [ha13, ← hv12]
        clear HI ha13 hv12
        go_wp2_with fail
        go_ret
        exact ⟨_, rfl, by rw [HE2.out]; exact HN12.out, HL2.out⟩
end Go.Proofs.YtjeclmbableacaaDoor
