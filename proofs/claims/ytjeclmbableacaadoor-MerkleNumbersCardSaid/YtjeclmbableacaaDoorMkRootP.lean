/-
  OWN WORK. Root: the program's, by its contract.
-/
import Derived.Test.YtjeclmbableacaaDoorMkLen
namespace Go.Proofs.YtjeclmbableacaaDoor
open Go.RowKit Rc

set_option maxHeartbeats 8000000 in
set_option maxRecDepth 100000 in
theorem pRoot (N : Nat) : ∀ (w : World) (L : List (List UInt8)) (A : Option Addr) (c : Nat), L.length = N → RdL w A L → L.length ≤ c → Small L → KP w → Calls Tryd.prog 9 #[.slice A L.length c] w (HOut (Mk.root Sh.sum L) w) := by
  induction N using Nat.strongRecOn with
  | _ N ih =>
  intro w L A c hN hr hc hs hk
  subst hN
  have IH := Lib.hid ih
  clear ih
  have HR : Hid (RdL w A L) := hr
  have HK : Hid (KP w) := hk
  have HS := Lib.hid hs
  clear hr hk hs
  rcases Nat.lt_or_ge L.length 2 with h2 | h2
  · rcases Nat.lt_or_ge L.length 1 with h1 | h1
    · obtain rfl : L = [] := List.eq_nil_of_length_eq_zero (by omega)
      rw [Mk.root_nil]
      clear IH
      go_enter Tryd.func9, Tryd.ntmps9
      go_wp2_with fail
      refine (pSum0 w HK.out).mono ?_
      rintro e w1 ⟨x, rfl, hx, hb⟩
      have HX := Lib.hid hx
      have HB := Lib.hid hb
      clear hx hb
      go_wp2_with fail
      go_ret
      exact ⟨_, rfl, HX.out, HB.out⟩
    · obtain ⟨y, rfl⟩ := List.length_eq_one_iff.1 (show L.length = 1 by omega)
      rw [Mk.root_one]
      obtain ⟨b, off, y', A', c', rfl, hy, hcell, hc', hr'⟩ := HR.out.at_ 0 (by simp)
      obtain rfl : y = y' := by simpa using hy
      have hcell0 : w.cell? ⟨b, off, none⟩ = some (.slice A' y.length c') := hcell
      have HR2 := Lib.hid hr'
      have hyl := HS.out.each y (by simp)
      clear IH hcell hy hr'
      go_enter Tryd.func9, Tryd.ntmps9
      go_wp2_with fail
      refine (pLeaf w y A' c' HR2.out hc' HK.out hyl).mono ?_
      rintro e w1 ⟨x, rfl, hx, hb⟩
      have HX := Lib.hid hx
      have HB := Lib.hid hb
      clear hx hb
      go_wp2_with fail
      go_ret
      exact ⟨_, rfl, HX.out, HB.out⟩
  · have hlen := HS.out.len
    have hp1 := Mk.part_lt L.length h2
    have hp2 := Mk.part_pos L.length h2
    have HP := Lib.hid (pPart w L.length h2 hlen)
    have HE := Lib.hid (Mk.root_split Sh.sum L h2)
    obtain ⟨p, hp⟩ : ∃ p, p = Mk.part L.length := ⟨_, rfl⟩
    rw [← hp] at hp1 hp2 HP HE
    clear hp
    have hl1 : (L.take p).length < L.length := by rw [List.length_take]; omega
    have hl2 : (L.drop p).length < L.length := by rw [List.length_drop]; omega
    have S1 := fun W => rows_h W A L c p (by omega) hc
    have S2 := fun W => rows_l W A L c p (by omega)
    have R1 : Hid (∀ W, RdL W A L → RdL W A (L.take p)) := fun W h => h.take p
    have R2 : Hid (∀ W, RdL W A L → RdL W (cutA A p c) (L.drop p)) := fun W h => h.cut p c hc
    have M1 := Lib.hid (HS.out.take p)
    have M2 := Lib.hid (HS.out.drop p)
    have hc1 : (L.take p).length ≤ c := by rw [List.length_take]; omega
    have hc2 : (L.drop p).length ≤ c - p := by rw [List.length_drop]; omega
    obtain ⟨L1, hL1⟩ : ∃ L1, L1 = L.take p := ⟨_, rfl⟩
    obtain ⟨L2, hL2⟩ : ∃ L2, L2 = L.drop p := ⟨_, rfl⟩
    rw [← hL1] at hl1 S1 R1 M1 hc1 HE
    rw [← hL2] at hl2 S2 R2 M2 hc2 HE
    clear hL1 hL2
    go_enter Tryd.func9, Tryd.ntmps9
    go_wp2_with fail
    refine HP.out.mono ?_
    rintro e w1 ⟨rfl, rfl⟩
    go_upto_region 7 with (fail)
    refine Rc.wp_region (by kernel_rfl) (fun opn => List.getD [Rc.val (.slice A L.length c), Rc.val (.int .i64 ((p : Nat) : Int)), Rc.val (.slice A L1.length c), Ob.frow (Mk.root Sh.sum L1), Rc.val (.slice A L.length c), Rc.val (.int .i64 ((p : Nat) : Int)), Rc.val (.slice (cutA A p c) L2.length (c - p)), Ob.frow (Mk.root Sh.sum L2), Ob.frow (Mk.pairOf Sh.sum (Mk.root Sh.sum L1) (Mk.root Sh.sum L2)), Rc.any] opn Rc.any) 0 [(9, 8, fun v => v)] [[], [], [(0, 18), (1, 19)], [(2, 20)], [], [], [(4, 22), (5, 23)], [(6, 24)], [(3, 21), (7, 25)], [(8, 26)]] [[], [], [0, 1], [0, 1, 2], [], [], [4, 5], [0, 1, 2, 3, 4, 5, 6], [0, 1, 2, 3, 4, 5, 6, 7], [0, 1, 2, 3, 4, 5, 6, 7, 8]] [[], [], [0, 1], [2], [], [], [4, 5], [6], [3, 7], [8]] [] (by kernel_rfl) (by rfl) (by kernel_rfl) (fun _ => False) (fun _ _ => False) Rc.Inv.none ?_ ?_
    · intro fr ha
      have hz : fr.tmps.size = 27 := by rw [ha]; rfl
      have y0 : fr.eval (.tmp 0) = .slice A L.length c := by rw [ha]; rfl
      have y3 : fr.eval (.tmp 3) = .int .i64 ((p : Nat) : Int) := by rw [ha]; rfl
      clear ha
      refine .cons ?_ (.cons ?_ (.cons ?_ (.cons ?_ (.cons ?_ (.cons ?_ (.cons ?_ (.cons ?_ (.cons ?_ (.cons ?_ (.nil))))))))))
      · intro V S w2 HM HU HE
        have lw : Below w.heap.size w w2 := Rc.Mod.below HM (fun _ h => h.elim)
        have tb0 : (Rg.putUse V [] fr).eval (.tmp 0) = .slice A L.length c := (Rg.use_eval V fr 0 [] (by simp only [hz]; decide)).trans y0
        show Rg.Does1 _ _ V (Rg.putUse V [] fr) w2 _
        exact Ob.rc_mv (.slice A L.length c) (by simp only [execOp, tb0]; go_simp) rfl rfl True.intro
      · intro V S w2 HM HU HE
        have lw : Below w.heap.size w w2 := Rc.Mod.below HM (fun _ h => h.elim)
        have tb3 : (Rg.putUse V [] fr).eval (.tmp 3) = .int .i64 ((p : Nat) : Int) := (Rg.use_eval V fr 3 [] (by simp only [hz]; decide)).trans y3
        show Rg.Does1 _ _ V (Rg.putUse V [] fr) w2 _
        exact Ob.rc_mv (.int .i64 ((p : Nat) : Int)) (by simp only [execOp, tb3]; go_simp) rfl rfl True.intro
      · intro V S w2 HM HU HE
        have lw : Below w.heap.size w w2 := Rc.Mod.below HM (fun _ h => h.elim)
        have h0 : V 0 = .slice A L.length c := HU.holds 0 (by decide)
        have tb18 : (Rg.putUse V [(0, 18), (1, 19)] fr).eval (.tmp 18) = .slice A L.length c := (Rg.use_eval V fr 18 [(0, 18), (1, 19)] (by simp only [hz]; decide)).trans h0
        have h1 : V 1 = .int .i64 ((p : Nat) : Int) := HU.holds 1 (by decide)
        have tb19 : (Rg.putUse V [(0, 18), (1, 19)] fr).eval (.tmp 19) = .int .i64 ((p : Nat) : Int) := (Rg.use_eval V fr 19 [(0, 18), (1, 19)] (by simp only [hz]; decide)).trans h1
        show Rg.Does1 _ _ V (Rg.putUse V [(0, 18), (1, 19)] fr) w2 _
        exact Ob.rc_slh rfl tb18 tb19 (S1 w2) rfl rfl True.intro
      · intro V S w2 HM HU HE
        have lw : Below w.heap.size w w2 := Rc.Mod.below HM (fun _ h => h.elim)
        have h2 : V 2 = .slice A L1.length c := HU.holds 2 (by decide)
        have tb20 : (Rg.putUse V [(2, 20)] fr).eval (.tmp 20) = .slice A L1.length c := (Rg.use_eval V fr 20 [(2, 20)] (by simp only [hz]; decide)).trans h2
        show Rg.Does1 _ _ V (Rg.putUse V [(2, 20)] fr) w2 _
        exact step_hcall (Mk.root Sh.sum L1) #[.slice A L1.length c] (fun args w => Rg.call_enter Tryd.func9 (by kernel_rfl) (by kernel_rfl) args w) rfl (by simp only [List.map_toArray, List.map_cons, List.map_nil, tb20]) rfl (fun x => Rg.alias_none rfl V x) True.intro (IH.out _ hl1 w2 L1 A c rfl (R1.out w2 (HR.out.below lw)) hc1 M1.out (HK.out.later lw))
      · intro V S w2 HM HU HE
        have lw : Below w.heap.size w w2 := Rc.Mod.below HM (fun _ h => h.elim)
        have tb0 : (Rg.putUse V [] fr).eval (.tmp 0) = .slice A L.length c := (Rg.use_eval V fr 0 [] (by simp only [hz]; decide)).trans y0
        show Rg.Does1 _ _ V (Rg.putUse V [] fr) w2 _
        exact Ob.rc_mv (.slice A L.length c) (by simp only [execOp, tb0]; go_simp) rfl rfl True.intro
      · intro V S w2 HM HU HE
        have lw : Below w.heap.size w w2 := Rc.Mod.below HM (fun _ h => h.elim)
        have tb3 : (Rg.putUse V [] fr).eval (.tmp 3) = .int .i64 ((p : Nat) : Int) := (Rg.use_eval V fr 3 [] (by simp only [hz]; decide)).trans y3
        show Rg.Does1 _ _ V (Rg.putUse V [] fr) w2 _
        exact Ob.rc_mv (.int .i64 ((p : Nat) : Int)) (by simp only [execOp, tb3]; go_simp) rfl rfl True.intro
      · intro V S w2 HM HU HE
        have lw : Below w.heap.size w w2 := Rc.Mod.below HM (fun _ h => h.elim)
        have h4 : V 4 = .slice A L.length c := HU.holds 4 (by decide)
        have tb22 : (Rg.putUse V [(4, 22), (5, 23)] fr).eval (.tmp 22) = .slice A L.length c := (Rg.use_eval V fr 22 [(4, 22), (5, 23)] (by simp only [hz]; decide)).trans h4
        have h5 : V 5 = .int .i64 ((p : Nat) : Int) := HU.holds 5 (by decide)
        have tb23 : (Rg.putUse V [(4, 22), (5, 23)] fr).eval (.tmp 23) = .int .i64 ((p : Nat) : Int) := (Rg.use_eval V fr 23 [(4, 22), (5, 23)] (by simp only [hz]; decide)).trans h5
        show Rg.Does1 _ _ V (Rg.putUse V [(4, 22), (5, 23)] fr) w2 _
        exact Ob.rc_sll rfl tb22 tb23 (S2 w2) rfl rfl True.intro
      · intro V S w2 HM HU HE
        have lw : Below w.heap.size w w2 := Rc.Mod.below HM (fun _ h => h.elim)
        have h6 : V 6 = .slice (cutA A p c) L2.length (c - p) := HU.holds 6 (by decide)
        have tb24 : (Rg.putUse V [(6, 24)] fr).eval (.tmp 24) = .slice (cutA A p c) L2.length (c - p) := (Rg.use_eval V fr 24 [(6, 24)] (by simp only [hz]; decide)).trans h6
        show Rg.Does1 _ _ V (Rg.putUse V [(6, 24)] fr) w2 _
        exact step_hcall (Mk.root Sh.sum L2) #[.slice (cutA A p c) L2.length (c - p)] (fun args w => Rg.call_enter Tryd.func9 (by kernel_rfl) (by kernel_rfl) args w) rfl (by simp only [List.map_toArray, List.map_cons, List.map_nil, tb24]) rfl (fun x => Rg.alias_none rfl V x) True.intro (IH.out _ hl2 w2 L2 _ _ rfl (R2.out w2 (HR.out.below lw)) hc2 M2.out (HK.out.later lw))
      · intro V S w2 HM HU HE
        have lw : Below w.heap.size w w2 := Rc.Mod.below HM (fun _ h => h.elim)
        obtain ⟨X3, k3, e3, hc3, hr3, hX3⟩ := HU.holds 3 (by decide)
        have tb21 : (Rg.putUse V [(3, 21), (7, 25)] fr).eval (.tmp 21) = .slice X3 (Mk.root Sh.sum L1).length k3 := (Rg.use_eval V fr 21 [(3, 21), (7, 25)] (by simp only [hz]; decide)).trans e3
        obtain ⟨X7, k7, e7, hc7, hr7, hX7⟩ := HU.holds 7 (by decide)
        have tb25 : (Rg.putUse V [(3, 21), (7, 25)] fr).eval (.tmp 25) = .slice X7 (Mk.root Sh.sum L2).length k7 := (Rg.use_eval V fr 25 [(3, 21), (7, 25)] (by simp only [hz]; decide)).trans e7
        show Rg.Does1 _ _ V (Rg.putUse V [(3, 21), (7, 25)] fr) w2 _
        exact step_hcall (Mk.pairOf Sh.sum (Mk.root Sh.sum L1) (Mk.root Sh.sum L2)) #[.slice X3 (Mk.root Sh.sum L1).length k3, .slice X7 (Mk.root Sh.sum L2).length k7] (fun args w => Rg.call_enter Tryd.func29 (by kernel_rfl) (by kernel_rfl) args w) rfl (by simp only [List.map_toArray, List.map_cons, List.map_nil, tb21, tb25]) rfl (fun x => Rg.alias_none rfl V x) True.intro (pPair w2 _ _ _ _ _ _ hr3 hc3 hr7 hc7 (HK.out.later lw) (by rw [root_length]; omega) (by rw [root_length]; omega))
      · intro V S w2 HM HU HE
        have lw : Below w.heap.size w w2 := Rc.Mod.below HM (fun _ h => h.elim)
        obtain ⟨X8, k8, e8, hc8, hr8, hX8⟩ := HU.holds 8 (by decide)
        have tb26 : (Rg.putUse V [(8, 26)] fr).eval (.tmp 26) = .slice X8 (Mk.pairOf Sh.sum (Mk.root Sh.sum L1) (Mk.root Sh.sum L2)).length k8 := (Rg.use_eval V fr 26 [(8, 26)] (by simp only [hz]; decide)).trans e8
        show Rg.Does1 _ _ V (Rg.putUse V [(8, 26)] fr) w2 _
        exact Rc.step_val _ (Rg.alias_one rfl V) True.intro (by simp only [execOp, tb26, ← e8]; go_simp) True.intro
    · intro V S w2 HI
      have HL2 : Hid (Below w.heap.size w w2) := Rc.Mod.below HI.mod.undrew (fun _ h => h.elim)
      have ha9 : V 9 = V 8 := HI.same 9 8 (fun v => v) (by decide) (by simp)
      obtain ⟨X8, k8, hw8, hc8, hr8, hX8⟩ := HI.get 8 (by decide) (by rfl)
      have HN8 : Hid (HNew (Mk.pairOf Sh.sum (Mk.root Sh.sum L1) (Mk.root Sh.sum L2)) w (.slice X8 (Mk.pairOf Sh.sum (Mk.root Sh.sum L1) (Mk.root Sh.sum L2)).length k8) w2) := ⟨X8, k8, rfl, hc8, hr8, fun b hb => new_in HI 8 (by decide) (by rfl) (hX8 b hb)⟩
      clear hc8 hr8 hX8
      simp only [Rg.putList, Act.put, List.setIfInBounds_toArray, List.set_cons_zero, List.set_cons_succ, Nat.zero_add, Nat.reduceAdd]
      rw [ha9, hw8]
      clear HI ha9 hw8
      go_wp2_with fail
      go_ret
      exact ⟨_, rfl, by rw [HE.out]; exact HN8.out, HL2.out⟩
end Go.Proofs.YtjeclmbableacaaDoor
