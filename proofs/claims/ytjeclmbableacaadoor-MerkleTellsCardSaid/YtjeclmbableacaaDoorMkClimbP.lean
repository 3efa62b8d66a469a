/-
  OWN WORK. What a leaf comes to by a path: the program's, by its contract.
-/
import Derived.Test.YtjeclmbableacaaDoorMkLen
namespace Go.Proofs.YtjeclmbableacaaDoor
open Go.RowKit Rc

set_option maxHeartbeats 8000000 in
set_option maxRecDepth 100000 in
theorem pClimb (N : Nat) : ∀ (w : World) (x : List UInt8) (A : Option Addr) (c i n : Nat) (P : List (List UInt8)) (B : Option Addr) (d : Nat), n = N → i < n → n ≤ 1000000 → Rd w A x → x.length ≤ c → x.length ≤ 1000000 → RdL w B P → P.length ≤ d → Small P → KP w → Calls Tryd.prog 33 #[.slice A x.length c, .int .i64 (i : Nat), .int .i64 (n : Nat), .slice B P.length d] w (CAns (Mk.climb Sh.sum x i n P) w) := by
  induction N using Nat.strongRecOn with
  | _ N ih =>
  intro w x A c i n P B d hN hi hn hr hc hx hr2 hd hs hk
  subst hN
  have IH := Lib.hid ih
  have HR : Hid (Rd w A x) := hr
  have HR2 : Hid (RdL w B P) := hr2
  have HS := Lib.hid hs
  have HK : Hid (KP w) := hk
  have hlen := HS.out.len
  clear ih hr hr2 hs hk
  rcases Nat.lt_or_ge n 2 with h2 | h2
  · obtain rfl : n = 1 := by omega
    have HE := Lib.hid (Mk.climb_one Sh.sum x i 1 P h2)
    by_cases hp : P.length = 0
    · have hp2 : Hid (P = []) := List.eq_nil_of_length_eq_zero hp
      rw [hp]
      clear hp hlen hd hi hn h2
      go_enter Tryd.func33, Tryd.ntmps33
      go_wp2_with fail
      refine (pLeaf w x A c HR.out hc HK.out hx).mono ?_
      rintro e w1 ⟨v, rfl, ⟨X, k, rfl, hXc, hXr, _⟩, hb⟩
      have HX := Lib.hid hXr
      have HB := Lib.hid hb
      clear hXr hb
      go_wp2_with fail
      go_ret2
      exact ⟨_, X, k, true, rfl, hXc, by rw [leaf_length]; omega, HX.out, by rw [HE.out, if_pos hp2.out]; rfl, HB.out⟩
    · have hp2 : Hid (P ≠ []) := fun h => hp (by rw [h]; rfl)
      have hp3 : ((P.length : Int) == 0) = false := beq_eq_false_iff_ne.2 (by omega)
      go_enter Tryd.func33, Tryd.ntmps33
      go_wp2_with fail
      refine (pLeaf w x A c HR.out hc HK.out hx).mono ?_
      rintro e w1 ⟨v, rfl, ⟨X, k, rfl, hXc, hXr, _⟩, hb⟩
      have HX := Lib.hid hXr
      have HB := Lib.hid hb
      clear hXr hb
      go_wp2_with fail
      go_ret2
      exact ⟨_, X, k, false, rfl, hXc, by rw [leaf_length]; omega, HX.out, by rw [HE.out, if_neg hp2.out]; rfl, HB.out⟩
  · by_cases hp : P.length = 0
    · have HE : Hid (Mk.climb Sh.sum x i n P = none) := by rw [List.eq_nil_of_length_eq_zero hp]; exact Mk.climb_none Sh.sum x i n h2
      rw [hp]
      clear hp hlen hd hi
      go_enter Tryd.func33, Tryd.ntmps33
      go_wp2_with fail
      go_ret2
      exact ⟨[], none, 0, false, rfl, Nat.le_refl _, by simp, Rd.nil _ _, HE.out, Below.refl _ _⟩
    · have hpc : P.length - 1 ≤ P.length := Nat.sub_le _ _
      obtain ⟨b, off, u, A2, c2, rfl, hu, hcell, hc2, hru⟩ := HR2.out.at_ (P.length - 1) (by omega)
      have S1 := fun W => rows_h W (some ⟨b, off, none⟩) P d (P.length - 1) hpc hd
      have hPQ : P = P.take (P.length - 1) ++ [u] := by
        conv => lhs; rw [← List.take_append_drop (P.length - 1) P]
        congr 1
        apply List.ext_getElem?
        intro j
        rw [List.getElem?_drop]
        rcases j with _ | j
        · rw [Nat.add_zero, hu]; rfl
        · rw [List.getElem?_eq_none (by omega)]; rfl
      have RQ : Hid (RdL w (some ⟨b, off, none⟩) (P.take (P.length - 1))) := HR2.out.take _
      have MQ := Lib.hid (HS.out.take (P.length - 1))
      have hul := HS.out.at_ hu
      have hQl : (P.take (P.length - 1)).length = P.length - 1 := by rw [List.length_take]; omega
      have HBL : Hid (b < w.heap.size) := World.block_lt_of_cell? w ⟨b, _, none⟩ hcell
      obtain ⟨Q, hQ⟩ : ∃ Q, Q = P.take (P.length - 1) := ⟨_, rfl⟩
      rw [← hQ] at S1 hPQ RQ MQ hQl
      obtain ⟨m, hm⟩ : ∃ m, m = P.length - 1 := ⟨_, rfl⟩
      have hPl : P.length = m + 1 := by omega
      rw [← hm] at hcell hQl
      rw [← hm, hPl] at S1
      have HPE := Lib.hid hPQ
      have HQL := Lib.hid hQl
      have HRU := Lib.hid hru
      have hq1 := Mk.part_lt n h2
      have hq2 := Mk.part_pos n h2
      have HP := Lib.hid (pPart w n h2 hn)
      have HPQ : Hid (∀ W, Calls Tryd.prog 28 #[.int .i64 (n : Nat)] W fun e w' => e = .returned (.int .i64 (Mk.part n : Nat)) ∧ W = w') := fun W => pPart W n h2 hn
      rw [hPl]
      have hQd : Q.length ≤ d := by omega
      have hmb : m ≤ 1000000 := by omega
      clear hm hQ hPQ hQl hru hu hp hpc hd
      by_cases hik : i < Mk.part n
      · have HE := Lib.hid (Mk.climb_left Sh.sum x i n Q u h2 hik)
        rw [← HPE.out] at HE
        obtain ⟨q, hq⟩ : ∃ q, q = Mk.part n := ⟨_, rfl⟩
        rw [← hq] at hq1 hq2 HP HPQ HE hik
        clear hPl HPE hq
        go_enter Tryd.func33, Tryd.ntmps33
        go_wp2_with fail
        go_upto_region 5 with (fail)
        refine Rc.wp_region (by kernel_rfl) (fun opn => List.getD [Rc.val (.int .i64 ((n : Nat) : Int)), Rc.val (.int .i64 ((q : Nat) : Int)), Rc.val (.slice (some ⟨b, off, none⟩) (m + 1) d), Rc.val (.slice (some ⟨b, off, none⟩) (m + 1) d), Rc.val (.int .i64 ((m + 1 : Nat) : Int)), Rc.val (.int .i64 ((m : Nat) : Int)), Rc.val (.slice (some ⟨b, off, none⟩) Q.length d), Rc.val (.slice (some ⟨b, off, none⟩) (m + 1) d), Rc.val (.slice (some ⟨b, off, none⟩) (m + 1) d), Rc.val (.int .i64 ((m + 1 : Nat) : Int)), Rc.val (.int .i64 ((m : Nat) : Int)), Rc.val (.pointer (some ⟨b, off + m, none⟩)), Rc.val (.slice A2 u.length c2), Rc.val (.int .i64 ((q : Nat) : Int)), Rc.val (.slice (some ⟨b, off, none⟩) Q.length d), Rc.val (.slice A2 u.length c2)] opn Rc.any) 0 [] [[], [(0, 27)], [], [], [(3, 30)], [(4, 31)], [(2, 29), (5, 32)], [], [], [(8, 35)], [(9, 36)], [(7, 34), (10, 37)], [(11, 38)], [(1, 28)], [(6, 33)], [(12, 39)]] [[], [0], [], [], [3], [3, 4], [2, 3, 4, 5], [], [], [8], [8, 9], [7, 8, 9, 10], [7, 8, 9, 10, 11], [0, 1], [0, 1, 2, 3, 4, 5, 6, 13], [0, 1, 2, 3, 4, 5, 6, 7, 8, 9, 10, 11, 12, 13, 14]] [[], [0], [], [], [3], [4], [2, 5], [], [], [8], [9], [7, 10], [11], [1], [6], [12]] [] (by kernel_rfl) (by rfl) (by kernel_rfl) (fun _ => False) (fun _ _ => False) Rc.Inv.none ?_ ?_
        · intro fr ha
          have hz : fr.tmps.size = 71 := by rw [ha]; rfl
          have y2 : fr.eval (.tmp 2) = .int .i64 ((n : Nat) : Int) := by rw [ha]; rfl
          have y3 : fr.eval (.tmp 3) = .slice (some ⟨b, off, none⟩) (m + 1) d := by rw [ha]; rfl
          clear ha
          refine .cons ?_ (.cons ?_ (.cons ?_ (.cons ?_ (.cons ?_ (.cons ?_ (.cons ?_ (.cons ?_ (.cons ?_ (.cons ?_ (.cons ?_ (.cons ?_ (.cons ?_ (.cons ?_ (.cons ?_ (.cons ?_ (.nil))))))))))))))))
          · intro V S w2 HM HU HE
            have lw : Below w.heap.size w w2 := Rc.Mod.below HM (fun _ h => h.elim)
            have tb2 : (Rg.putUse V [] fr).eval (.tmp 2) = .int .i64 ((n : Nat) : Int) := (Rg.use_eval V fr 2 [] (by simp only [hz]; decide)).trans y2
            show Rg.Does1 _ _ V (Rg.putUse V [] fr) w2 _
            exact Ob.rc_mv (.int .i64 ((n : Nat) : Int)) (by simp only [execOp, tb2]; go_simp) rfl rfl True.intro
          · intro V S w2 HM HU HE
            have lw : Below w.heap.size w w2 := Rc.Mod.below HM (fun _ h => h.elim)
            have h0 : V 0 = .int .i64 ((n : Nat) : Int) := HU.holds 0 (by decide)
            have tb27 : (Rg.putUse V [(0, 27)] fr).eval (.tmp 27) = .int .i64 ((n : Nat) : Int) := (Rg.use_eval V fr 27 [(0, 27)] (by simp only [hz]; decide)).trans h0
            show Rg.Does1 _ _ V (Rg.putUse V [(0, 27)] fr) w2 _
            exact Ob.step_tell (.int .i64 ((q : Nat) : Int)) #[.int .i64 ((n : Nat) : Int)] (fun args w => Rg.call_enter Tryd.func28 (by kernel_rfl) (by kernel_rfl) args w) rfl (by simp only [List.map_toArray, List.map_cons, List.map_nil, tb27]) rfl (fun x => Rg.alias_none rfl V x) True.intro ((HPQ.out w2).mono fun e w' ⟨h3, h4⟩ => ⟨h3, h4 ▸ Below.refl _ _⟩)
          · intro V S w2 HM HU HE
            have lw : Below w.heap.size w w2 := Rc.Mod.below HM (fun _ h => h.elim)
            have tb3 : (Rg.putUse V [] fr).eval (.tmp 3) = .slice (some ⟨b, off, none⟩) (m + 1) d := (Rg.use_eval V fr 3 [] (by simp only [hz]; decide)).trans y3
            show Rg.Does1 _ _ V (Rg.putUse V [] fr) w2 _
            exact Ob.rc_mv (.slice (some ⟨b, off, none⟩) (m + 1) d) (by simp only [execOp, tb3]; go_simp) rfl rfl True.intro
          · intro V S w2 HM HU HE
            have lw : Below w.heap.size w w2 := Rc.Mod.below HM (fun _ h => h.elim)
            have tb3 : (Rg.putUse V [] fr).eval (.tmp 3) = .slice (some ⟨b, off, none⟩) (m + 1) d := (Rg.use_eval V fr 3 [] (by simp only [hz]; decide)).trans y3
            show Rg.Does1 _ _ V (Rg.putUse V [] fr) w2 _
            exact Ob.rc_mv (.slice (some ⟨b, off, none⟩) (m + 1) d) (by simp only [execOp, tb3]; go_simp) rfl rfl True.intro
          · intro V S w2 HM HU HE
            have lw : Below w.heap.size w w2 := Rc.Mod.below HM (fun _ h => h.elim)
            have h3 : V 3 = .slice (some ⟨b, off, none⟩) (m + 1) d := HU.holds 3 (by decide)
            have tb30 : (Rg.putUse V [(3, 30)] fr).eval (.tmp 30) = .slice (some ⟨b, off, none⟩) (m + 1) d := (Rg.use_eval V fr 30 [(3, 30)] (by simp only [hz]; decide)).trans h3
            show Rg.Does1 _ _ V (Rg.putUse V [(3, 30)] fr) w2 _
            exact Ob.rc_mv (.int .i64 ((m + 1 : Nat) : Int)) (by simp only [execOp, resolve, List.map_toArray, List.map_cons, List.map_nil, tb30]; go_simp) rfl rfl True.intro
          · intro V S w2 HM HU HE
            have lw : Below w.heap.size w w2 := Rc.Mod.below HM (fun _ h => h.elim)
            have h4 : V 4 = .int .i64 ((m + 1 : Nat) : Int) := HU.holds 4 (by decide)
            have tb31 : (Rg.putUse V [(4, 31)] fr).eval (.tmp 31) = .int .i64 ((m + 1 : Nat) : Int) := (Rg.use_eval V fr 31 [(4, 31)] (by simp only [hz]; decide)).trans h4
            show Rg.Does1 _ _ V (Rg.putUse V [(4, 31)] fr) w2 _
            exact Ob.rc_mv (.int .i64 ((m : Nat) : Int)) (by simp only [execOp, tb31]; go_simp; rw [IntWalk.i64_in _ (by omega)]; try omega) rfl rfl True.intro
          · intro V S w2 HM HU HE
            have lw : Below w.heap.size w w2 := Rc.Mod.below HM (fun _ h => h.elim)
            have h2 : V 2 = .slice (some ⟨b, off, none⟩) (m + 1) d := HU.holds 2 (by decide)
            have tb29 : (Rg.putUse V [(2, 29), (5, 32)] fr).eval (.tmp 29) = .slice (some ⟨b, off, none⟩) (m + 1) d := (Rg.use_eval V fr 29 [(2, 29), (5, 32)] (by simp only [hz]; decide)).trans h2
            have h5 : V 5 = .int .i64 ((m : Nat) : Int) := HU.holds 5 (by decide)
            have tb32 : (Rg.putUse V [(2, 29), (5, 32)] fr).eval (.tmp 32) = .int .i64 ((m : Nat) : Int) := (Rg.use_eval V fr 32 [(2, 29), (5, 32)] (by simp only [hz]; decide)).trans h5
            show Rg.Does1 _ _ V (Rg.putUse V [(2, 29), (5, 32)] fr) w2 _
            exact Ob.rc_slh rfl tb29 tb32 (S1 w2) rfl rfl True.intro
          · intro V S w2 HM HU HE
            have lw : Below w.heap.size w w2 := Rc.Mod.below HM (fun _ h => h.elim)
            have tb3 : (Rg.putUse V [] fr).eval (.tmp 3) = .slice (some ⟨b, off, none⟩) (m + 1) d := (Rg.use_eval V fr 3 [] (by simp only [hz]; decide)).trans y3
            show Rg.Does1 _ _ V (Rg.putUse V [] fr) w2 _
            exact Ob.rc_mv (.slice (some ⟨b, off, none⟩) (m + 1) d) (by simp only [execOp, tb3]; go_simp) rfl rfl True.intro
          · intro V S w2 HM HU HE
            have lw : Below w.heap.size w w2 := Rc.Mod.below HM (fun _ h => h.elim)
            have tb3 : (Rg.putUse V [] fr).eval (.tmp 3) = .slice (some ⟨b, off, none⟩) (m + 1) d := (Rg.use_eval V fr 3 [] (by simp only [hz]; decide)).trans y3
            show Rg.Does1 _ _ V (Rg.putUse V [] fr) w2 _
            exact Ob.rc_mv (.slice (some ⟨b, off, none⟩) (m + 1) d) (by simp only [execOp, tb3]; go_simp) rfl rfl True.intro
          · intro V S w2 HM HU HE
            have lw : Below w.heap.size w w2 := Rc.Mod.below HM (fun _ h => h.elim)
            have h8 : V 8 = .slice (some ⟨b, off, none⟩) (m + 1) d := HU.holds 8 (by decide)
            have tb35 : (Rg.putUse V [(8, 35)] fr).eval (.tmp 35) = .slice (some ⟨b, off, none⟩) (m + 1) d := (Rg.use_eval V fr 35 [(8, 35)] (by simp only [hz]; decide)).trans h8
            show Rg.Does1 _ _ V (Rg.putUse V [(8, 35)] fr) w2 _
            exact Ob.rc_mv (.int .i64 ((m + 1 : Nat) : Int)) (by simp only [execOp, resolve, List.map_toArray, List.map_cons, List.map_nil, tb35]; go_simp) rfl rfl True.intro
          · intro V S w2 HM HU HE
            have lw : Below w.heap.size w w2 := Rc.Mod.below HM (fun _ h => h.elim)
            have h9 : V 9 = .int .i64 ((m + 1 : Nat) : Int) := HU.holds 9 (by decide)
            have tb36 : (Rg.putUse V [(9, 36)] fr).eval (.tmp 36) = .int .i64 ((m + 1 : Nat) : Int) := (Rg.use_eval V fr 36 [(9, 36)] (by simp only [hz]; decide)).trans h9
            show Rg.Does1 _ _ V (Rg.putUse V [(9, 36)] fr) w2 _
            exact Ob.rc_mv (.int .i64 ((m : Nat) : Int)) (by simp only [execOp, tb36]; go_simp; rw [IntWalk.i64_in _ (by omega)]; try omega) rfl rfl True.intro
          · intro V S w2 HM HU HE
            have lw : Below w.heap.size w w2 := Rc.Mod.below HM (fun _ h => h.elim)
            have h7 : V 7 = .slice (some ⟨b, off, none⟩) (m + 1) d := HU.holds 7 (by decide)
            have tb34 : (Rg.putUse V [(7, 34), (10, 37)] fr).eval (.tmp 34) = .slice (some ⟨b, off, none⟩) (m + 1) d := (Rg.use_eval V fr 34 [(7, 34), (10, 37)] (by simp only [hz]; decide)).trans h7
            have h10 : V 10 = .int .i64 ((m : Nat) : Int) := HU.holds 10 (by decide)
            have tb37 : (Rg.putUse V [(7, 34), (10, 37)] fr).eval (.tmp 37) = .int .i64 ((m : Nat) : Int) := (Rg.use_eval V fr 37 [(7, 34), (10, 37)] (by simp only [hz]; decide)).trans h10
            show Rg.Does1 _ _ V (Rg.putUse V [(7, 34), (10, 37)] fr) w2 _
            exact Ob.rc_mv (.pointer (some ⟨b, off + m, none⟩)) (by simp only [execOp, tb34, tb37]; go_simp; try (intro h; exfalso; omega)) rfl rfl True.intro
          · intro V S w2 HM HU HE
            have lw : Below w.heap.size w w2 := Rc.Mod.below HM (fun _ h => h.elim)
            have h11 : V 11 = .pointer (some ⟨b, off + m, none⟩) := HU.holds 11 (by decide)
            have tb38 : (Rg.putUse V [(11, 38)] fr).eval (.tmp 38) = .pointer (some ⟨b, off + m, none⟩) := (Rg.use_eval V fr 38 [(11, 38)] (by simp only [hz]; decide)).trans h11
            show Rg.Does1 _ _ V (Rg.putUse V [(11, 38)] fr) w2 _
            have cu := (lw.cell (p := ⟨b, off + m, none⟩) HBL.out).trans hcell
            exact Ob.rc_mv (.slice A2 u.length c2) (by simp only [execOp, tb38]; go_simp) rfl rfl True.intro
          · intro V S w2 HM HU HE
            have lw : Below w.heap.size w w2 := Rc.Mod.below HM (fun _ h => h.elim)
            have h1 : V 1 = .int .i64 ((q : Nat) : Int) := HU.holds 1 (by decide)
            have tb28 : (Rg.putUse V [(1, 28)] fr).eval (.tmp 28) = .int .i64 ((q : Nat) : Int) := (Rg.use_eval V fr 28 [(1, 28)] (by simp only [hz]; decide)).trans h1
            show Rg.Does1 _ _ V (Rg.putUse V [(1, 28)] fr) w2 _
            exact Ob.rc_mv (.int .i64 ((q : Nat) : Int)) (by simp only [execOp, tb28]; go_simp) rfl rfl True.intro
          · intro V S w2 HM HU HE
            have lw : Below w.heap.size w w2 := Rc.Mod.below HM (fun _ h => h.elim)
            have h6 : V 6 = .slice (some ⟨b, off, none⟩) Q.length d := HU.holds 6 (by decide)
            have tb33 : (Rg.putUse V [(6, 33)] fr).eval (.tmp 33) = .slice (some ⟨b, off, none⟩) Q.length d := (Rg.use_eval V fr 33 [(6, 33)] (by simp only [hz]; decide)).trans h6
            show Rg.Does1 _ _ V (Rg.putUse V [(6, 33)] fr) w2 _
            exact Ob.rc_mv (.slice (some ⟨b, off, none⟩) Q.length d) (by simp only [execOp, tb33]; go_simp) rfl rfl True.intro
          · intro V S w2 HM HU HE
            have lw : Below w.heap.size w w2 := Rc.Mod.below HM (fun _ h => h.elim)
            have h12 : V 12 = .slice A2 u.length c2 := HU.holds 12 (by decide)
            have tb39 : (Rg.putUse V [(12, 39)] fr).eval (.tmp 39) = .slice A2 u.length c2 := (Rg.use_eval V fr 39 [(12, 39)] (by simp only [hz]; decide)).trans h12
            show Rg.Does1 _ _ V (Rg.putUse V [(12, 39)] fr) w2 _
            exact Ob.rc_mv (.slice A2 u.length c2) (by simp only [execOp, tb39]; go_simp) rfl rfl True.intro
        · intro V S w2 HI
          have HL2 : Hid (Below w.heap.size w w2) := Rc.Mod.below HI.mod.undrew (fun _ h => h.elim)
          have hw13 : V 13 = .int .i64 ((q : Nat) : Int) := HI.get 13 (by decide) (by rfl)
          have hw14 : V 14 = .slice (some ⟨b, off, none⟩) Q.length d := HI.get 14 (by decide) (by rfl)
          have hw15 : V 15 = .slice A2 u.length c2 := HI.get 15 (by decide) (by rfl)
          simp only [Rg.putList, Act.put, List.setIfInBounds_toArray, List.set_cons_zero, List.set_cons_succ, Nat.zero_add, Nat.reduceAdd]
          rw [hw13, hw14, hw15]
          clear HI hw13 hw14 hw15
          go_wp2_with fail
          refine (IH.out q hq1 w2 x A c i q Q (some ⟨b, off, none⟩) d rfl hik (by omega) (HR.out.below HL2.out) hc hx (RQ.out.below HL2.out) hQd MQ.out (HK.out.later HL2.out)).mono ?_
          rintro e w3 ⟨X, AX, cX, ok, rfl, hXc, hXl, hXr, hXo, hb⟩
          have HX := Lib.hid hXr
          have HO := Lib.hid hXo
          have HB : Hid (Below w.heap.size w w3) := HL2.out.trans (hb.mono HL2.out.size)
          clear hXr hXo hb
          go_wp2_with fail
          refine (pPair w3 X u AX A2 cX c2 HX.out hXc (HRU.out.below HB.out) hc2 (HK.out.later HB.out) hXl hul).mono ?_
          rintro e w4 ⟨v, rfl, ⟨Y, cY, rfl, hYc, hYr, _⟩, hb⟩
          have HY := Lib.hid hYr
          have HB2 : Hid (Below w.heap.size w w4) := HB.out.trans (hb.mono HB.out.size)
          clear hYr hb
          go_wp2_with fail
          go_ret2
          exact ⟨_, Y, cY, ok, rfl, hYc, by rw [pair_length]; omega, HY.out, by rw [HE.out, HO.out]; cases ok <;> rfl, HB2.out⟩
      · have HE := Lib.hid (Mk.climb_right Sh.sum x i n Q u h2 hik)
        rw [← HPE.out] at HE
        obtain ⟨q, hq⟩ : ∃ q, q = Mk.part n := ⟨_, rfl⟩
        rw [← hq] at hq1 hq2 HP HPQ HE hik
        clear hPl HPE hq
        obtain ⟨j, rfl⟩ : ∃ j, i = q + j := ⟨i - q, by omega⟩
        rw [Nat.add_sub_cancel_left] at HE
        obtain ⟨r, rfl⟩ : ∃ r, n = q + r := ⟨n - q, by omega⟩
        rw [Nat.add_sub_cancel_left] at HE
        go_enter Tryd.func33, Tryd.ntmps33
        go_wp2_with fail
        go_upto_region 5 with (fail)
        refine Rc.wp_region (by kernel_rfl) (fun opn => List.getD [Rc.val (.int .i64 ((q + r : Nat) : Int)), Rc.val (.int .i64 ((q : Nat) : Int)), Rc.val (.slice (some ⟨b, off, none⟩) (m + 1) d), Rc.val (.slice (some ⟨b, off, none⟩) (m + 1) d), Rc.val (.int .i64 ((m + 1 : Nat) : Int)), Rc.val (.int .i64 ((m : Nat) : Int)), Rc.val (.slice (some ⟨b, off, none⟩) Q.length d), Rc.val (.slice (some ⟨b, off, none⟩) (m + 1) d), Rc.val (.slice (some ⟨b, off, none⟩) (m + 1) d), Rc.val (.int .i64 ((m + 1 : Nat) : Int)), Rc.val (.int .i64 ((m : Nat) : Int)), Rc.val (.pointer (some ⟨b, off + m, none⟩)), Rc.val (.slice A2 u.length c2), Rc.val (.int .i64 ((q : Nat) : Int)), Rc.val (.slice (some ⟨b, off, none⟩) Q.length d), Rc.val (.slice A2 u.length c2)] opn Rc.any) 0 [] [[], [(0, 27)], [], [], [(3, 30)], [(4, 31)], [(2, 29), (5, 32)], [], [], [(8, 35)], [(9, 36)], [(7, 34), (10, 37)], [(11, 38)], [(1, 28)], [(6, 33)], [(12, 39)]] [[], [0], [], [], [3], [3, 4], [2, 3, 4, 5], [], [], [8], [8, 9], [7, 8, 9, 10], [7, 8, 9, 10, 11], [0, 1], [0, 1, 2, 3, 4, 5, 6, 13], [0, 1, 2, 3, 4, 5, 6, 7, 8, 9, 10, 11, 12, 13, 14]] [[], [0], [], [], [3], [4], [2, 5], [], [], [8], [9], [7, 10], [11], [1], [6], [12]] [] (by kernel_rfl) (by rfl) (by kernel_rfl) (fun _ => False) (fun _ _ => False) Rc.Inv.none ?_ ?_
        · intro fr ha
          have hz : fr.tmps.size = 71 := by rw [ha]; rfl
          have y2 : fr.eval (.tmp 2) = .int .i64 ((q + r : Nat) : Int) := by rw [ha]; rfl
          have y3 : fr.eval (.tmp 3) = .slice (some ⟨b, off, none⟩) (m + 1) d := by rw [ha]; rfl
          clear ha
          refine .cons ?_ (.cons ?_ (.cons ?_ (.cons ?_ (.cons ?_ (.cons ?_ (.cons ?_ (.cons ?_ (.cons ?_ (.cons ?_ (.cons ?_ (.cons ?_ (.cons ?_ (.cons ?_ (.cons ?_ (.cons ?_ (.nil))))))))))))))))
          · intro V S w2 HM HU HE
            have lw : Below w.heap.size w w2 := Rc.Mod.below HM (fun _ h => h.elim)
            have tb2 : (Rg.putUse V [] fr).eval (.tmp 2) = .int .i64 ((q + r : Nat) : Int) := (Rg.use_eval V fr 2 [] (by simp only [hz]; decide)).trans y2
            show Rg.Does1 _ _ V (Rg.putUse V [] fr) w2 _
            exact Ob.rc_mv (.int .i64 ((q + r : Nat) : Int)) (by simp only [execOp, tb2]; go_simp) rfl rfl True.intro
          · intro V S w2 HM HU HE
            have lw : Below w.heap.size w w2 := Rc.Mod.below HM (fun _ h => h.elim)
            have h0 : V 0 = .int .i64 ((q + r : Nat) : Int) := HU.holds 0 (by decide)
            have tb27 : (Rg.putUse V [(0, 27)] fr).eval (.tmp 27) = .int .i64 ((q + r : Nat) : Int) := (Rg.use_eval V fr 27 [(0, 27)] (by simp only [hz]; decide)).trans h0
            show Rg.Does1 _ _ V (Rg.putUse V [(0, 27)] fr) w2 _
            exact Ob.step_tell (.int .i64 ((q : Nat) : Int)) #[.int .i64 ((q + r : Nat) : Int)] (fun args w => Rg.call_enter Tryd.func28 (by kernel_rfl) (by kernel_rfl) args w) rfl (by simp only [List.map_toArray, List.map_cons, List.map_nil, tb27]) rfl (fun x => Rg.alias_none rfl V x) True.intro ((HPQ.out w2).mono fun e w' ⟨h3, h4⟩ => ⟨h3, h4 ▸ Below.refl _ _⟩)
          · intro V S w2 HM HU HE
            have lw : Below w.heap.size w w2 := Rc.Mod.below HM (fun _ h => h.elim)
            have tb3 : (Rg.putUse V [] fr).eval (.tmp 3) = .slice (some ⟨b, off, none⟩) (m + 1) d := (Rg.use_eval V fr 3 [] (by simp only [hz]; decide)).trans y3
            show Rg.Does1 _ _ V (Rg.putUse V [] fr) w2 _
            exact Ob.rc_mv (.slice (some ⟨b, off, none⟩) (m + 1) d) (by simp only [execOp, tb3]; go_simp) rfl rfl True.intro
          · intro V S w2 HM HU HE
            have lw : Below w.heap.size w w2 := Rc.Mod.below HM (fun _ h => h.elim)
            have tb3 : (Rg.putUse V [] fr).eval (.tmp 3) = .slice (some ⟨b, off, none⟩) (m + 1) d := (Rg.use_eval V fr 3 [] (by simp only [hz]; decide)).trans y3
            show Rg.Does1 _ _ V (Rg.putUse V [] fr) w2 _
            exact Ob.rc_mv (.slice (some ⟨b, off, none⟩) (m + 1) d) (by simp only [execOp, tb3]; go_simp) rfl rfl True.intro
          · intro V S w2 HM HU HE
            have lw : Below w.heap.size w w2 := Rc.Mod.below HM (fun _ h => h.elim)
            have h3 : V 3 = .slice (some ⟨b, off, none⟩) (m + 1) d := HU.holds 3 (by decide)
            have tb30 : (Rg.putUse V [(3, 30)] fr).eval (.tmp 30) = .slice (some ⟨b, off, none⟩) (m + 1) d := (Rg.use_eval V fr 30 [(3, 30)] (by simp only [hz]; decide)).trans h3
            show Rg.Does1 _ _ V (Rg.putUse V [(3, 30)] fr) w2 _
            exact Ob.rc_mv (.int .i64 ((m + 1 : Nat) : Int)) (by simp only [execOp, resolve, List.map_toArray, List.map_cons, List.map_nil, tb30]; go_simp) rfl rfl True.intro
          · intro V S w2 HM HU HE
            have lw : Below w.heap.size w w2 := Rc.Mod.below HM (fun _ h => h.elim)
            have h4 : V 4 = .int .i64 ((m + 1 : Nat) : Int) := HU.holds 4 (by decide)
            have tb31 : (Rg.putUse V [(4, 31)] fr).eval (.tmp 31) = .int .i64 ((m + 1 : Nat) : Int) := (Rg.use_eval V fr 31 [(4, 31)] (by simp only [hz]; decide)).trans h4
            show Rg.Does1 _ _ V (Rg.putUse V [(4, 31)] fr) w2 _
            exact Ob.rc_mv (.int .i64 ((m : Nat) : Int)) (by simp only [execOp, tb31]; go_simp; rw [IntWalk.i64_in _ (by omega)]; try omega) rfl rfl True.intro
          · intro V S w2 HM HU HE
            have lw : Below w.heap.size w w2 := Rc.Mod.below HM (fun _ h => h.elim)
            have h2 : V 2 = .slice (some ⟨b, off, none⟩) (m + 1) d := HU.holds 2 (by decide)
            have tb29 : (Rg.putUse V [(2, 29), (5, 32)] fr).eval (.tmp 29) = .slice (some ⟨b, off, none⟩) (m + 1) d := (Rg.use_eval V fr 29 [(2, 29), (5, 32)] (by simp only [hz]; decide)).trans h2
            have h5 : V 5 = .int .i64 ((m : Nat) : Int) := HU.holds 5 (by decide)
            have tb32 : (Rg.putUse V [(2, 29), (5, 32)] fr).eval (.tmp 32) = .int .i64 ((m : Nat) : Int) := (Rg.use_eval V fr 32 [(2, 29), (5, 32)] (by simp only [hz]; decide)).trans h5
            show Rg.Does1 _ _ V (Rg.putUse V [(2, 29), (5, 32)] fr) w2 _
            exact Ob.rc_slh rfl tb29 tb32 (S1 w2) rfl rfl True.intro
          · intro V S w2 HM HU HE
            have lw : Below w.heap.size w w2 := Rc.Mod.below HM (fun _ h => h.elim)
            have tb3 : (Rg.putUse V [] fr).eval (.tmp 3) = .slice (some ⟨b, off, none⟩) (m + 1) d := (Rg.use_eval V fr 3 [] (by simp only [hz]; decide)).trans y3
            show Rg.Does1 _ _ V (Rg.putUse V [] fr) w2 _
            exact Ob.rc_mv (.slice (some ⟨b, off, none⟩) (m + 1) d) (by simp only [execOp, tb3]; go_simp) rfl rfl True.intro
          · intro V S w2 HM HU HE
            have lw : Below w.heap.size w w2 := Rc.Mod.below HM (fun _ h => h.elim)
            have tb3 : (Rg.putUse V [] fr).eval (.tmp 3) = .slice (some ⟨b, off, none⟩) (m + 1) d := (Rg.use_eval V fr 3 [] (by simp only [hz]; decide)).trans y3
            show Rg.Does1 _ _ V (Rg.putUse V [] fr) w2 _
            exact Ob.rc_mv (.slice (some ⟨b, off, none⟩) (m + 1) d) (by simp only [execOp, tb3]; go_simp) rfl rfl True.intro
          · intro V S w2 HM HU HE
            have lw : Below w.heap.size w w2 := Rc.Mod.below HM (fun _ h => h.elim)
            have h8 : V 8 = .slice (some ⟨b, off, none⟩) (m + 1) d := HU.holds 8 (by decide)
            have tb35 : (Rg.putUse V [(8, 35)] fr).eval (.tmp 35) = .slice (some ⟨b, off, none⟩) (m + 1) d := (Rg.use_eval V fr 35 [(8, 35)] (by simp only [hz]; decide)).trans h8
            show Rg.Does1 _ _ V (Rg.putUse V [(8, 35)] fr) w2 _
            exact Ob.rc_mv (.int .i64 ((m + 1 : Nat) : Int)) (by simp only [execOp, resolve, List.map_toArray, List.map_cons, List.map_nil, tb35]; go_simp) rfl rfl True.intro
          · intro V S w2 HM HU HE
            have lw : Below w.heap.size w w2 := Rc.Mod.below HM (fun _ h => h.elim)
            have h9 : V 9 = .int .i64 ((m + 1 : Nat) : Int) := HU.holds 9 (by decide)
            have tb36 : (Rg.putUse V [(9, 36)] fr).eval (.tmp 36) = .int .i64 ((m + 1 : Nat) : Int) := (Rg.use_eval V fr 36 [(9, 36)] (by simp only [hz]; decide)).trans h9
            show Rg.Does1 _ _ V (Rg.putUse V [(9, 36)] fr) w2 _
            exact Ob.rc_mv (.int .i64 ((m : Nat) : Int)) (by simp only [execOp, tb36]; go_simp; rw [IntWalk.i64_in _ (by omega)]; try omega) rfl rfl True.intro
          · intro V S w2 HM HU HE
            have lw : Below w.heap.size w w2 := Rc.Mod.below HM (fun _ h => h.elim)
            have h7 : V 7 = .slice (some ⟨b, off, none⟩) (m + 1) d := HU.holds 7 (by decide)
            have tb34 : (Rg.putUse V [(7, 34), (10, 37)] fr).eval (.tmp 34) = .slice (some ⟨b, off, none⟩) (m + 1) d := (Rg.use_eval V fr 34 [(7, 34), (10, 37)] (by simp only [hz]; decide)).trans h7
            have h10 : V 10 = .int .i64 ((m : Nat) : Int) := HU.holds 10 (by decide)
            have tb37 : (Rg.putUse V [(7, 34), (10, 37)] fr).eval (.tmp 37) = .int .i64 ((m : Nat) : Int) := (Rg.use_eval V fr 37 [(7, 34), (10, 37)] (by simp only [hz]; decide)).trans h10
            show Rg.Does1 _ _ V (Rg.putUse V [(7, 34), (10, 37)] fr) w2 _
            exact Ob.rc_mv (.pointer (some ⟨b, off + m, none⟩)) (by simp only [execOp, tb34, tb37]; go_simp; try (intro h; exfalso; omega)) rfl rfl True.intro
          · intro V S w2 HM HU HE
            have lw : Below w.heap.size w w2 := Rc.Mod.below HM (fun _ h => h.elim)
            have h11 : V 11 = .pointer (some ⟨b, off + m, none⟩) := HU.holds 11 (by decide)
            have tb38 : (Rg.putUse V [(11, 38)] fr).eval (.tmp 38) = .pointer (some ⟨b, off + m, none⟩) := (Rg.use_eval V fr 38 [(11, 38)] (by simp only [hz]; decide)).trans h11
            show Rg.Does1 _ _ V (Rg.putUse V [(11, 38)] fr) w2 _
            have cu := (lw.cell (p := ⟨b, off + m, none⟩) HBL.out).trans hcell
            exact Ob.rc_mv (.slice A2 u.length c2) (by simp only [execOp, tb38]; go_simp) rfl rfl True.intro
          · intro V S w2 HM HU HE
            have lw : Below w.heap.size w w2 := Rc.Mod.below HM (fun _ h => h.elim)
            have h1 : V 1 = .int .i64 ((q : Nat) : Int) := HU.holds 1 (by decide)
            have tb28 : (Rg.putUse V [(1, 28)] fr).eval (.tmp 28) = .int .i64 ((q : Nat) : Int) := (Rg.use_eval V fr 28 [(1, 28)] (by simp only [hz]; decide)).trans h1
            show Rg.Does1 _ _ V (Rg.putUse V [(1, 28)] fr) w2 _
            exact Ob.rc_mv (.int .i64 ((q : Nat) : Int)) (by simp only [execOp, tb28]; go_simp) rfl rfl True.intro
          · intro V S w2 HM HU HE
            have lw : Below w.heap.size w w2 := Rc.Mod.below HM (fun _ h => h.elim)
            have h6 : V 6 = .slice (some ⟨b, off, none⟩) Q.length d := HU.holds 6 (by decide)
            have tb33 : (Rg.putUse V [(6, 33)] fr).eval (.tmp 33) = .slice (some ⟨b, off, none⟩) Q.length d := (Rg.use_eval V fr 33 [(6, 33)] (by simp only [hz]; decide)).trans h6
            show Rg.Does1 _ _ V (Rg.putUse V [(6, 33)] fr) w2 _
            exact Ob.rc_mv (.slice (some ⟨b, off, none⟩) Q.length d) (by simp only [execOp, tb33]; go_simp) rfl rfl True.intro
          · intro V S w2 HM HU HE
            have lw : Below w.heap.size w w2 := Rc.Mod.below HM (fun _ h => h.elim)
            have h12 : V 12 = .slice A2 u.length c2 := HU.holds 12 (by decide)
            have tb39 : (Rg.putUse V [(12, 39)] fr).eval (.tmp 39) = .slice A2 u.length c2 := (Rg.use_eval V fr 39 [(12, 39)] (by simp only [hz]; decide)).trans h12
            show Rg.Does1 _ _ V (Rg.putUse V [(12, 39)] fr) w2 _
            exact Ob.rc_mv (.slice A2 u.length c2) (by simp only [execOp, tb39]; go_simp) rfl rfl True.intro
        · intro V S w2 HI
          have HL2 : Hid (Below w.heap.size w w2) := Rc.Mod.below HI.mod.undrew (fun _ h => h.elim)
          have hw13 : V 13 = .int .i64 ((q : Nat) : Int) := HI.get 13 (by decide) (by rfl)
          have hw14 : V 14 = .slice (some ⟨b, off, none⟩) Q.length d := HI.get 14 (by decide) (by rfl)
          have hw15 : V 15 = .slice A2 u.length c2 := HI.get 15 (by decide) (by rfl)
          simp only [Rg.putList, Act.put, List.setIfInBounds_toArray, List.set_cons_zero, List.set_cons_succ, Nat.zero_add, Nat.reduceAdd]
          rw [hw13, hw14, hw15]
          clear HI hw13 hw14 hw15
          go_wp2_with fail
          rw [show ((q : Nat) : Int) + ((j : Nat) : Int) - ((q : Nat) : Int) = ((j : Nat) : Int) by omega, show ((q : Nat) : Int) + ((r : Nat) : Int) - ((q : Nat) : Int) = ((r : Nat) : Int) by omega]
          refine (IH.out r (by omega) w2 x A c j r Q (some ⟨b, off, none⟩) d rfl (by omega) (by omega) (HR.out.below HL2.out) hc hx (RQ.out.below HL2.out) hQd MQ.out (HK.out.later HL2.out)).mono ?_
          rintro e w3 ⟨X, AX, cX, ok, rfl, hXc, hXl, hXr, hXo, hb⟩
          have HX := Lib.hid hXr
          have HO := Lib.hid hXo
          have HB : Hid (Below w.heap.size w w3) := HL2.out.trans (hb.mono HL2.out.size)
          clear hXr hXo hb
          go_wp2_with fail
          refine (pPair w3 u X A2 AX c2 cX (HRU.out.below HB.out) hc2 HX.out hXc (HK.out.later HB.out) hul hXl).mono ?_
          rintro e w4 ⟨v, rfl, ⟨Y, cY, rfl, hYc, hYr, _⟩, hb⟩
          have HY := Lib.hid hYr
          have HB2 : Hid (Below w.heap.size w w4) := HB.out.trans (hb.mono HB.out.size)
          clear hYr hb
          go_wp2_with fail
          go_ret2
          exact ⟨_, Y, cY, ok, rfl, hYc, by rw [pair_length]; omega, HY.out, by rw [HE.out, HO.out]; cases ok <;> rfl, HB2.out⟩
end Go.Proofs.YtjeclmbableacaaDoor
