/-
  OWN WORK. The roots that a proof of growth comes to: the program's, by its contract.
-/
import Derived.Test.YtjeclmbableacaaDoorMkLen
namespace Go.Proofs.YtjeclmbableacaaDoor
open Go.RowKit Rc

set_option maxHeartbeats 8000000 in
set_option maxRecDepth 100000 in
theorem pBoth (N : Nat) : ∀ (w : World) (x : List UInt8) (A : Option Addr) (c m n : Nat) (P : List (List UInt8)) (B : Option Addr) (d : Nat) (whole : Bool), n = N → 1 ≤ m → m ≤ n → n ≤ 1000000 → Rd w A x → x.length ≤ c → x.length ≤ 1000000 → RdL w B P → P.length ≤ d → Small P → KP w → Calls Tryd.prog 38 #[.slice A x.length c, .int .i64 (m : Nat), .int .i64 (n : Nat), .bool whole, .slice B P.length d] w (BAns (Mk.both Sh.sum x m n P whole) w) := by
  induction N using Nat.strongRecOn with
  | _ N ih =>
  intro w x A c m n P B d whole hN h1 hm hn hr hc hx hr2 hd hs hk
  subst hN
  have IH := Lib.hid ih
  have HR : Hid (Rd w A x) := hr
  have HR2 : Hid (RdL w B P) := hr2
  have HS := Lib.hid hs
  have HK : Hid (KP w) := hk
  have hlen := HS.out.len
  clear ih hr hr2 hs hk
  by_cases hmn : m = n
  · have HE := Lib.hid (Mk.both_all Sh.sum x m n P whole hmn)
    subst hmn
    cases whole with
    | true =>
      by_cases hp : P.length = 0
      · have hp2 : Hid (P = []) := List.eq_nil_of_length_eq_zero hp
        rw [hp]
        clear hp hlen hd
        go_enter Tryd.func38, Tryd.ntmps38
        go_wp2_with fail
        go_ret3
        exact ⟨x, A, c, x, A, c, true, rfl, hc, hx, HR.out, hc, hx, HR.out, by rw [HE.out, if_pos hp2.out]; rfl, Below.refl _ _⟩
      · have hp2 : Hid (P ≠ []) := fun h => hp (by rw [h]; rfl)
        have hp3 : ((P.length : Int) == 0) = false := beq_eq_false_iff_ne.2 (by omega)
        go_enter Tryd.func38, Tryd.ntmps38
        go_wp2_with fail
        go_ret3
        exact ⟨x, A, c, x, A, c, false, rfl, hc, hx, HR.out, hc, hx, HR.out, by rw [HE.out, if_neg hp2.out]; rfl, Below.refl _ _⟩
    | false =>
      by_cases hp : P.length = 0
      · have hs1 : Hid (Mk.single P = none) := single_none (by omega)
        rw [hp]
        clear hp hlen hd
        go_enter Tryd.func38, Tryd.ntmps38
        go_wp2_with fail
        go_ret3
        exact ⟨[], none, 0, [], none, 0, false, rfl, Nat.le_refl _, by simp, Rd.nil _ _, Nat.le_refl _, by simp, Rd.nil _ _, by rw [HE.out]; exact hs1.out, Below.refl _ _⟩
      · skip
        obtain ⟨b, off, u, A2, c2, rfl, hu, hcell, hc2, hru⟩ := HR2.out.at_ (P.length - 1) (by omega)
        have S1 := fun W => rows_h W (some ⟨b, off, none⟩) P d (P.length - 1) (Nat.sub_le _ _) hd
        have hPQ := last_of hu
        have RQ : Hid (RdL w (some ⟨b, off, none⟩) (P.take (P.length - 1))) := HR2.out.take _
        have MQ := Lib.hid (HS.out.take (P.length - 1))
        have hul := HS.out.at_ hu
        have hQl : (P.take (P.length - 1)).length = P.length - 1 := by rw [List.length_take]; omega
        have HBL : Hid (b < w.heap.size) := World.block_lt_of_cell? w ⟨b, _, none⟩ hcell
        obtain ⟨Q, hQ⟩ : ∃ Q, Q = P.take (P.length - 1) := ⟨_, rfl⟩
        rw [← hQ] at S1 hPQ RQ MQ hQl
        obtain ⟨k, hk⟩ : ∃ k, k = P.length - 1 := ⟨_, rfl⟩
        have hPl : P.length = k + 1 := by omega
        rw [← hk] at hcell hQl
        rw [← hk, hPl] at S1
        have HPE := Lib.hid hPQ
        have HQL := Lib.hid hQl
        have HRU := Lib.hid hru
        rw [hPl]
        have hQd : Q.length ≤ d := by omega
        have hmb : k ≤ 1000000 := by omega
        clear hk hQ hPQ hQl hru hu hp hd
        by_cases hq : Q.length = 0
        · have hs1 : Hid (Mk.single P = some (u, u)) := by
            show _ = _
            rw [HPE.out, List.eq_nil_of_length_eq_zero hq]; rfl
          rw [hq] at S1
          clear hPl HPE
          go_enter Tryd.func38, Tryd.ntmps38
          go_wp2_with fail
          go_upto_region 5 with (fail)
          refine Rc.wp_region (by kernel_rfl) (fun opn => List.getD [Rc.val (.slice (some ⟨b, off, none⟩) (k + 1) d), Rc.val (.slice (some ⟨b, off, none⟩) (k + 1) d), Rc.val (.int .i64 ((k + 1 : Nat) : Int)), Rc.val (.int .i64 ((k : Nat) : Int)), Rc.val (.slice (some ⟨b, off, none⟩) 0 d), Rc.val (.slice (some ⟨b, off, none⟩) (k + 1) d), Rc.val (.slice (some ⟨b, off, none⟩) (k + 1) d), Rc.val (.int .i64 ((k + 1 : Nat) : Int)), Rc.val (.int .i64 ((k : Nat) : Int)), Rc.val (.pointer (some ⟨b, off + k, none⟩)), Rc.val (.slice A2 u.length c2), Rc.val (.slice (some ⟨b, off, none⟩) 0 d), Rc.val (.slice A2 u.length c2)] opn Rc.any) 0 [] [[], [], [(1, 31)], [(2, 32)], [(0, 30), (3, 33)], [], [], [(6, 36)], [(7, 37)], [(5, 35), (8, 38)], [(9, 39)], [(4, 34)], [(10, 40)]] [[], [], [1], [1, 2], [0, 1, 2, 3], [], [], [6], [6, 7], [5, 6, 7, 8], [5, 6, 7, 8, 9], [0, 1, 2, 3, 4], [0, 1, 2, 3, 4, 5, 6, 7, 8, 9, 10, 11]] [[], [], [1], [2], [0, 3], [], [], [6], [7], [5, 8], [9], [4], [10]] [] (by kernel_rfl) (by rfl) (by kernel_rfl) (fun _ => False) (fun _ _ => False) Rc.Inv.none ?_ ?_
          · intro fr ha
            have hz : fr.tmps.size = 89 := by rw [ha]; rfl
            have y4 : fr.eval (.tmp 4) = .slice (some ⟨b, off, none⟩) (k + 1) d := by rw [ha]; rfl
            clear ha
            refine .cons ?_ (.cons ?_ (.cons ?_ (.cons ?_ (.cons ?_ (.cons ?_ (.cons ?_ (.cons ?_ (.cons ?_ (.cons ?_ (.cons ?_ (.cons ?_ (.cons ?_ (.nil)))))))))))))
            · intro V S w2 HM HU HE
              have lw : Below w.heap.size w w2 := Rc.Mod.below HM (fun _ h => h.elim)
              have tb4 : (Rg.putUse V [] fr).eval (.tmp 4) = .slice (some ⟨b, off, none⟩) (k + 1) d := (Rg.use_eval V fr 4 [] (by simp only [hz]; decide)).trans y4
              show Rg.Does1 _ _ V (Rg.putUse V [] fr) w2 _
              exact Ob.rc_mv (.slice (some ⟨b, off, none⟩) (k + 1) d) (by simp only [execOp, tb4]; go_simp) rfl rfl True.intro
            · intro V S w2 HM HU HE
              have lw : Below w.heap.size w w2 := Rc.Mod.below HM (fun _ h => h.elim)
              have tb4 : (Rg.putUse V [] fr).eval (.tmp 4) = .slice (some ⟨b, off, none⟩) (k + 1) d := (Rg.use_eval V fr 4 [] (by simp only [hz]; decide)).trans y4
              show Rg.Does1 _ _ V (Rg.putUse V [] fr) w2 _
              exact Ob.rc_mv (.slice (some ⟨b, off, none⟩) (k + 1) d) (by simp only [execOp, tb4]; go_simp) rfl rfl True.intro
            · intro V S w2 HM HU HE
              have lw : Below w.heap.size w w2 := Rc.Mod.below HM (fun _ h => h.elim)
              have h1 : V 1 = .slice (some ⟨b, off, none⟩) (k + 1) d := HU.holds 1 (by decide)
              have tb31 : (Rg.putUse V [(1, 31)] fr).eval (.tmp 31) = .slice (some ⟨b, off, none⟩) (k + 1) d := (Rg.use_eval V fr 31 [(1, 31)] (by simp only [hz]; decide)).trans h1
              show Rg.Does1 _ _ V (Rg.putUse V [(1, 31)] fr) w2 _
              exact Ob.rc_mv (.int .i64 ((k + 1 : Nat) : Int)) (by simp only [execOp, resolve, List.map_toArray, List.map_cons, List.map_nil, tb31]; go_simp) rfl rfl True.intro
            · intro V S w2 HM HU HE
              have lw : Below w.heap.size w w2 := Rc.Mod.below HM (fun _ h => h.elim)
              have h2 : V 2 = .int .i64 ((k + 1 : Nat) : Int) := HU.holds 2 (by decide)
              have tb32 : (Rg.putUse V [(2, 32)] fr).eval (.tmp 32) = .int .i64 ((k + 1 : Nat) : Int) := (Rg.use_eval V fr 32 [(2, 32)] (by simp only [hz]; decide)).trans h2
              show Rg.Does1 _ _ V (Rg.putUse V [(2, 32)] fr) w2 _
              exact Ob.rc_mv (.int .i64 ((k : Nat) : Int)) (by simp only [execOp, tb32]; go_simp; rw [IntWalk.i64_in _ (by omega)]; try omega) rfl rfl True.intro
            · intro V S w2 HM HU HE
              have lw : Below w.heap.size w w2 := Rc.Mod.below HM (fun _ h => h.elim)
              have h0 : V 0 = .slice (some ⟨b, off, none⟩) (k + 1) d := HU.holds 0 (by decide)
              have tb30 : (Rg.putUse V [(0, 30), (3, 33)] fr).eval (.tmp 30) = .slice (some ⟨b, off, none⟩) (k + 1) d := (Rg.use_eval V fr 30 [(0, 30), (3, 33)] (by simp only [hz]; decide)).trans h0
              have h3 : V 3 = .int .i64 ((k : Nat) : Int) := HU.holds 3 (by decide)
              have tb33 : (Rg.putUse V [(0, 30), (3, 33)] fr).eval (.tmp 33) = .int .i64 ((k : Nat) : Int) := (Rg.use_eval V fr 33 [(0, 30), (3, 33)] (by simp only [hz]; decide)).trans h3
              show Rg.Does1 _ _ V (Rg.putUse V [(0, 30), (3, 33)] fr) w2 _
              exact Ob.rc_slh rfl tb30 tb33 (S1 w2) rfl rfl True.intro
            · intro V S w2 HM HU HE
              have lw : Below w.heap.size w w2 := Rc.Mod.below HM (fun _ h => h.elim)
              have tb4 : (Rg.putUse V [] fr).eval (.tmp 4) = .slice (some ⟨b, off, none⟩) (k + 1) d := (Rg.use_eval V fr 4 [] (by simp only [hz]; decide)).trans y4
              show Rg.Does1 _ _ V (Rg.putUse V [] fr) w2 _
              exact Ob.rc_mv (.slice (some ⟨b, off, none⟩) (k + 1) d) (by simp only [execOp, tb4]; go_simp) rfl rfl True.intro
            · intro V S w2 HM HU HE
              have lw : Below w.heap.size w w2 := Rc.Mod.below HM (fun _ h => h.elim)
              have tb4 : (Rg.putUse V [] fr).eval (.tmp 4) = .slice (some ⟨b, off, none⟩) (k + 1) d := (Rg.use_eval V fr 4 [] (by simp only [hz]; decide)).trans y4
              show Rg.Does1 _ _ V (Rg.putUse V [] fr) w2 _
              exact Ob.rc_mv (.slice (some ⟨b, off, none⟩) (k + 1) d) (by simp only [execOp, tb4]; go_simp) rfl rfl True.intro
            · intro V S w2 HM HU HE
              have lw : Below w.heap.size w w2 := Rc.Mod.below HM (fun _ h => h.elim)
              have h6 : V 6 = .slice (some ⟨b, off, none⟩) (k + 1) d := HU.holds 6 (by decide)
              have tb36 : (Rg.putUse V [(6, 36)] fr).eval (.tmp 36) = .slice (some ⟨b, off, none⟩) (k + 1) d := (Rg.use_eval V fr 36 [(6, 36)] (by simp only [hz]; decide)).trans h6
              show Rg.Does1 _ _ V (Rg.putUse V [(6, 36)] fr) w2 _
              exact Ob.rc_mv (.int .i64 ((k + 1 : Nat) : Int)) (by simp only [execOp, resolve, List.map_toArray, List.map_cons, List.map_nil, tb36]; go_simp) rfl rfl True.intro
            · intro V S w2 HM HU HE
              have lw : Below w.heap.size w w2 := Rc.Mod.below HM (fun _ h => h.elim)
              have h7 : V 7 = .int .i64 ((k + 1 : Nat) : Int) := HU.holds 7 (by decide)
              have tb37 : (Rg.putUse V [(7, 37)] fr).eval (.tmp 37) = .int .i64 ((k + 1 : Nat) : Int) := (Rg.use_eval V fr 37 [(7, 37)] (by simp only [hz]; decide)).trans h7
              show Rg.Does1 _ _ V (Rg.putUse V [(7, 37)] fr) w2 _
              exact Ob.rc_mv (.int .i64 ((k : Nat) : Int)) (by simp only [execOp, tb37]; go_simp; rw [IntWalk.i64_in _ (by omega)]; try omega) rfl rfl True.intro
            · intro V S w2 HM HU HE
              have lw : Below w.heap.size w w2 := Rc.Mod.below HM (fun _ h => h.elim)
              have h5 : V 5 = .slice (some ⟨b, off, none⟩) (k + 1) d := HU.holds 5 (by decide)
              have tb35 : (Rg.putUse V [(5, 35), (8, 38)] fr).eval (.tmp 35) = .slice (some ⟨b, off, none⟩) (k + 1) d := (Rg.use_eval V fr 35 [(5, 35), (8, 38)] (by simp only [hz]; decide)).trans h5
              have h8 : V 8 = .int .i64 ((k : Nat) : Int) := HU.holds 8 (by decide)
              have tb38 : (Rg.putUse V [(5, 35), (8, 38)] fr).eval (.tmp 38) = .int .i64 ((k : Nat) : Int) := (Rg.use_eval V fr 38 [(5, 35), (8, 38)] (by simp only [hz]; decide)).trans h8
              show Rg.Does1 _ _ V (Rg.putUse V [(5, 35), (8, 38)] fr) w2 _
              exact Ob.rc_mv (.pointer (some ⟨b, off + k, none⟩)) (by simp only [execOp, tb35, tb38]; go_simp; try (intro h; exfalso; omega)) rfl rfl True.intro
            · intro V S w2 HM HU HE
              have lw : Below w.heap.size w w2 := Rc.Mod.below HM (fun _ h => h.elim)
              have h9 : V 9 = .pointer (some ⟨b, off + k, none⟩) := HU.holds 9 (by decide)
              have tb39 : (Rg.putUse V [(9, 39)] fr).eval (.tmp 39) = .pointer (some ⟨b, off + k, none⟩) := (Rg.use_eval V fr 39 [(9, 39)] (by simp only [hz]; decide)).trans h9
              show Rg.Does1 _ _ V (Rg.putUse V [(9, 39)] fr) w2 _
              have cu := (lw.cell (p := ⟨b, off + k, none⟩) HBL.out).trans hcell
              exact Ob.rc_mv (.slice A2 u.length c2) (by simp only [execOp, tb39]; go_simp) rfl rfl True.intro
            · intro V S w2 HM HU HE
              have lw : Below w.heap.size w w2 := Rc.Mod.below HM (fun _ h => h.elim)
              have h4 : V 4 = .slice (some ⟨b, off, none⟩) 0 d := HU.holds 4 (by decide)
              have tb34 : (Rg.putUse V [(4, 34)] fr).eval (.tmp 34) = .slice (some ⟨b, off, none⟩) 0 d := (Rg.use_eval V fr 34 [(4, 34)] (by simp only [hz]; decide)).trans h4
              show Rg.Does1 _ _ V (Rg.putUse V [(4, 34)] fr) w2 _
              exact Ob.rc_mv (.slice (some ⟨b, off, none⟩) 0 d) (by simp only [execOp, tb34]; go_simp) rfl rfl True.intro
            · intro V S w2 HM HU HE
              have lw : Below w.heap.size w w2 := Rc.Mod.below HM (fun _ h => h.elim)
              have h10 : V 10 = .slice A2 u.length c2 := HU.holds 10 (by decide)
              have tb40 : (Rg.putUse V [(10, 40)] fr).eval (.tmp 40) = .slice A2 u.length c2 := (Rg.use_eval V fr 40 [(10, 40)] (by simp only [hz]; decide)).trans h10
              show Rg.Does1 _ _ V (Rg.putUse V [(10, 40)] fr) w2 _
              exact Ob.rc_mv (.slice A2 u.length c2) (by simp only [execOp, tb40]; go_simp) rfl rfl True.intro
          · intro V S w2 HI
            have HL2 : Hid (Below w.heap.size w w2) := Rc.Mod.below HI.mod.undrew (fun _ h => h.elim)
            have hw11 : V 11 = .slice (some ⟨b, off, none⟩) 0 d := HI.get 11 (by decide) (by rfl)
            have hw12 : V 12 = .slice A2 u.length c2 := HI.get 12 (by decide) (by rfl)
            simp only [Rg.putList, Act.put, List.setIfInBounds_toArray, List.set_cons_zero, List.set_cons_succ, Nat.zero_add, Nat.reduceAdd]
            rw [hw11, hw12]
            clear HI hw11 hw12
            go_wp2_with fail
            go_ret3
            exact ⟨u, A2, c2, u, A2, c2, true, rfl, hc2, hul, HRU.out.below HL2.out, hc2, hul, HRU.out.below HL2.out, by rw [HE.out]; exact hs1.out, HL2.out⟩
        · have hs1 : Hid (Mk.single P = none) := single_none (by have := HQL.out; omega)
          have hq3 : ((Q.length : Int) == 0) = false := beq_eq_false_iff_ne.2 (by omega)
          clear hPl HPE
          go_enter Tryd.func38, Tryd.ntmps38
          go_wp2_with fail
          go_upto_region 5 with (fail)
          refine Rc.wp_region (by kernel_rfl) (fun opn => List.getD [Rc.val (.slice (some ⟨b, off, none⟩) (k + 1) d), Rc.val (.slice (some ⟨b, off, none⟩) (k + 1) d), Rc.val (.int .i64 ((k + 1 : Nat) : Int)), Rc.val (.int .i64 ((k : Nat) : Int)), Rc.val (.slice (some ⟨b, off, none⟩) Q.length d), Rc.val (.slice (some ⟨b, off, none⟩) (k + 1) d), Rc.val (.slice (some ⟨b, off, none⟩) (k + 1) d), Rc.val (.int .i64 ((k + 1 : Nat) : Int)), Rc.val (.int .i64 ((k : Nat) : Int)), Rc.val (.pointer (some ⟨b, off + k, none⟩)), Rc.val (.slice A2 u.length c2), Rc.val (.slice (some ⟨b, off, none⟩) Q.length d), Rc.val (.slice A2 u.length c2)] opn Rc.any) 0 [] [[], [], [(1, 31)], [(2, 32)], [(0, 30), (3, 33)], [], [], [(6, 36)], [(7, 37)], [(5, 35), (8, 38)], [(9, 39)], [(4, 34)], [(10, 40)]] [[], [], [1], [1, 2], [0, 1, 2, 3], [], [], [6], [6, 7], [5, 6, 7, 8], [5, 6, 7, 8, 9], [0, 1, 2, 3, 4], [0, 1, 2, 3, 4, 5, 6, 7, 8, 9, 10, 11]] [[], [], [1], [2], [0, 3], [], [], [6], [7], [5, 8], [9], [4], [10]] [] (by kernel_rfl) (by rfl) (by kernel_rfl) (fun _ => False) (fun _ _ => False) Rc.Inv.none ?_ ?_
          · intro fr ha
            have hz : fr.tmps.size = 89 := by rw [ha]; rfl
            have y4 : fr.eval (.tmp 4) = .slice (some ⟨b, off, none⟩) (k + 1) d := by rw [ha]; rfl
            clear ha
            refine .cons ?_ (.cons ?_ (.cons ?_ (.cons ?_ (.cons ?_ (.cons ?_ (.cons ?_ (.cons ?_ (.cons ?_ (.cons ?_ (.cons ?_ (.cons ?_ (.cons ?_ (.nil)))))))))))))
            · intro V S w2 HM HU HE
              have lw : Below w.heap.size w w2 := Rc.Mod.below HM (fun _ h => h.elim)
              have tb4 : (Rg.putUse V [] fr).eval (.tmp 4) = .slice (some ⟨b, off, none⟩) (k + 1) d := (Rg.use_eval V fr 4 [] (by simp only [hz]; decide)).trans y4
              show Rg.Does1 _ _ V (Rg.putUse V [] fr) w2 _
              exact Ob.rc_mv (.slice (some ⟨b, off, none⟩) (k + 1) d) (by simp only [execOp, tb4]; go_simp) rfl rfl True.intro
            · intro V S w2 HM HU HE
              have lw : Below w.heap.size w w2 := Rc.Mod.below HM (fun _ h => h.elim)
              have tb4 : (Rg.putUse V [] fr).eval (.tmp 4) = .slice (some ⟨b, off, none⟩) (k + 1) d := (Rg.use_eval V fr 4 [] (by simp only [hz]; decide)).trans y4
              show Rg.Does1 _ _ V (Rg.putUse V [] fr) w2 _
              exact Ob.rc_mv (.slice (some ⟨b, off, none⟩) (k + 1) d) (by simp only [execOp, tb4]; go_simp) rfl rfl True.intro
            · intro V S w2 HM HU HE
              have lw : Below w.heap.size w w2 := Rc.Mod.below HM (fun _ h => h.elim)
              have h1 : V 1 = .slice (some ⟨b, off, none⟩) (k + 1) d := HU.holds 1 (by decide)
              have tb31 : (Rg.putUse V [(1, 31)] fr).eval (.tmp 31) = .slice (some ⟨b, off, none⟩) (k + 1) d := (Rg.use_eval V fr 31 [(1, 31)] (by simp only [hz]; decide)).trans h1
              show Rg.Does1 _ _ V (Rg.putUse V [(1, 31)] fr) w2 _
              exact Ob.rc_mv (.int .i64 ((k + 1 : Nat) : Int)) (by simp only [execOp, resolve, List.map_toArray, List.map_cons, List.map_nil, tb31]; go_simp) rfl rfl True.intro
            · intro V S w2 HM HU HE
              have lw : Below w.heap.size w w2 := Rc.Mod.below HM (fun _ h => h.elim)
              have h2 : V 2 = .int .i64 ((k + 1 : Nat) : Int) := HU.holds 2 (by decide)
              have tb32 : (Rg.putUse V [(2, 32)] fr).eval (.tmp 32) = .int .i64 ((k + 1 : Nat) : Int) := (Rg.use_eval V fr 32 [(2, 32)] (by simp only [hz]; decide)).trans h2
              show Rg.Does1 _ _ V (Rg.putUse V [(2, 32)] fr) w2 _
              exact Ob.rc_mv (.int .i64 ((k : Nat) : Int)) (by simp only [execOp, tb32]; go_simp; rw [IntWalk.i64_in _ (by omega)]; try omega) rfl rfl True.intro
            · intro V S w2 HM HU HE
              have lw : Below w.heap.size w w2 := Rc.Mod.below HM (fun _ h => h.elim)
              have h0 : V 0 = .slice (some ⟨b, off, none⟩) (k + 1) d := HU.holds 0 (by decide)
              have tb30 : (Rg.putUse V [(0, 30), (3, 33)] fr).eval (.tmp 30) = .slice (some ⟨b, off, none⟩) (k + 1) d := (Rg.use_eval V fr 30 [(0, 30), (3, 33)] (by simp only [hz]; decide)).trans h0
              have h3 : V 3 = .int .i64 ((k : Nat) : Int) := HU.holds 3 (by decide)
              have tb33 : (Rg.putUse V [(0, 30), (3, 33)] fr).eval (.tmp 33) = .int .i64 ((k : Nat) : Int) := (Rg.use_eval V fr 33 [(0, 30), (3, 33)] (by simp only [hz]; decide)).trans h3
              show Rg.Does1 _ _ V (Rg.putUse V [(0, 30), (3, 33)] fr) w2 _
              exact Ob.rc_slh rfl tb30 tb33 (S1 w2) rfl rfl True.intro
            · intro V S w2 HM HU HE
              have lw : Below w.heap.size w w2 := Rc.Mod.below HM (fun _ h => h.elim)
              have tb4 : (Rg.putUse V [] fr).eval (.tmp 4) = .slice (some ⟨b, off, none⟩) (k + 1) d := (Rg.use_eval V fr 4 [] (by simp only [hz]; decide)).trans y4
              show Rg.Does1 _ _ V (Rg.putUse V [] fr) w2 _
              exact Ob.rc_mv (.slice (some ⟨b, off, none⟩) (k + 1) d) (by simp only [execOp, tb4]; go_simp) rfl rfl True.intro
            · intro V S w2 HM HU HE
              have lw : Below w.heap.size w w2 := Rc.Mod.below HM (fun _ h => h.elim)
              have tb4 : (Rg.putUse V [] fr).eval (.tmp 4) = .slice (some ⟨b, off, none⟩) (k + 1) d := (Rg.use_eval V fr 4 [] (by simp only [hz]; decide)).trans y4
              show Rg.Does1 _ _ V (Rg.putUse V [] fr) w2 _
              exact Ob.rc_mv (.slice (some ⟨b, off, none⟩) (k + 1) d) (by simp only [execOp, tb4]; go_simp) rfl rfl True.intro
            · intro V S w2 HM HU HE
              have lw : Below w.heap.size w w2 := Rc.Mod.below HM (fun _ h => h.elim)
              have h6 : V 6 = .slice (some ⟨b, off, none⟩) (k + 1) d := HU.holds 6 (by decide)
              have tb36 : (Rg.putUse V [(6, 36)] fr).eval (.tmp 36) = .slice (some ⟨b, off, none⟩) (k + 1) d := (Rg.use_eval V fr 36 [(6, 36)] (by simp only [hz]; decide)).trans h6
              show Rg.Does1 _ _ V (Rg.putUse V [(6, 36)] fr) w2 _
              exact Ob.rc_mv (.int .i64 ((k + 1 : Nat) : Int)) (by simp only [execOp, resolve, List.map_toArray, List.map_cons, List.map_nil, tb36]; go_simp) rfl rfl True.intro
            · intro V S w2 HM HU HE
              have lw : Below w.heap.size w w2 := Rc.Mod.below HM (fun _ h => h.elim)
              have h7 : V 7 = .int .i64 ((k + 1 : Nat) : Int) := HU.holds 7 (by decide)
              have tb37 : (Rg.putUse V [(7, 37)] fr).eval (.tmp 37) = .int .i64 ((k + 1 : Nat) : Int) := (Rg.use_eval V fr 37 [(7, 37)] (by simp only [hz]; decide)).trans h7
              show Rg.Does1 _ _ V (Rg.putUse V [(7, 37)] fr) w2 _
              exact Ob.rc_mv (.int .i64 ((k : Nat) : Int)) (by simp only [execOp, tb37]; go_simp; rw [IntWalk.i64_in _ (by omega)]; try omega) rfl rfl True.intro
            · intro V S w2 HM HU HE
              have lw : Below w.heap.size w w2 := Rc.Mod.below HM (fun _ h => h.elim)
              have h5 : V 5 = .slice (some ⟨b, off, none⟩) (k + 1) d := HU.holds 5 (by decide)
              have tb35 : (Rg.putUse V [(5, 35), (8, 38)] fr).eval (.tmp 35) = .slice (some ⟨b, off, none⟩) (k + 1) d := (Rg.use_eval V fr 35 [(5, 35), (8, 38)] (by simp only [hz]; decide)).trans h5
              have h8 : V 8 = .int .i64 ((k : Nat) : Int) := HU.holds 8 (by decide)
              have tb38 : (Rg.putUse V [(5, 35), (8, 38)] fr).eval (.tmp 38) = .int .i64 ((k : Nat) : Int) := (Rg.use_eval V fr 38 [(5, 35), (8, 38)] (by simp only [hz]; decide)).trans h8
              show Rg.Does1 _ _ V (Rg.putUse V [(5, 35), (8, 38)] fr) w2 _
              exact Ob.rc_mv (.pointer (some ⟨b, off + k, none⟩)) (by simp only [execOp, tb35, tb38]; go_simp; try (intro h; exfalso; omega)) rfl rfl True.intro
            · intro V S w2 HM HU HE
              have lw : Below w.heap.size w w2 := Rc.Mod.below HM (fun _ h => h.elim)
              have h9 : V 9 = .pointer (some ⟨b, off + k, none⟩) := HU.holds 9 (by decide)
              have tb39 : (Rg.putUse V [(9, 39)] fr).eval (.tmp 39) = .pointer (some ⟨b, off + k, none⟩) := (Rg.use_eval V fr 39 [(9, 39)] (by simp only [hz]; decide)).trans h9
              show Rg.Does1 _ _ V (Rg.putUse V [(9, 39)] fr) w2 _
              have cu := (lw.cell (p := ⟨b, off + k, none⟩) HBL.out).trans hcell
              exact Ob.rc_mv (.slice A2 u.length c2) (by simp only [execOp, tb39]; go_simp) rfl rfl True.intro
            · intro V S w2 HM HU HE
              have lw : Below w.heap.size w w2 := Rc.Mod.below HM (fun _ h => h.elim)
              have h4 : V 4 = .slice (some ⟨b, off, none⟩) Q.length d := HU.holds 4 (by decide)
              have tb34 : (Rg.putUse V [(4, 34)] fr).eval (.tmp 34) = .slice (some ⟨b, off, none⟩) Q.length d := (Rg.use_eval V fr 34 [(4, 34)] (by simp only [hz]; decide)).trans h4
              show Rg.Does1 _ _ V (Rg.putUse V [(4, 34)] fr) w2 _
              exact Ob.rc_mv (.slice (some ⟨b, off, none⟩) Q.length d) (by simp only [execOp, tb34]; go_simp) rfl rfl True.intro
            · intro V S w2 HM HU HE
              have lw : Below w.heap.size w w2 := Rc.Mod.below HM (fun _ h => h.elim)
              have h10 : V 10 = .slice A2 u.length c2 := HU.holds 10 (by decide)
              have tb40 : (Rg.putUse V [(10, 40)] fr).eval (.tmp 40) = .slice A2 u.length c2 := (Rg.use_eval V fr 40 [(10, 40)] (by simp only [hz]; decide)).trans h10
              show Rg.Does1 _ _ V (Rg.putUse V [(10, 40)] fr) w2 _
              exact Ob.rc_mv (.slice A2 u.length c2) (by simp only [execOp, tb40]; go_simp) rfl rfl True.intro
          · intro V S w2 HI
            have HL2 : Hid (Below w.heap.size w w2) := Rc.Mod.below HI.mod.undrew (fun _ h => h.elim)
            have hw11 : V 11 = .slice (some ⟨b, off, none⟩) Q.length d := HI.get 11 (by decide) (by rfl)
            have hw12 : V 12 = .slice A2 u.length c2 := HI.get 12 (by decide) (by rfl)
            simp only [Rg.putList, Act.put, List.setIfInBounds_toArray, List.set_cons_zero, List.set_cons_succ, Nat.zero_add, Nat.reduceAdd]
            rw [hw11, hw12]
            clear HI hw11 hw12
            go_wp2_with fail
            go_ret3
            exact ⟨u, A2, c2, u, A2, c2, false, rfl, hc2, hul, HRU.out.below HL2.out, hc2, hul, HRU.out.below HL2.out, by rw [HE.out]; exact hs1.out, HL2.out⟩
  · have h2 : 2 ≤ n := by omega
    by_cases hp : P.length = 0
    · have HE : Hid (Mk.both Sh.sum x m n P whole = none) := by rw [List.eq_nil_of_length_eq_zero hp]; exact Mk.both_none Sh.sum x m n whole h2 hmn
      rw [hp]
      clear hp hlen hd
      go_enter Tryd.func38, Tryd.ntmps38
      go_wp2_with fail
      go_ret3
      exact ⟨[], none, 0, [], none, 0, false, rfl, Nat.le_refl _, by simp, Rd.nil _ _, Nat.le_refl _, by simp, Rd.nil _ _, HE.out, Below.refl _ _⟩
    · skip
      obtain ⟨b, off, u, A2, c2, rfl, hu, hcell, hc2, hru⟩ := HR2.out.at_ (P.length - 1) (by omega)
      have S1 := fun W => rows_h W (some ⟨b, off, none⟩) P d (P.length - 1) (Nat.sub_le _ _) hd
      have hPQ := last_of hu
      have RQ : Hid (RdL w (some ⟨b, off, none⟩) (P.take (P.length - 1))) := HR2.out.take _
      have MQ := Lib.hid (HS.out.take (P.length - 1))
      have hul := HS.out.at_ hu
      have hQl : (P.take (P.length - 1)).length = P.length - 1 := by rw [List.length_take]; omega
      have HBL : Hid (b < w.heap.size) := World.block_lt_of_cell? w ⟨b, _, none⟩ hcell
      obtain ⟨Q, hQ⟩ : ∃ Q, Q = P.take (P.length - 1) := ⟨_, rfl⟩
      rw [← hQ] at S1 hPQ RQ MQ hQl
      obtain ⟨k, hk⟩ : ∃ k, k = P.length - 1 := ⟨_, rfl⟩
      have hPl : P.length = k + 1 := by omega
      rw [← hk] at hcell hQl
      rw [← hk, hPl] at S1
      have HPE := Lib.hid hPQ
      have HQL := Lib.hid hQl
      have HRU := Lib.hid hru
      rw [hPl]
      have hQd : Q.length ≤ d := by omega
      have hmb : k ≤ 1000000 := by omega
      clear hk hQ hPQ hQl hru hu hp hd
      have hq1 := Mk.part_lt n h2
      have hq2 := Mk.part_pos n h2
      have HP : Hid (∀ W, Calls Tryd.prog 28 #[.int .i64 (n : Nat)] W fun e w' => e = .returned (.int .i64 (Mk.part n : Nat)) ∧ W = w') := fun W => pPart W n h2 hn
      by_cases hmk : m ≤ Mk.part n
      · have HE := Lib.hid (Mk.both_left Sh.sum x m n Q u whole h2 hmn hmk)
        rw [← HPE.out] at HE
        obtain ⟨q, hq⟩ : ∃ q, q = Mk.part n := ⟨_, rfl⟩
        rw [← hq] at hq1 hq2 HP HE hmk
        clear hPl HPE hq
        go_enter Tryd.func38, Tryd.ntmps38
        go_wp2_with fail
        go_upto_region 5 with (fail)
        refine Rc.wp_region (by kernel_rfl) (fun opn => List.getD [Rc.val (.slice (some ⟨b, off, none⟩) (k + 1) d), Rc.val (.slice (some ⟨b, off, none⟩) (k + 1) d), Rc.val (.int .i64 ((k + 1 : Nat) : Int)), Rc.val (.int .i64 ((k : Nat) : Int)), Rc.val (.slice (some ⟨b, off, none⟩) Q.length d), Rc.val (.slice (some ⟨b, off, none⟩) (k + 1) d), Rc.val (.slice (some ⟨b, off, none⟩) (k + 1) d), Rc.val (.int .i64 ((k + 1 : Nat) : Int)), Rc.val (.int .i64 ((k : Nat) : Int)), Rc.val (.pointer (some ⟨b, off + k, none⟩)), Rc.val (.slice A2 u.length c2), Rc.val (.slice (some ⟨b, off, none⟩) Q.length d), Rc.val (.slice A2 u.length c2)] opn Rc.any) 0 [] [[], [], [(1, 31)], [(2, 32)], [(0, 30), (3, 33)], [], [], [(6, 36)], [(7, 37)], [(5, 35), (8, 38)], [(9, 39)], [(4, 34)], [(10, 40)]] [[], [], [1], [1, 2], [0, 1, 2, 3], [], [], [6], [6, 7], [5, 6, 7, 8], [5, 6, 7, 8, 9], [0, 1, 2, 3, 4], [0, 1, 2, 3, 4, 5, 6, 7, 8, 9, 10, 11]] [[], [], [1], [2], [0, 3], [], [], [6], [7], [5, 8], [9], [4], [10]] [] (by kernel_rfl) (by rfl) (by kernel_rfl) (fun _ => False) (fun _ _ => False) Rc.Inv.none ?_ ?_
        · intro fr ha
          have hz : fr.tmps.size = 89 := by rw [ha]; rfl
          have y4 : fr.eval (.tmp 4) = .slice (some ⟨b, off, none⟩) (k + 1) d := by rw [ha]; rfl
          clear ha
          refine .cons ?_ (.cons ?_ (.cons ?_ (.cons ?_ (.cons ?_ (.cons ?_ (.cons ?_ (.cons ?_ (.cons ?_ (.cons ?_ (.cons ?_ (.cons ?_ (.cons ?_ (.nil)))))))))))))
          · intro V S w2 HM HU HE
            have lw : Below w.heap.size w w2 := Rc.Mod.below HM (fun _ h => h.elim)
            have tb4 : (Rg.putUse V [] fr).eval (.tmp 4) = .slice (some ⟨b, off, none⟩) (k + 1) d := (Rg.use_eval V fr 4 [] (by simp only [hz]; decide)).trans y4
            show Rg.Does1 _ _ V (Rg.putUse V [] fr) w2 _
            exact Ob.rc_mv (.slice (some ⟨b, off, none⟩) (k + 1) d) (by simp only [execOp, tb4]; go_simp) rfl rfl True.intro
          · intro V S w2 HM HU HE
            have lw : Below w.heap.size w w2 := Rc.Mod.below HM (fun _ h => h.elim)
            have tb4 : (Rg.putUse V [] fr).eval (.tmp 4) = .slice (some ⟨b, off, none⟩) (k + 1) d := (Rg.use_eval V fr 4 [] (by simp only [hz]; decide)).trans y4
            show Rg.Does1 _ _ V (Rg.putUse V [] fr) w2 _
            exact Ob.rc_mv (.slice (some ⟨b, off, none⟩) (k + 1) d) (by simp only [execOp, tb4]; go_simp) rfl rfl True.intro
          · intro V S w2 HM HU HE
            have lw : Below w.heap.size w w2 := Rc.Mod.below HM (fun _ h => h.elim)
            have h1 : V 1 = .slice (some ⟨b, off, none⟩) (k + 1) d := HU.holds 1 (by decide)
            have tb31 : (Rg.putUse V [(1, 31)] fr).eval (.tmp 31) = .slice (some ⟨b, off, none⟩) (k + 1) d := (Rg.use_eval V fr 31 [(1, 31)] (by simp only [hz]; decide)).trans h1
            show Rg.Does1 _ _ V (Rg.putUse V [(1, 31)] fr) w2 _
            exact Ob.rc_mv (.int .i64 ((k + 1 : Nat) : Int)) (by simp only [execOp, resolve, List.map_toArray, List.map_cons, List.map_nil, tb31]; go_simp) rfl rfl True.intro
          · intro V S w2 HM HU HE
            have lw : Below w.heap.size w w2 := Rc.Mod.below HM (fun _ h => h.elim)
            have h2 : V 2 = .int .i64 ((k + 1 : Nat) : Int) := HU.holds 2 (by decide)
            have tb32 : (Rg.putUse V [(2, 32)] fr).eval (.tmp 32) = .int .i64 ((k + 1 : Nat) : Int) := (Rg.use_eval V fr 32 [(2, 32)] (by simp only [hz]; decide)).trans h2
            show Rg.Does1 _ _ V (Rg.putUse V [(2, 32)] fr) w2 _
            exact Ob.rc_mv (.int .i64 ((k : Nat) : Int)) (by simp only [execOp, tb32]; go_simp; rw [IntWalk.i64_in _ (by omega)]; try omega) rfl rfl True.intro
          · intro V S w2 HM HU HE
            have lw : Below w.heap.size w w2 := Rc.Mod.below HM (fun _ h => h.elim)
            have h0 : V 0 = .slice (some ⟨b, off, none⟩) (k + 1) d := HU.holds 0 (by decide)
            have tb30 : (Rg.putUse V [(0, 30), (3, 33)] fr).eval (.tmp 30) = .slice (some ⟨b, off, none⟩) (k + 1) d := (Rg.use_eval V fr 30 [(0, 30), (3, 33)] (by simp only [hz]; decide)).trans h0
            have h3 : V 3 = .int .i64 ((k : Nat) : Int) := HU.holds 3 (by decide)
            have tb33 : (Rg.putUse V [(0, 30), (3, 33)] fr).eval (.tmp 33) = .int .i64 ((k : Nat) : Int) := (Rg.use_eval V fr 33 [(0, 30), (3, 33)] (by simp only [hz]; decide)).trans h3
            show Rg.Does1 _ _ V (Rg.putUse V [(0, 30), (3, 33)] fr) w2 _
            exact Ob.rc_slh rfl tb30 tb33 (S1 w2) rfl rfl True.intro
          · intro V S w2 HM HU HE
            have lw : Below w.heap.size w w2 := Rc.Mod.below HM (fun _ h => h.elim)
            have tb4 : (Rg.putUse V [] fr).eval (.tmp 4) = .slice (some ⟨b, off, none⟩) (k + 1) d := (Rg.use_eval V fr 4 [] (by simp only [hz]; decide)).trans y4
            show Rg.Does1 _ _ V (Rg.putUse V [] fr) w2 _
            exact Ob.rc_mv (.slice (some ⟨b, off, none⟩) (k + 1) d) (by simp only [execOp, tb4]; go_simp) rfl rfl True.intro
          · intro V S w2 HM HU HE
            have lw : Below w.heap.size w w2 := Rc.Mod.below HM (fun _ h => h.elim)
            have tb4 : (Rg.putUse V [] fr).eval (.tmp 4) = .slice (some ⟨b, off, none⟩) (k + 1) d := (Rg.use_eval V fr 4 [] (by simp only [hz]; decide)).trans y4
            show Rg.Does1 _ _ V (Rg.putUse V [] fr) w2 _
            exact Ob.rc_mv (.slice (some ⟨b, off, none⟩) (k + 1) d) (by simp only [execOp, tb4]; go_simp) rfl rfl True.intro
          · intro V S w2 HM HU HE
            have lw : Below w.heap.size w w2 := Rc.Mod.below HM (fun _ h => h.elim)
            have h6 : V 6 = .slice (some ⟨b, off, none⟩) (k + 1) d := HU.holds 6 (by decide)
            have tb36 : (Rg.putUse V [(6, 36)] fr).eval (.tmp 36) = .slice (some ⟨b, off, none⟩) (k + 1) d := (Rg.use_eval V fr 36 [(6, 36)] (by simp only [hz]; decide)).trans h6
            show Rg.Does1 _ _ V (Rg.putUse V [(6, 36)] fr) w2 _
            exact Ob.rc_mv (.int .i64 ((k + 1 : Nat) : Int)) (by simp only [execOp, resolve, List.map_toArray, List.map_cons, List.map_nil, tb36]; go_simp) rfl rfl True.intro
          · intro V S w2 HM HU HE
            have lw : Below w.heap.size w w2 := Rc.Mod.below HM (fun _ h => h.elim)
            have h7 : V 7 = .int .i64 ((k + 1 : Nat) : Int) := HU.holds 7 (by decide)
            have tb37 : (Rg.putUse V [(7, 37)] fr).eval (.tmp 37) = .int .i64 ((k + 1 : Nat) : Int) := (Rg.use_eval V fr 37 [(7, 37)] (by simp only [hz]; decide)).trans h7
            show Rg.Does1 _ _ V (Rg.putUse V [(7, 37)] fr) w2 _
            exact Ob.rc_mv (.int .i64 ((k : Nat) : Int)) (by simp only [execOp, tb37]; go_simp; rw [IntWalk.i64_in _ (by omega)]; try omega) rfl rfl True.intro
          · intro V S w2 HM HU HE
            have lw : Below w.heap.size w w2 := Rc.Mod.below HM (fun _ h => h.elim)
            have h5 : V 5 = .slice (some ⟨b, off, none⟩) (k + 1) d := HU.holds 5 (by decide)
            have tb35 : (Rg.putUse V [(5, 35), (8, 38)] fr).eval (.tmp 35) = .slice (some ⟨b, off, none⟩) (k + 1) d := (Rg.use_eval V fr 35 [(5, 35), (8, 38)] (by simp only [hz]; decide)).trans h5
            have h8 : V 8 = .int .i64 ((k : Nat) : Int) := HU.holds 8 (by decide)
            have tb38 : (Rg.putUse V [(5, 35), (8, 38)] fr).eval (.tmp 38) = .int .i64 ((k : Nat) : Int) := (Rg.use_eval V fr 38 [(5, 35), (8, 38)] (by simp only [hz]; decide)).trans h8
            show Rg.Does1 _ _ V (Rg.putUse V [(5, 35), (8, 38)] fr) w2 _
            exact Ob.rc_mv (.pointer (some ⟨b, off + k, none⟩)) (by simp only [execOp, tb35, tb38]; go_simp; try (intro h; exfalso; omega)) rfl rfl True.intro
          · intro V S w2 HM HU HE
            have lw : Below w.heap.size w w2 := Rc.Mod.below HM (fun _ h => h.elim)
            have h9 : V 9 = .pointer (some ⟨b, off + k, none⟩) := HU.holds 9 (by decide)
            have tb39 : (Rg.putUse V [(9, 39)] fr).eval (.tmp 39) = .pointer (some ⟨b, off + k, none⟩) := (Rg.use_eval V fr 39 [(9, 39)] (by simp only [hz]; decide)).trans h9
            show Rg.Does1 _ _ V (Rg.putUse V [(9, 39)] fr) w2 _
            have cu := (lw.cell (p := ⟨b, off + k, none⟩) HBL.out).trans hcell
            exact Ob.rc_mv (.slice A2 u.length c2) (by simp only [execOp, tb39]; go_simp) rfl rfl True.intro
          · intro V S w2 HM HU HE
            have lw : Below w.heap.size w w2 := Rc.Mod.below HM (fun _ h => h.elim)
            have h4 : V 4 = .slice (some ⟨b, off, none⟩) Q.length d := HU.holds 4 (by decide)
            have tb34 : (Rg.putUse V [(4, 34)] fr).eval (.tmp 34) = .slice (some ⟨b, off, none⟩) Q.length d := (Rg.use_eval V fr 34 [(4, 34)] (by simp only [hz]; decide)).trans h4
            show Rg.Does1 _ _ V (Rg.putUse V [(4, 34)] fr) w2 _
            exact Ob.rc_mv (.slice (some ⟨b, off, none⟩) Q.length d) (by simp only [execOp, tb34]; go_simp) rfl rfl True.intro
          · intro V S w2 HM HU HE
            have lw : Below w.heap.size w w2 := Rc.Mod.below HM (fun _ h => h.elim)
            have h10 : V 10 = .slice A2 u.length c2 := HU.holds 10 (by decide)
            have tb40 : (Rg.putUse V [(10, 40)] fr).eval (.tmp 40) = .slice A2 u.length c2 := (Rg.use_eval V fr 40 [(10, 40)] (by simp only [hz]; decide)).trans h10
            show Rg.Does1 _ _ V (Rg.putUse V [(10, 40)] fr) w2 _
            exact Ob.rc_mv (.slice A2 u.length c2) (by simp only [execOp, tb40]; go_simp) rfl rfl True.intro
        · intro V S w2 HI
          have HL2 : Hid (Below w.heap.size w w2) := Rc.Mod.below HI.mod.undrew (fun _ h => h.elim)
          have hw11 : V 11 = .slice (some ⟨b, off, none⟩) Q.length d := HI.get 11 (by decide) (by rfl)
          have hw12 : V 12 = .slice A2 u.length c2 := HI.get 12 (by decide) (by rfl)
          simp only [Rg.putList, Act.put, List.setIfInBounds_toArray, List.set_cons_zero, List.set_cons_succ, Nat.zero_add, Nat.reduceAdd]
          rw [hw11, hw12]
          clear HI hw11 hw12
          go_wp2_with fail
          refine (HP.out _).mono ?_
          rintro e w1 ⟨rfl, rfl⟩
          go_wp2_with fail
          refine (IH.out q hq1 w2 x A c m q Q (some ⟨b, off, none⟩) d whole rfl h1 hmk (by omega) (HR.out.below HL2.out) hc hx (RQ.out.below HL2.out) hQd MQ.out (HK.out.later HL2.out)).mono ?_
          rintro e w3 ⟨X, AX, cX, Y, AY, cY, ok, rfl, hXc, hXl, hXr, hYc, hYl, hYr, hXo, hb⟩
          have HX := Lib.hid hXr
          have HY := Lib.hid hYr
          have HO := Lib.hid hXo
          have HB : Hid (Below w.heap.size w w3) := HL2.out.trans (hb.mono HL2.out.size)
          clear hXr hYr hXo hb
          go_wp2_with fail
          refine (pPair w3 Y u AY A2 cY c2 HY.out hYc (HRU.out.below HB.out) hc2 (HK.out.later HB.out) hYl hul).mono ?_
          rintro e w4 ⟨v, rfl, ⟨Z, cZ, rfl, hZc, hZr, _⟩, hb⟩
          have HZ := Lib.hid hZr
          have HX2 : Hid (Rd w4 AX X) := HX.out.below hb
          have HB2 : Hid (Below w.heap.size w w4) := HB.out.trans (hb.mono HB.out.size)
          clear hZr hb
          go_wp2_with fail
          go_ret3
          exact ⟨X, AX, cX, _, Z, cZ, ok, rfl, hXc, hXl, HX2.out, hZc, by rw [pair_length]; omega, HZ.out, by rw [HE.out, HO.out]; cases ok <;> rfl, HB2.out⟩
      · have HE := Lib.hid (Mk.both_right Sh.sum x m n Q u whole h2 hmn hmk)
        rw [← HPE.out] at HE
        obtain ⟨q, hq⟩ : ∃ q, q = Mk.part n := ⟨_, rfl⟩
        rw [← hq] at hq1 hq2 HP HE hmk
        clear hPl HPE hq
        obtain ⟨j, rfl⟩ : ∃ j, m = q + j := ⟨m - q, by omega⟩
        rw [Nat.add_sub_cancel_left] at HE
        obtain ⟨r, rfl⟩ : ∃ r, n = q + r := ⟨n - q, by omega⟩
        rw [Nat.add_sub_cancel_left] at HE
        go_enter Tryd.func38, Tryd.ntmps38
        go_wp2_with fail
        go_upto_region 5 with (fail)
        refine Rc.wp_region (by kernel_rfl) (fun opn => List.getD [Rc.val (.slice (some ⟨b, off, none⟩) (k + 1) d), Rc.val (.slice (some ⟨b, off, none⟩) (k + 1) d), Rc.val (.int .i64 ((k + 1 : Nat) : Int)), Rc.val (.int .i64 ((k : Nat) : Int)), Rc.val (.slice (some ⟨b, off, none⟩) Q.length d), Rc.val (.slice (some ⟨b, off, none⟩) (k + 1) d), Rc.val (.slice (some ⟨b, off, none⟩) (k + 1) d), Rc.val (.int .i64 ((k + 1 : Nat) : Int)), Rc.val (.int .i64 ((k : Nat) : Int)), Rc.val (.pointer (some ⟨b, off + k, none⟩)), Rc.val (.slice A2 u.length c2), Rc.val (.slice (some ⟨b, off, none⟩) Q.length d), Rc.val (.slice A2 u.length c2)] opn Rc.any) 0 [] [[], [], [(1, 31)], [(2, 32)], [(0, 30), (3, 33)], [], [], [(6, 36)], [(7, 37)], [(5, 35), (8, 38)], [(9, 39)], [(4, 34)], [(10, 40)]] [[], [], [1], [1, 2], [0, 1, 2, 3], [], [], [6], [6, 7], [5, 6, 7, 8], [5, 6, 7, 8, 9], [0, 1, 2, 3, 4], [0, 1, 2, 3, 4, 5, 6, 7, 8, 9, 10, 11]] [[], [], [1], [2], [0, 3], [], [], [6], [7], [5, 8], [9], [4], [10]] [] (by kernel_rfl) (by rfl) (by kernel_rfl) (fun _ => False) (fun _ _ => False) Rc.Inv.none ?_ ?_
        · intro fr ha
          have hz : fr.tmps.size = 89 := by rw [ha]; rfl
          have y4 : fr.eval (.tmp 4) = .slice (some ⟨b, off, none⟩) (k + 1) d := by rw [ha]; rfl
          clear ha
          refine .cons ?_ (.cons ?_ (.cons ?_ (.cons ?_ (.cons ?_ (.cons ?_ (.cons ?_ (.cons ?_ (.cons ?_ (.cons ?_ (.cons ?_ (.cons ?_ (.cons ?_ (.nil)))))))))))))
          · intro V S w2 HM HU HE
            have lw : Below w.heap.size w w2 := Rc.Mod.below HM (fun _ h => h.elim)
            have tb4 : (Rg.putUse V [] fr).eval (.tmp 4) = .slice (some ⟨b, off, none⟩) (k + 1) d := (Rg.use_eval V fr 4 [] (by simp only [hz]; decide)).trans y4
            show Rg.Does1 _ _ V (Rg.putUse V [] fr) w2 _
            exact Ob.rc_mv (.slice (some ⟨b, off, none⟩) (k + 1) d) (by simp only [execOp, tb4]; go_simp) rfl rfl True.intro
          · intro V S w2 HM HU HE
            have lw : Below w.heap.size w w2 := Rc.Mod.below HM (fun _ h => h.elim)
            have tb4 : (Rg.putUse V [] fr).eval (.tmp 4) = .slice (some ⟨b, off, none⟩) (k + 1) d := (Rg.use_eval V fr 4 [] (by simp only [hz]; decide)).trans y4
            show Rg.Does1 _ _ V (Rg.putUse V [] fr) w2 _
            exact Ob.rc_mv (.slice (some ⟨b, off, none⟩) (k + 1) d) (by simp only [execOp, tb4]; go_simp) rfl rfl True.intro
          · intro V S w2 HM HU HE
            have lw : Below w.heap.size w w2 := Rc.Mod.below HM (fun _ h => h.elim)
            have h1 : V 1 = .slice (some ⟨b, off, none⟩) (k + 1) d := HU.holds 1 (by decide)
            have tb31 : (Rg.putUse V [(1, 31)] fr).eval (.tmp 31) = .slice (some ⟨b, off, none⟩) (k + 1) d := (Rg.use_eval V fr 31 [(1, 31)] (by simp only [hz]; decide)).trans h1
            show Rg.Does1 _ _ V (Rg.putUse V [(1, 31)] fr) w2 _
            exact Ob.rc_mv (.int .i64 ((k + 1 : Nat) : Int)) (by simp only [execOp, resolve, List.map_toArray, List.map_cons, List.map_nil, tb31]; go_simp) rfl rfl True.intro
          · intro V S w2 HM HU HE
            have lw : Below w.heap.size w w2 := Rc.Mod.below HM (fun _ h => h.elim)
            have h2 : V 2 = .int .i64 ((k + 1 : Nat) : Int) := HU.holds 2 (by decide)
            have tb32 : (Rg.putUse V [(2, 32)] fr).eval (.tmp 32) = .int .i64 ((k + 1 : Nat) : Int) := (Rg.use_eval V fr 32 [(2, 32)] (by simp only [hz]; decide)).trans h2
            show Rg.Does1 _ _ V (Rg.putUse V [(2, 32)] fr) w2 _
            exact Ob.rc_mv (.int .i64 ((k : Nat) : Int)) (by simp only [execOp, tb32]; go_simp; rw [IntWalk.i64_in _ (by omega)]; try omega) rfl rfl True.intro
          · intro V S w2 HM HU HE
            have lw : Below w.heap.size w w2 := Rc.Mod.below HM (fun _ h => h.elim)
            have h0 : V 0 = .slice (some ⟨b, off, none⟩) (k + 1) d := HU.holds 0 (by decide)
            have tb30 : (Rg.putUse V [(0, 30), (3, 33)] fr).eval (.tmp 30) = .slice (some ⟨b, off, none⟩) (k + 1) d := (Rg.use_eval V fr 30 [(0, 30), (3, 33)] (by simp only [hz]; decide)).trans h0
            have h3 : V 3 = .int .i64 ((k : Nat) : Int) := HU.holds 3 (by decide)
            have tb33 : (Rg.putUse V [(0, 30), (3, 33)] fr).eval (.tmp 33) = .int .i64 ((k : Nat) : Int) := (Rg.use_eval V fr 33 [(0, 30), (3, 33)] (by simp only [hz]; decide)).trans h3
            show Rg.Does1 _ _ V (Rg.putUse V [(0, 30), (3, 33)] fr) w2 _
            exact Ob.rc_slh rfl tb30 tb33 (S1 w2) rfl rfl True.intro
          · intro V S w2 HM HU HE
            have lw : Below w.heap.size w w2 := Rc.Mod.below HM (fun _ h => h.elim)
            have tb4 : (Rg.putUse V [] fr).eval (.tmp 4) = .slice (some ⟨b, off, none⟩) (k + 1) d := (Rg.use_eval V fr 4 [] (by simp only [hz]; decide)).trans y4
            show Rg.Does1 _ _ V (Rg.putUse V [] fr) w2 _
            exact Ob.rc_mv (.slice (some ⟨b, off, none⟩) (k + 1) d) (by simp only [execOp, tb4]; go_simp) rfl rfl True.intro
          · intro V S w2 HM HU HE
            have lw : Below w.heap.size w w2 := Rc.Mod.below HM (fun _ h => h.elim)
            have tb4 : (Rg.putUse V [] fr).eval (.tmp 4) = .slice (some ⟨b, off, none⟩) (k + 1) d := (Rg.use_eval V fr 4 [] (by simp only [hz]; decide)).trans y4
            show Rg.Does1 _ _ V (Rg.putUse V [] fr) w2 _
            exact Ob.rc_mv (.slice (some ⟨b, off, none⟩) (k + 1) d) (by simp only [execOp, tb4]; go_simp) rfl rfl True.intro
          · intro V S w2 HM HU HE
            have lw : Below w.heap.size w w2 := Rc.Mod.below HM (fun _ h => h.elim)
            have h6 : V 6 = .slice (some ⟨b, off, none⟩) (k + 1) d := HU.holds 6 (by decide)
            have tb36 : (Rg.putUse V [(6, 36)] fr).eval (.tmp 36) = .slice (some ⟨b, off, none⟩) (k + 1) d := (Rg.use_eval V fr 36 [(6, 36)] (by simp only [hz]; decide)).trans h6
            show Rg.Does1 _ _ V (Rg.putUse V [(6, 36)] fr) w2 _
            exact Ob.rc_mv (.int .i64 ((k + 1 : Nat) : Int)) (by simp only [execOp, resolve, List.map_toArray, List.map_cons, List.map_nil, tb36]; go_simp) rfl rfl True.intro
          · intro V S w2 HM HU HE
            have lw : Below w.heap.size w w2 := Rc.Mod.below HM (fun _ h => h.elim)
            have h7 : V 7 = .int .i64 ((k + 1 : Nat) : Int) := HU.holds 7 (by decide)
            have tb37 : (Rg.putUse V [(7, 37)] fr).eval (.tmp 37) = .int .i64 ((k + 1 : Nat) : Int) := (Rg.use_eval V fr 37 [(7, 37)] (by simp only [hz]; decide)).trans h7
            show Rg.Does1 _ _ V (Rg.putUse V [(7, 37)] fr) w2 _
            exact Ob.rc_mv (.int .i64 ((k : Nat) : Int)) (by simp only [execOp, tb37]; go_simp; rw [IntWalk.i64_in _ (by omega)]; try omega) rfl rfl True.intro
          · intro V S w2 HM HU HE
            have lw : Below w.heap.size w w2 := Rc.Mod.below HM (fun _ h => h.elim)
            have h5 : V 5 = .slice (some ⟨b, off, none⟩) (k + 1) d := HU.holds 5 (by decide)
            have tb35 : (Rg.putUse V [(5, 35), (8, 38)] fr).eval (.tmp 35) = .slice (some ⟨b, off, none⟩) (k + 1) d := (Rg.use_eval V fr 35 [(5, 35), (8, 38)] (by simp only [hz]; decide)).trans h5
            have h8 : V 8 = .int .i64 ((k : Nat) : Int) := HU.holds 8 (by decide)
            have tb38 : (Rg.putUse V [(5, 35), (8, 38)] fr).eval (.tmp 38) = .int .i64 ((k : Nat) : Int) := (Rg.use_eval V fr 38 [(5, 35), (8, 38)] (by simp only [hz]; decide)).trans h8
            show Rg.Does1 _ _ V (Rg.putUse V [(5, 35), (8, 38)] fr) w2 _
            exact Ob.rc_mv (.pointer (some ⟨b, off + k, none⟩)) (by simp only [execOp, tb35, tb38]; go_simp; try (intro h; exfalso; omega)) rfl rfl True.intro
          · intro V S w2 HM HU HE
            have lw : Below w.heap.size w w2 := Rc.Mod.below HM (fun _ h => h.elim)
            have h9 : V 9 = .pointer (some ⟨b, off + k, none⟩) := HU.holds 9 (by decide)
            have tb39 : (Rg.putUse V [(9, 39)] fr).eval (.tmp 39) = .pointer (some ⟨b, off + k, none⟩) := (Rg.use_eval V fr 39 [(9, 39)] (by simp only [hz]; decide)).trans h9
            show Rg.Does1 _ _ V (Rg.putUse V [(9, 39)] fr) w2 _
            have cu := (lw.cell (p := ⟨b, off + k, none⟩) HBL.out).trans hcell
            exact Ob.rc_mv (.slice A2 u.length c2) (by simp only [execOp, tb39]; go_simp) rfl rfl True.intro
          · intro V S w2 HM HU HE
            have lw : Below w.heap.size w w2 := Rc.Mod.below HM (fun _ h => h.elim)
            have h4 : V 4 = .slice (some ⟨b, off, none⟩) Q.length d := HU.holds 4 (by decide)
            have tb34 : (Rg.putUse V [(4, 34)] fr).eval (.tmp 34) = .slice (some ⟨b, off, none⟩) Q.length d := (Rg.use_eval V fr 34 [(4, 34)] (by simp only [hz]; decide)).trans h4
            show Rg.Does1 _ _ V (Rg.putUse V [(4, 34)] fr) w2 _
            exact Ob.rc_mv (.slice (some ⟨b, off, none⟩) Q.length d) (by simp only [execOp, tb34]; go_simp) rfl rfl True.intro
          · intro V S w2 HM HU HE
            have lw : Below w.heap.size w w2 := Rc.Mod.below HM (fun _ h => h.elim)
            have h10 : V 10 = .slice A2 u.length c2 := HU.holds 10 (by decide)
            have tb40 : (Rg.putUse V [(10, 40)] fr).eval (.tmp 40) = .slice A2 u.length c2 := (Rg.use_eval V fr 40 [(10, 40)] (by simp only [hz]; decide)).trans h10
            show Rg.Does1 _ _ V (Rg.putUse V [(10, 40)] fr) w2 _
            exact Ob.rc_mv (.slice A2 u.length c2) (by simp only [execOp, tb40]; go_simp) rfl rfl True.intro
        · intro V S w2 HI
          have HL2 : Hid (Below w.heap.size w w2) := Rc.Mod.below HI.mod.undrew (fun _ h => h.elim)
          have hw11 : V 11 = .slice (some ⟨b, off, none⟩) Q.length d := HI.get 11 (by decide) (by rfl)
          have hw12 : V 12 = .slice A2 u.length c2 := HI.get 12 (by decide) (by rfl)
          simp only [Rg.putList, Act.put, List.setIfInBounds_toArray, List.set_cons_zero, List.set_cons_succ, Nat.zero_add, Nat.reduceAdd]
          rw [hw11, hw12]
          clear HI hw11 hw12
          go_wp2_with fail
          refine (HP.out _).mono ?_
          rintro e w1 ⟨rfl, rfl⟩
          go_wp2_with fail
          rw [show ((q : Nat) : Int) + ((j : Nat) : Int) - ((q : Nat) : Int) = ((j : Nat) : Int) by omega, show ((q : Nat) : Int) + ((r : Nat) : Int) - ((q : Nat) : Int) = ((r : Nat) : Int) by omega]
          refine (IH.out r (by omega) w2 x A c j r Q (some ⟨b, off, none⟩) d false rfl (by omega) (by omega) (by omega) (HR.out.below HL2.out) hc hx (RQ.out.below HL2.out) hQd MQ.out (HK.out.later HL2.out)).mono ?_
          rintro e w3 ⟨X, AX, cX, Y, AY, cY, ok, rfl, hXc, hXl, hXr, hYc, hYl, hYr, hXo, hb⟩
          have HX := Lib.hid hXr
          have HY := Lib.hid hYr
          have HO := Lib.hid hXo
          have HB : Hid (Below w.heap.size w w3) := HL2.out.trans (hb.mono HL2.out.size)
          clear hXr hYr hXo hb
          go_wp2_with fail
          refine (pPair w3 u X A2 AX c2 cX (HRU.out.below HB.out) hc2 HX.out hXc (HK.out.later HB.out) hul hXl).mono ?_
          rintro e w4 ⟨v, rfl, ⟨Z, cZ, rfl, hZc, hZr, _⟩, hb⟩
          have HZ := Lib.hid hZr
          have HY2 : Hid (Rd w4 AY Y) := HY.out.below hb
          have HB2 : Hid (Below w.heap.size w w4) := HB.out.trans (hb.mono HB.out.size)
          clear hZr hb
          go_wp2_with fail
          refine (pPair w4 u Y A2 AY c2 cY (HRU.out.below HB2.out) hc2 HY2.out hYc (HK.out.later HB2.out) hul hYl).mono ?_
          rintro e w5 ⟨v, rfl, ⟨T, cT, rfl, hTc, hTr, _⟩, hb⟩
          have HT := Lib.hid hTr
          have HZ2 : Hid (Rd w5 Z _) := HZ.out.below hb
          have HB3 : Hid (Below w.heap.size w w5) := HB2.out.trans (hb.mono HB2.out.size)
          clear hTr hb
          go_wp2_with fail
          go_ret3
          exact ⟨_, Z, cZ, _, T, cT, ok, rfl, hZc, by rw [pair_length]; omega, HZ2.out, hTc, by rw [pair_length]; omega, HT.out, by rw [HE.out, HO.out]; cases ok <;> rfl, HB3.out⟩
end Go.Proofs.YtjeclmbableacaaDoor
