/-
  OWN WORK. The roots that a proof of growth comes to: the document's, by its contract.
-/
import Derived.Test.YtjeclmbableacaaDoorMkLen
namespace Go.Proofs.YtjeclmbableacaaDoor
open Go.RowKit Rc

set_option maxHeartbeats 8000000 in
set_option maxRecDepth 100000 in
theorem rBoth (N : Nat) : ∀ (w : World) (x : List UInt8) (A : Option Addr) (c m n : Nat) (P : List (List UInt8)) (B : Option Addr) (d : Nat) (whole : Bool), n = N → 1 ≤ m → m ≤ n → n ≤ 1000000 → Rd w A x → x.length ≤ c → x.length ≤ 1000000 → RdL w B P → P.length ≤ d → Small P → KR w → Calls Tryd.prog 40 #[.slice A x.length c, .int .i64 (m : Nat), .int .i64 (n : Nat), .slice B P.length d, .bool whole] w (BAns (Mk.both Sh.sum x m n P whole) w) := by
  induction N using Nat.strongRecOn with
  | _ N ih =>
  intro w x A c m n P B d whole hN h1 hm hn hr hc hx hr2 hd hs hk
  subst hN
  have IH := Lib.hid ih
  have HR : Hid (Rd w A x) := hr
  have HR2 : Hid (RdL w B P) := hr2
  have HS := Lib.hid hs
  have HK : Hid (KR w) := hk
  have hlen := HS.out.len
  clear ih hr hr2 hs hk
  by_cases hmn : m = n
  · have HE := Lib.hid (Mk.both_all Sh.sum x m n P whole hmn)
    subst hmn
    cases whole with
    | true =>
      by_cases hp : P.length = 0
      · have hp2 : Hid (P = []) := List.eq_nil_of_length_eq_zero hp
        rw [hp]
        clear hp hlen hd
        go_enter Tryd.func40, Tryd.ntmps40
        go_wp2_with fail
        go_ret3
        exact ⟨x, A, c, x, A, c, true, rfl, hc, hx, HR.out, hc, hx, HR.out, by rw [HE.out, if_pos hp2.out]; rfl, Below.refl _ _⟩
      · have hp2 : Hid (P ≠ []) := fun h => hp (by rw [h]; rfl)
        have hp3 : ((P.length : Int) == 0) = false := beq_eq_false_iff_ne.2 (by omega)
        go_enter Tryd.func40, Tryd.ntmps40
        go_wp2_with fail
        go_ret3
        exact ⟨x, A, c, x, A, c, false, rfl, hc, hx, HR.out, hc, hx, HR.out, by rw [HE.out, if_neg hp2.out]; rfl, Below.refl _ _⟩
    | false =>
      by_cases hp : P.length = 1
      · obtain ⟨u, rfl⟩ := List.length_eq_one_iff.1 hp
        obtain ⟨b, off, u', A2, c2, rfl, hu, hcell, hc2, hru⟩ := HR2.out.at_ 0 (by simp)
        obtain rfl : u = u' := by simpa using hu
        rw [Nat.add_zero] at hcell
        have HRU := Lib.hid hru
        have hul := HS.out.each u (by simp)
        have HBL : Hid (b < w.heap.size) := World.block_lt_of_cell? w ⟨b, _, none⟩ hcell
        clear hru hu hp
        show Calls _ _ #[_, _, _, .slice (some ⟨b, off, none⟩) 1 d, _] _ _
        go_enter Tryd.func40, Tryd.ntmps40
        go_wp2_with fail
        go_upto_region 6 with (fail)
        refine Rc.wp_region (by kernel_rfl) (fun opn => List.getD [Rc.val (.slice (some ⟨b, off, none⟩) 1 d), Rc.val (.pointer (some ⟨b, off, none⟩)), Rc.val (.slice A2 u.length c2), Rc.val (.slice (some ⟨b, off, none⟩) 1 d), Rc.val (.pointer (some ⟨b, off, none⟩)), Rc.val (.slice A2 u.length c2), Rc.val (.slice A2 u.length c2), Rc.val (.slice A2 u.length c2), Rc.val (.bool true)] opn Rc.any) 0 [] [[], [(0, 33)], [(1, 34)], [], [(3, 36)], [(4, 37)], [(2, 35)], [(5, 38)], []] [[], [0], [0, 1], [], [3], [3, 4], [0, 1, 2], [0, 1, 2, 3, 4, 5, 6], [0, 1, 2, 3, 4, 5, 6, 7]] [[], [0], [1], [], [3], [4], [2], [5], []] [] (by kernel_rfl) (by rfl) (by kernel_rfl) (fun _ => False) (fun _ _ => False) Rc.Inv.none ?_ ?_
        · intro fr ha
          have hz : fr.tmps.size = 96 := by rw [ha]; rfl
          have y3 : fr.eval (.tmp 3) = .slice (some ⟨b, off, none⟩) 1 d := by rw [ha]; rfl
          clear ha
          refine .cons ?_ (.cons ?_ (.cons ?_ (.cons ?_ (.cons ?_ (.cons ?_ (.cons ?_ (.cons ?_ (.cons ?_ (.nil)))))))))
          · intro V S w2 HM HU HE
            have lw : Below w.heap.size w w2 := Rc.Mod.below HM (fun _ h => h.elim)
            have tb3 : (Rg.putUse V [] fr).eval (.tmp 3) = .slice (some ⟨b, off, none⟩) 1 d := (Rg.use_eval V fr 3 [] (by simp only [hz]; decide)).trans y3
            show Rg.Does1 _ _ V (Rg.putUse V [] fr) w2 _
            exact Ob.rc_mv (.slice (some ⟨b, off, none⟩) 1 d) (by simp only [execOp, tb3]; go_simp) rfl rfl True.intro
          · intro V S w2 HM HU HE
            have lw : Below w.heap.size w w2 := Rc.Mod.below HM (fun _ h => h.elim)
            have h0 : V 0 = .slice (some ⟨b, off, none⟩) 1 d := HU.holds 0 (by decide)
            have tb33 : (Rg.putUse V [(0, 33)] fr).eval (.tmp 33) = .slice (some ⟨b, off, none⟩) 1 d := (Rg.use_eval V fr 33 [(0, 33)] (by simp only [hz]; decide)).trans h0
            show Rg.Does1 _ _ V (Rg.putUse V [(0, 33)] fr) w2 _
            exact Ob.rc_mv (.pointer (some ⟨b, off, none⟩)) (by simp only [execOp, tb33]; go_simp) rfl rfl True.intro
          · intro V S w2 HM HU HE
            have lw : Below w.heap.size w w2 := Rc.Mod.below HM (fun _ h => h.elim)
            have h1 : V 1 = .pointer (some ⟨b, off, none⟩) := HU.holds 1 (by decide)
            have tb34 : (Rg.putUse V [(1, 34)] fr).eval (.tmp 34) = .pointer (some ⟨b, off, none⟩) := (Rg.use_eval V fr 34 [(1, 34)] (by simp only [hz]; decide)).trans h1
            show Rg.Does1 _ _ V (Rg.putUse V [(1, 34)] fr) w2 _
            have cu := (lw.cell (p := ⟨b, off, none⟩) HBL.out).trans hcell
            exact Ob.rc_mv (.slice A2 u.length c2) (by simp only [execOp, tb34]; go_simp) rfl rfl True.intro
          · intro V S w2 HM HU HE
            have lw : Below w.heap.size w w2 := Rc.Mod.below HM (fun _ h => h.elim)
            have tb3 : (Rg.putUse V [] fr).eval (.tmp 3) = .slice (some ⟨b, off, none⟩) 1 d := (Rg.use_eval V fr 3 [] (by simp only [hz]; decide)).trans y3
            show Rg.Does1 _ _ V (Rg.putUse V [] fr) w2 _
            exact Ob.rc_mv (.slice (some ⟨b, off, none⟩) 1 d) (by simp only [execOp, tb3]; go_simp) rfl rfl True.intro
          · intro V S w2 HM HU HE
            have lw : Below w.heap.size w w2 := Rc.Mod.below HM (fun _ h => h.elim)
            have h3 : V 3 = .slice (some ⟨b, off, none⟩) 1 d := HU.holds 3 (by decide)
            have tb36 : (Rg.putUse V [(3, 36)] fr).eval (.tmp 36) = .slice (some ⟨b, off, none⟩) 1 d := (Rg.use_eval V fr 36 [(3, 36)] (by simp only [hz]; decide)).trans h3
            show Rg.Does1 _ _ V (Rg.putUse V [(3, 36)] fr) w2 _
            exact Ob.rc_mv (.pointer (some ⟨b, off, none⟩)) (by simp only [execOp, tb36]; go_simp) rfl rfl True.intro
          · intro V S w2 HM HU HE
            have lw : Below w.heap.size w w2 := Rc.Mod.below HM (fun _ h => h.elim)
            have h4 : V 4 = .pointer (some ⟨b, off, none⟩) := HU.holds 4 (by decide)
            have tb37 : (Rg.putUse V [(4, 37)] fr).eval (.tmp 37) = .pointer (some ⟨b, off, none⟩) := (Rg.use_eval V fr 37 [(4, 37)] (by simp only [hz]; decide)).trans h4
            show Rg.Does1 _ _ V (Rg.putUse V [(4, 37)] fr) w2 _
            have cu := (lw.cell (p := ⟨b, off, none⟩) HBL.out).trans hcell
            exact Ob.rc_mv (.slice A2 u.length c2) (by simp only [execOp, tb37]; go_simp) rfl rfl True.intro
          · intro V S w2 HM HU HE
            have lw : Below w.heap.size w w2 := Rc.Mod.below HM (fun _ h => h.elim)
            have h2 : V 2 = .slice A2 u.length c2 := HU.holds 2 (by decide)
            have tb35 : (Rg.putUse V [(2, 35)] fr).eval (.tmp 35) = .slice A2 u.length c2 := (Rg.use_eval V fr 35 [(2, 35)] (by simp only [hz]; decide)).trans h2
            show Rg.Does1 _ _ V (Rg.putUse V [(2, 35)] fr) w2 _
            exact Ob.rc_mv (.slice A2 u.length c2) (by simp only [execOp, tb35]; go_simp) rfl rfl True.intro
          · intro V S w2 HM HU HE
            have lw : Below w.heap.size w w2 := Rc.Mod.below HM (fun _ h => h.elim)
            have h5 : V 5 = .slice A2 u.length c2 := HU.holds 5 (by decide)
            have tb38 : (Rg.putUse V [(5, 38)] fr).eval (.tmp 38) = .slice A2 u.length c2 := (Rg.use_eval V fr 38 [(5, 38)] (by simp only [hz]; decide)).trans h5
            show Rg.Does1 _ _ V (Rg.putUse V [(5, 38)] fr) w2 _
            exact Ob.rc_mv (.slice A2 u.length c2) (by simp only [execOp, tb38]; go_simp) rfl rfl True.intro
          · intro V S w2 HM HU HE
            have lw : Below w.heap.size w w2 := Rc.Mod.below HM (fun _ h => h.elim)
            show Rg.Does1 _ _ V (Rg.putUse V [] fr) w2 _
            exact Ob.rc_mv (.bool true) (by simp only [execOp]; go_simp) rfl rfl True.intro
        · intro V S w2 HI
          have HL2 : Hid (Below w.heap.size w w2) := Rc.Mod.below HI.mod.undrew (fun _ h => h.elim)
          have hw6 : V 6 = .slice A2 u.length c2 := HI.get 6 (by decide) (by rfl)
          have hw7 : V 7 = .slice A2 u.length c2 := HI.get 7 (by decide) (by rfl)
          have hw8 : V 8 = .bool true := HI.get 8 (by decide) (by rfl)
          simp only [Rg.putList, Act.put, List.setIfInBounds_toArray, List.set_cons_zero, List.set_cons_succ, Nat.zero_add, Nat.reduceAdd]
          rw [hw6, hw7, hw8]
          clear HI hw6 hw7 hw8
          go_wp2_with fail
          go_ret3
          exact ⟨u, A2, c2, u, A2, c2, true, rfl, hc2, hul, HRU.out.below HL2.out, hc2, hul, HRU.out.below HL2.out, by rw [HE.out]; rfl, HL2.out⟩
      · have hs1 : Hid (Mk.single P = none) := single_none hp
        have hp3 : ((P.length : Int) == 1) = false := beq_eq_false_iff_ne.2 (by omega)
        go_enter Tryd.func40, Tryd.ntmps40
        go_wp2_with fail
        go_ret3
        exact ⟨[], none, 0, [], none, 0, false, rfl, Nat.le_refl _, by simp, Rd.nil _ _, Nat.le_refl _, by simp, Rd.nil _ _, by rw [HE.out]; exact hs1.out, Below.refl _ _⟩
  · have h2 : 2 ≤ n := by omega
    by_cases hp : P.length = 0
    · have HE : Hid (Mk.both Sh.sum x m n P whole = none) := by rw [List.eq_nil_of_length_eq_zero hp]; exact Mk.both_none Sh.sum x m n whole h2 hmn
      rw [hp]
      clear hp hlen hd
      go_enter Tryd.func40, Tryd.ntmps40
      go_wp2_with fail
      go_ret3
      exact ⟨[], none, 0, [], none, 0, false, rfl, Nat.le_refl _, by simp, Rd.nil _ _, Nat.le_refl _, by simp, Rd.nil _ _, HE.out, Below.refl _ _⟩
    · skip
      obtain ⟨b, off, u, A2, c2, rfl, hu, hcell, hc2, hru⟩ := HR2.out.at_ (P.length - 1) (by omega)
      have S1 := fun W => rows_h W (some ⟨b, off, none⟩) P d (P.length - 1) (Nat.sub_le _ _) hd
      have hPQ := last_of hu
      have RQ : Hid (RdL w (some ⟨b, off, none⟩) (P.take (P.length - 1))) := HR2.out.take _
      have MQ := Lib.hid (HS.out.take (P.length - 1))
      have hul := HS.out.at_ hu
      have hQl : (P.take (P.length - 1)).length = P.length - 1 := by rw [List.length_take]; omega
      have HBL : Hid (b < w.heap.size) := World.block_lt_of_cell? w ⟨b, _, none⟩ hcell
      obtain ⟨Q, hQ⟩ : ∃ Q, Q = P.take (P.length - 1) := ⟨_, rfl⟩
      rw [← hQ] at S1 hPQ RQ MQ hQl
      obtain ⟨k, hk⟩ : ∃ k, k = P.length - 1 := ⟨_, rfl⟩
      have hPl : P.length = k + 1 := by omega
      rw [← hk] at hcell hQl
      rw [← hk, hPl] at S1
      have HPE := Lib.hid hPQ
      have HQL := Lib.hid hQl
      have HRU := Lib.hid hru
      rw [hPl]
      have hQd : Q.length ≤ d := by omega
      have hmb : k ≤ 1000000 := by omega
      clear hk hQ hPQ hQl hru hu hp hd
      have hq1 := Mk.part_lt n h2
      have hq2 := Mk.part_pos n h2
      have HP : Hid (∀ W, Calls Tryd.prog 31 #[.int .i64 (n : Nat)] W fun e w' => e = .returned (.int .i64 (Mk.part n : Nat)) ∧ W = w') := fun W => rPart W n h2 hn
      by_cases hmk : m ≤ Mk.part n
      · have HE := Lib.hid (Mk.both_left Sh.sum x m n Q u whole h2 hmn hmk)
        rw [← HPE.out] at HE
        obtain ⟨q, hq⟩ : ∃ q, q = Mk.part n := ⟨_, rfl⟩
        rw [← hq] at hq1 hq2 HP HE hmk
        clear hPl HPE hq
        go_enter Tryd.func40, Tryd.ntmps40
        go_wp2_with fail
        refine (HP.out _).mono ?_
        rintro e w1 ⟨rfl, rfl⟩
        go_wp2_with fail
        refine (IH.out q hq1 w x A c m q Q (some ⟨b, off, none⟩) d whole rfl h1 hmk (by omega) HR.out hc hx RQ.out hQd MQ.out HK.out).mono ?_
        rintro e w3 ⟨X, AX, cX, Y, AY, cY, ok, rfl, hXc, hXl, hXr, hYc, hYl, hYr, hXo, hb⟩
        have HX := Lib.hid hXr
        have HY := Lib.hid hYr
        have HO := Lib.hid hXo
        have HB : Hid (Below w.heap.size w w3) := hb
        clear hXr hYr hXo hb
        go_wp2_with fail
        refine (rPair w3 Y u AY A2 cY c2 HY.out hYc (HRU.out.below HB.out) hc2 (HK.out.later HB.out) hYl hul).mono ?_
        rintro e w4 ⟨v, rfl, ⟨Z, cZ, rfl, hZc, hZr, _⟩, hb⟩
        have HZ := Lib.hid hZr
        have HX2 : Hid (Rd w4 AX X) := HX.out.below hb
        have HB2 : Hid (Below w.heap.size w w4) := HB.out.trans (hb.mono HB.out.size)
        clear hZr hb
        go_wp2_with fail
        go_ret3
        exact ⟨X, AX, cX, _, Z, cZ, ok, rfl, hXc, hXl, HX2.out, hZc, by rw [pair_length]; omega, HZ.out, by rw [HE.out, HO.out]; cases ok <;> rfl, HB2.out⟩
      · have HE := Lib.hid (Mk.both_right Sh.sum x m n Q u whole h2 hmn hmk)
        rw [← HPE.out] at HE
        obtain ⟨q, hq⟩ : ∃ q, q = Mk.part n := ⟨_, rfl⟩
        rw [← hq] at hq1 hq2 HP HE hmk
        clear hPl HPE hq
        obtain ⟨j, rfl⟩ : ∃ j, m = q + j := ⟨m - q, by omega⟩
        rw [Nat.add_sub_cancel_left] at HE
        obtain ⟨r, rfl⟩ : ∃ r, n = q + r := ⟨n - q, by omega⟩
        rw [Nat.add_sub_cancel_left] at HE
        go_enter Tryd.func40, Tryd.ntmps40
        go_wp2_with fail
        refine (HP.out _).mono ?_
        rintro e w1 ⟨rfl, rfl⟩
        go_wp2_with fail
        rw [show ((q : Nat) : Int) + ((j : Nat) : Int) - ((q : Nat) : Int) = ((j : Nat) : Int) by omega, show ((q : Nat) : Int) + ((r : Nat) : Int) - ((q : Nat) : Int) = ((r : Nat) : Int) by omega]
        refine (IH.out r (by omega) w x A c j r Q (some ⟨b, off, none⟩) d false rfl (by omega) (by omega) (by omega) HR.out hc hx RQ.out hQd MQ.out HK.out).mono ?_
        rintro e w3 ⟨X, AX, cX, Y, AY, cY, ok, rfl, hXc, hXl, hXr, hYc, hYl, hYr, hXo, hb⟩
        have HX := Lib.hid hXr
        have HY := Lib.hid hYr
        have HO := Lib.hid hXo
        have HB : Hid (Below w.heap.size w w3) := hb
        clear hXr hYr hXo hb
        go_wp2_with fail
        refine (rPair w3 u X A2 AX c2 cX (HRU.out.below HB.out) hc2 HX.out hXc (HK.out.later HB.out) hul hXl).mono ?_
        rintro e w4 ⟨v, rfl, ⟨Z, cZ, rfl, hZc, hZr, _⟩, hb⟩
        have HZ := Lib.hid hZr
        have HY2 : Hid (Rd w4 AY Y) := HY.out.below hb
        have HB2 : Hid (Below w.heap.size w w4) := HB.out.trans (hb.mono HB.out.size)
        clear hZr hb
        go_wp2_with fail
        refine (rPair w4 u Y A2 AY c2 cY (HRU.out.below HB2.out) hc2 HY2.out hYc (HK.out.later HB2.out) hul hYl).mono ?_
        rintro e w5 ⟨v, rfl, ⟨T, cT, rfl, hTc, hTr, _⟩, hb⟩
        have HT := Lib.hid hTr
        have HZ2 : Hid (Rd w5 Z _) := HZ.out.below hb
        have HB3 : Hid (Below w.heap.size w w5) := HB2.out.trans (hb.mono HB2.out.size)
        clear hTr hb
        go_wp2_with fail
        go_ret3
        exact ⟨_, Z, cZ, _, T, cT, ok, rfl, hZc, by rw [pair_length]; omega, HZ2.out, hTc, by rw [pair_length]; omega, HT.out, by rw [HE.out, HO.out]; cases ok <;> rfl, HB3.out⟩
end Go.Proofs.YtjeclmbableacaaDoor
