/-
  OWN WORK. Law 4's get, walked, given what the program's own reader does.
-/
import Derived.Test.YtpnnikifaalkoaaCoGetA
namespace Go.Proofs.Ytpnnikifaalkoaa
open Go.RowKit Rc

set_option maxHeartbeats 4000000 in
set_option maxRecDepth 100000 in
theorem get_any (C : RSaid codecFns) (v vr : Value) (A1 A2 : Option Addr) (L : List UInt8) (W0 : World) (X0 : Nat → Prop) (s : Co.Rs) (B1 B2 : Nat → Prop) (w : World) (h : Two C v vr A1 A2 L W0 X0 s s B1 B2 w)
    (kd : Int) (N : Nat) (hN : N ≤ 18446744073709551615) (AX : Option Addr) (nx cx : Nat) :
    Calls Try.prog 9 #[v, vr, .agg #[.int .i64 kd, .int .u64 (N : Nat), .slice AX nx cx]] w (GetOut C v vr A1 A2 L W0 X0) := by
  have HT := Lib.hid (h.below (below_new w (.cells #[Value.int .i64 kd, Value.int .u64 (N : Nat), Value.slice AX nx cx] 32)))
  obtain ⟨m, hm⟩ : ∃ m : Nat, m = N % 20 := ⟨_, rfl⟩
  have hm2 : ((N : Nat) : Int) % 20 = ((m : Nat) : Int) := by omega
  have hm3 : m < 20 := by omega
  clear h hm
  go_enter Try.func9, Try.ntmps9
  by_cases h1 : kd = 1
  · subst h1
    go_wp2_with fail
    refine (C.byte HT.out.at1 HT.out.r1 HT.out.a1).mono ?_
    rintro e w1 ⟨rfl, B1', hat, hm, hs⟩
    have HT1 := Lib.hid (HT.out.step1 hat hm hs)
    clear hat hm hs
    obtain ⟨x, hx⟩ : ∃ x, x = (Co.num 1 s).1 := ⟨_, rfl⟩
    rw [← hx]
    have HX := Lib.hid hx
    clear hx
    go_wp2_with fail
    refine (refSaid.byte HT1.out.at2 HT1.out.r2 HT1.out.a2).mono ?_
    rintro e w2 ⟨rfl, B2', hat, hm, hs⟩
    have HT2 := Lib.hid (HT1.out.step2 hat hm hs)
    clear hat hm hs
    rw [← HX.out]
    go_wp2_with fail
    refine (C.left HT2.out.at1 HT2.out.r1 HT2.out.a1).mono ?_
    rintro e w3 ⟨rfl, hb⟩
    have HT3 := Lib.hid (HT2.out.below hb)
    clear hb
    obtain ⟨y, hy⟩ : ∃ y, y = Co.left (Co.num 1 s).2 := ⟨_, rfl⟩
    rw [← hy]
    have HY := Lib.hid hy
    clear hy
    go_wp2_with fail
    refine (refSaid.left HT3.out.at2 HT3.out.r2 HT3.out.a2).mono ?_
    rintro e w4 ⟨rfl, hb⟩
    have HT4 := Lib.hid (HT3.out.below hb)
    clear hb
    rw [← HY.out]
    go_wp2_with fail
    refine (C.fin HT4.out.at1 HT4.out.r1 HT4.out.a1).mono ?_
    rintro e w5 ⟨rfl, hb⟩
    have HT5 := Lib.hid (HT4.out.below hb)
    clear hb
    obtain ⟨z, hz⟩ : ∃ z, z = Co.fin (Co.num 1 s).2 := ⟨_, rfl⟩
    rw [← hz]
    have HZ := Lib.hid hz
    clear hz
    go_wp2_with fail
    refine (refSaid.fin HT5.out.at2 HT5.out.r2 HT5.out.a2).mono ?_
    rintro e w6 ⟨rfl, hb⟩
    have HT6 := Lib.hid (HT5.out.below hb)
    clear hb
    rw [← HZ.out]
    go_wp2_with fail
    go_ret
    exact ⟨rfl, _, _, _, HT6.out⟩
  · have e1 : (kd == 1) = false := by simpa using h1
    clear h1
    by_cases h2 : kd = 2
    · subst h2
      go_wp2_with fail
      refine (C.short HT.out.at1 HT.out.r1 HT.out.a1).mono ?_
      rintro e w1 ⟨rfl, B1', hat, hm, hs⟩
      have HT1 := Lib.hid (HT.out.step1 hat hm hs)
      clear hat hm hs
      obtain ⟨x, hx⟩ : ∃ x, x = (Co.num 2 s).1 := ⟨_, rfl⟩
      rw [← hx]
      have HX := Lib.hid hx
      clear hx
      go_wp2_with fail
      refine (refSaid.short HT1.out.at2 HT1.out.r2 HT1.out.a2).mono ?_
      rintro e w2 ⟨rfl, B2', hat, hm, hs⟩
      have HT2 := Lib.hid (HT1.out.step2 hat hm hs)
      clear hat hm hs
      rw [← HX.out]
      go_wp2_with fail
      refine (C.left HT2.out.at1 HT2.out.r1 HT2.out.a1).mono ?_
      rintro e w3 ⟨rfl, hb⟩
      have HT3 := Lib.hid (HT2.out.below hb)
      clear hb
      obtain ⟨y, hy⟩ : ∃ y, y = Co.left (Co.num 2 s).2 := ⟨_, rfl⟩
      rw [← hy]
      have HY := Lib.hid hy
      clear hy
      go_wp2_with fail
      refine (refSaid.left HT3.out.at2 HT3.out.r2 HT3.out.a2).mono ?_
      rintro e w4 ⟨rfl, hb⟩
      have HT4 := Lib.hid (HT3.out.below hb)
      clear hb
      rw [← HY.out]
      go_wp2_with fail
      refine (C.fin HT4.out.at1 HT4.out.r1 HT4.out.a1).mono ?_
      rintro e w5 ⟨rfl, hb⟩
      have HT5 := Lib.hid (HT4.out.below hb)
      clear hb
      obtain ⟨z, hz⟩ : ∃ z, z = Co.fin (Co.num 2 s).2 := ⟨_, rfl⟩
      rw [← hz]
      have HZ := Lib.hid hz
      clear hz
      go_wp2_with fail
      refine (refSaid.fin HT5.out.at2 HT5.out.r2 HT5.out.a2).mono ?_
      rintro e w6 ⟨rfl, hb⟩
      have HT6 := Lib.hid (HT5.out.below hb)
      clear hb
      rw [← HZ.out]
      go_wp2_with fail
      go_ret
      exact ⟨rfl, _, _, _, HT6.out⟩
    · have e2 : (kd == 2) = false := by simpa using h2
      clear h2
      by_cases h3 : kd = 3
      · subst h3
        go_wp2_with fail
        refine (C.long HT.out.at1 HT.out.r1 HT.out.a1).mono ?_
        rintro e w1 ⟨rfl, B1', hat, hm, hs⟩
        have HT1 := Lib.hid (HT.out.step1 hat hm hs)
        clear hat hm hs
        obtain ⟨x, hx⟩ : ∃ x, x = (Co.num 8 s).1 := ⟨_, rfl⟩
        rw [← hx]
        have HX := Lib.hid hx
        clear hx
        go_wp2_with fail
        refine (refSaid.long HT1.out.at2 HT1.out.r2 HT1.out.a2).mono ?_
        rintro e w2 ⟨rfl, B2', hat, hm, hs⟩
        have HT2 := Lib.hid (HT1.out.step2 hat hm hs)
        clear hat hm hs
        rw [← HX.out]
        go_wp2_with fail
        refine (C.left HT2.out.at1 HT2.out.r1 HT2.out.a1).mono ?_
        rintro e w3 ⟨rfl, hb⟩
        have HT3 := Lib.hid (HT2.out.below hb)
        clear hb
        obtain ⟨y, hy⟩ : ∃ y, y = Co.left (Co.num 8 s).2 := ⟨_, rfl⟩
        rw [← hy]
        have HY := Lib.hid hy
        clear hy
        go_wp2_with fail
        refine (refSaid.left HT3.out.at2 HT3.out.r2 HT3.out.a2).mono ?_
        rintro e w4 ⟨rfl, hb⟩
        have HT4 := Lib.hid (HT3.out.below hb)
        clear hb
        rw [← HY.out]
        go_wp2_with fail
        refine (C.fin HT4.out.at1 HT4.out.r1 HT4.out.a1).mono ?_
        rintro e w5 ⟨rfl, hb⟩
        have HT5 := Lib.hid (HT4.out.below hb)
        clear hb
        obtain ⟨z, hz⟩ : ∃ z, z = Co.fin (Co.num 8 s).2 := ⟨_, rfl⟩
        rw [← hz]
        have HZ := Lib.hid hz
        clear hz
        go_wp2_with fail
        refine (refSaid.fin HT5.out.at2 HT5.out.r2 HT5.out.a2).mono ?_
        rintro e w6 ⟨rfl, hb⟩
        have HT6 := Lib.hid (HT5.out.below hb)
        clear hb
        rw [← HZ.out]
        go_wp2_with fail
        go_ret
        exact ⟨rfl, _, _, _, HT6.out⟩
      · have e3 : (kd == 3) = false := by simpa using h3
        clear h3
        by_cases h4 : kd = 4
        · subst h4
          go_wp2_with fail
          refine (C.flag HT.out.at1 HT.out.r1 HT.out.a1).mono ?_
          rintro e w1 ⟨rfl, B1', hat, hm, hs⟩
          have HT1 := Lib.hid (HT.out.step1 hat hm hs)
          clear hat hm hs
          obtain ⟨x, hx⟩ : ∃ x, x = (Co.flag s).1 := ⟨_, rfl⟩
          rw [← hx]
          have HX := Lib.hid hx
          clear hx
          go_wp2_with fail
          refine (refSaid.flag HT1.out.at2 HT1.out.r2 HT1.out.a2).mono ?_
          rintro e w2 ⟨rfl, B2', hat, hm, hs⟩
          have HT2 := Lib.hid (HT1.out.step2 hat hm hs)
          clear hat hm hs
          rw [← HX.out]
          go_wp2_with fail
          refine (C.left HT2.out.at1 HT2.out.r1 HT2.out.a1).mono ?_
          rintro e w3 ⟨rfl, hb⟩
          have HT3 := Lib.hid (HT2.out.below hb)
          clear hb
          obtain ⟨y, hy⟩ : ∃ y, y = Co.left (Co.flag s).2 := ⟨_, rfl⟩
          rw [← hy]
          have HY := Lib.hid hy
          clear hy
          go_wp2_with fail
          refine (refSaid.left HT3.out.at2 HT3.out.r2 HT3.out.a2).mono ?_
          rintro e w4 ⟨rfl, hb⟩
          have HT4 := Lib.hid (HT3.out.below hb)
          clear hb
          rw [← HY.out]
          go_wp2_with fail
          refine (C.fin HT4.out.at1 HT4.out.r1 HT4.out.a1).mono ?_
          rintro e w5 ⟨rfl, hb⟩
          have HT5 := Lib.hid (HT4.out.below hb)
          clear hb
          obtain ⟨z, hz⟩ : ∃ z, z = Co.fin (Co.flag s).2 := ⟨_, rfl⟩
          rw [← hz]
          have HZ := Lib.hid hz
          clear hz
          go_wp2_with fail
          refine (refSaid.fin HT5.out.at2 HT5.out.r2 HT5.out.a2).mono ?_
          rintro e w6 ⟨rfl, hb⟩
          have HT6 := Lib.hid (HT5.out.below hb)
          clear hb
          rw [← HZ.out]
          go_wp2_with fail
          go_ret
          exact ⟨rfl, _, _, _, HT6.out⟩
        · have e4 : (kd == 4) = false := by simpa using h4
          clear h4
          by_cases h5 : kd = 5
          · subst h5
            go_upto_region 14 with (fail)
            refine Rc.wp_region (by kernel_rfl) (fun opn => List.getD [Rc.val (v), C.row v A1 L (Co.bytes s), Rc.val (.string (strOf (Co.bytes s).1)), Rc.val (vr), refSaid.row vr A2 L (Co.bytes s), Rc.val (.string (strOf (Co.bytes s).1)), Rc.val (.bool true), Rc.val (.bool true), C.obj v A1 L s B1, refSaid.obj vr A2 L s B2] opn Rc.any) 2 [] [[], [(0, 55)], [(1, 56)], [], [(3, 58)], [(4, 59)], [(2, 57), (5, 60)], [(6, 61)]] [[], [0], [1], [], [3], [4], [2, 5], [6]] [[], [0, 8], [1], [], [3, 9], [4], [2, 5], [6]] [(1, 8), (4, 9)] (by kernel_rfl) (by rfl) (by kernel_rfl) (fun b => B1 b ∨ B2 b) (fun i b => if i = 8 then B1 b else B2 b) (HT.out.inv _ _ 8 rfl rfl) ?_ ?_
            · intro fr ha
              have hz : fr.tmps.size = 77 := by rw [ha]; rfl
              have y0 : fr.eval (.tmp 0) = v := by rw [ha]; rfl
              have y1 : fr.eval (.tmp 1) = vr := by rw [ha]; rfl
              clear ha
              refine .cons ?_ (.cons ?_ (.cons ?_ (.cons ?_ (.cons ?_ (.cons ?_ (.cons ?_ (.cons ?_ (.nil))))))))
              · intro V S w2 HM HU HE
                have tb0 : (Rg.putUse V [] fr).eval (.tmp 0) = v := (Rg.use_eval V fr 0 [] (by simp only [hz]; decide)).trans y0
                show Rg.Does1 _ _ V (Rg.putUse V [] fr) w2 _
                exact rc_mv (v) (by simp only [execOp, tb0]; go_simp) rfl rfl True.intro
              · intro V S w2 HM HU HE
                have h0 : V 0 = v := HU.holds 0 (by decide)
                have tb55 : (Rg.putUse V [(0, 55)] fr).eval (.tmp 55) = v := (Rg.use_eval V fr 55 [(0, 55)] (by simp only [hz]; decide)).trans h0
                show Rg.Does1 _ _ V (Rg.putUse V [(0, 55)] fr) w2 _
                exact step_read C #[v] (fun args w => Rg.call_enter Try.func28 (by kernel_rfl) (by kernel_rfl) args w) rfl (by simp only [List.map_toArray, List.map_cons, List.map_nil, tb55]) rfl (by decide) (fun k hk => by simp at hk; exact hk) (HU.holds 8 (by decide)) (fun x => Rg.alias_none rfl V x) True.intro (fun hat => C.bytes hat (HT.out.r1.mod HM HT.out.a12) HT.out.a1)
              · intro V S w2 HM HU HE
                obtain ⟨⟨X1, k1, e1, hc1, hw1⟩, _⟩ := HU.holds 1 (by decide)
                have tb56 : (Rg.putUse V [(1, 56)] fr).eval (.tmp 56) = .slice X1 ((Co.bytes s).1).length k1 := (Rg.use_eval V fr 56 [(1, 56)] (by simp only [hz]; decide)).trans e1
                show Rg.Does1 _ _ V (Rg.putUse V [(1, 56)] fr) w2 _
                exact rc_str ((Co.bytes s).1) rfl tb56 rfl (hw1.now (HT.out.r1.mod HM HT.out.a12)) rfl rfl True.intro
              · intro V S w2 HM HU HE
                have tb1 : (Rg.putUse V [] fr).eval (.tmp 1) = vr := (Rg.use_eval V fr 1 [] (by simp only [hz]; decide)).trans y1
                show Rg.Does1 _ _ V (Rg.putUse V [] fr) w2 _
                exact rc_mv (vr) (by simp only [execOp, tb1]; go_simp) rfl rfl True.intro
              · intro V S w2 HM HU HE
                have h3 : V 3 = vr := HU.holds 3 (by decide)
                have tb58 : (Rg.putUse V [(3, 58)] fr).eval (.tmp 58) = vr := (Rg.use_eval V fr 58 [(3, 58)] (by simp only [hz]; decide)).trans h3
                show Rg.Does1 _ _ V (Rg.putUse V [(3, 58)] fr) w2 _
                exact step_read refSaid #[vr] (fun args w => Rg.call_enter Try.func36 (by kernel_rfl) (by kernel_rfl) args w) rfl (by simp only [List.map_toArray, List.map_cons, List.map_nil, tb58]) rfl (by decide) (fun k hk => by simp at hk; exact hk) (HU.holds 9 (by decide)) (fun x => Rg.alias_none rfl V x) True.intro (fun hat => refSaid.bytes hat (HT.out.r2.mod HM HT.out.a21) HT.out.a2)
              · intro V S w2 HM HU HE
                obtain ⟨⟨X4, k4, e4, hc4, hw4⟩, _⟩ := HU.holds 4 (by decide)
                have tb59 : (Rg.putUse V [(4, 59)] fr).eval (.tmp 59) = .slice X4 ((Co.bytes s).1).length k4 := (Rg.use_eval V fr 59 [(4, 59)] (by simp only [hz]; decide)).trans e4
                show Rg.Does1 _ _ V (Rg.putUse V [(4, 59)] fr) w2 _
                exact rc_str ((Co.bytes s).1) rfl tb59 rfl (hw4.now (HT.out.r2.mod HM HT.out.a21)) rfl rfl True.intro
              · intro V S w2 HM HU HE
                have h2 : V 2 = .string (strOf (Co.bytes s).1) := HU.holds 2 (by decide)
                have tb57 : (Rg.putUse V [(2, 57), (5, 60)] fr).eval (.tmp 57) = .string (strOf (Co.bytes s).1) := (Rg.use_eval V fr 57 [(2, 57), (5, 60)] (by simp only [hz]; decide)).trans h2
                have h5 : V 5 = .string (strOf (Co.bytes s).1) := HU.holds 5 (by decide)
                have tb60 : (Rg.putUse V [(2, 57), (5, 60)] fr).eval (.tmp 60) = .string (strOf (Co.bytes s).1) := (Rg.use_eval V fr 60 [(2, 57), (5, 60)] (by simp only [hz]; decide)).trans h5
                show Rg.Does1 _ _ V (Rg.putUse V [(2, 57), (5, 60)] fr) w2 _
                exact rc_mv (.bool true) (by simp only [execOp, tb57, tb60]; go_simp) rfl rfl True.intro
              · intro V S w2 HM HU HE
                have h6 : V 6 = .bool true := HU.holds 6 (by decide)
                have tb61 : (Rg.putUse V [(6, 61)] fr).eval (.tmp 61) = .bool true := (Rg.use_eval V fr 61 [(6, 61)] (by simp only [hz]; decide)).trans h6
                show Rg.Does1 _ _ V (Rg.putUse V [(6, 61)] fr) w2 _
                exact rc_mv (.bool true) (by simp only [execOp, tb61]; go_simp) rfl rfl True.intro
            · intro V S w2 HI
              have hb : V 7 = .bool true := HI.get 7 (by decide) (by rfl)
              obtain ⟨_, S1, ha1, hs1⟩ := HI.get 1 (by decide) (by rfl)
              obtain ⟨_, S2, ha2, hs2⟩ := HI.get 4 (by decide) (by rfl)
              have live1 : Rc.Live [(1, 8), (4, 9)] (fun i => i < 10) 1 := ⟨by decide, fun k _ hk => by simp at hk⟩
              have live2 : Rc.Live [(1, 8), (4, 9)] (fun i => i < 10) 4 := ⟨by decide, fun k _ hk => by simp at hk⟩
              have HT2 := Lib.hid (HT.out.after HI.mod.undrew ha1 hs1 ha2 hs2 (fun b hb => (HI.lt _ b live1 hb).2) (fun b hb => (HI.lt _ b live2 hb).2) (fun b h1 h2 => HI.sep _ _ b live1 live2 (by decide) h1 h2))
              simp only [Rg.putList, Act.put, List.setIfInBounds_toArray, List.set_cons_zero, List.set_cons_succ, Nat.zero_add, Nat.reduceAdd]
              rw [hb]
              clear HI ha1 ha2 hs1 hs2 live1 live2 hb
              go_wp2_with fail
              refine (C.left HT2.out.at1 HT2.out.r1 HT2.out.a1).mono ?_
              rintro e w3 ⟨rfl, hb⟩
              have HT3 := Lib.hid (HT2.out.below hb)
              clear hb
              obtain ⟨y, hy⟩ : ∃ y, y = Co.left (Co.bytes s).2 := ⟨_, rfl⟩
              rw [← hy]
              have HY := Lib.hid hy
              clear hy
              go_wp2_with fail
              refine (refSaid.left HT3.out.at2 HT3.out.r2 HT3.out.a2).mono ?_
              rintro e w4 ⟨rfl, hb⟩
              have HT4 := Lib.hid (HT3.out.below hb)
              clear hb
              rw [← HY.out]
              go_wp2_with fail
              refine (C.fin HT4.out.at1 HT4.out.r1 HT4.out.a1).mono ?_
              rintro e w5 ⟨rfl, hb⟩
              have HT5 := Lib.hid (HT4.out.below hb)
              clear hb
              obtain ⟨z, hz⟩ : ∃ z, z = Co.fin (Co.bytes s).2 := ⟨_, rfl⟩
              rw [← hz]
              have HZ := Lib.hid hz
              clear hz
              go_wp2_with fail
              refine (refSaid.fin HT5.out.at2 HT5.out.r2 HT5.out.a2).mono ?_
              rintro e w6 ⟨rfl, hb⟩
              have HT6 := Lib.hid (HT5.out.below hb)
              clear hb
              rw [← HZ.out]
              go_wp2_with fail
              go_ret
              exact ⟨rfl, _, _, _, HT6.out⟩
          · have e5 : (kd == 5) = false := by simpa using h5
            clear h5
            go_upto_region 4 with (fail)
            refine Rc.wp_region (by kernel_rfl) (fun opn => List.getD [Rc.val (v), Rc.val (.int .i64 ((m : Int) - 2)), C.row v A1 L (Co.raw ((m : Int) - 2) s), Rc.val (.string (strOf (Co.raw ((m : Int) - 2) s).1)), Rc.val (vr), Rc.val (.int .i64 ((m : Int) - 2)), refSaid.row vr A2 L (Co.raw ((m : Int) - 2) s), Rc.val (.string (strOf (Co.raw ((m : Int) - 2) s).1)), Rc.val (.bool true), Rc.val (.bool true), C.obj v A1 L s B1, refSaid.obj vr A2 L s B2] opn Rc.any) 2 [] [[], [], [(0, 16), (1, 17)], [(2, 18)], [], [], [(4, 20), (5, 21)], [(6, 22)], [(3, 19), (7, 23)], [(8, 24)]] [[], [], [0, 1], [2], [], [], [4, 5], [6], [3, 7], [8]] [[], [], [0, 1, 10], [2], [], [], [4, 5, 11], [6], [3, 7], [8]] [(2, 10), (6, 11)] (by kernel_rfl) (by rfl) (by kernel_rfl) (fun b => B1 b ∨ B2 b) (fun i b => if i = 10 then B1 b else B2 b) (HT.out.inv _ _ 10 rfl rfl) ?_ ?_
            · intro fr ha
              have hz : fr.tmps.size = 77 := by rw [ha]; rfl
              have y0 : fr.eval (.tmp 0) = v := by rw [ha]; rfl
              have y1 : fr.eval (.tmp 1) = vr := by rw [ha]; rfl
              have y8 : fr.eval (.tmp 8) = .int .i64 ((m : Int) - 2) := by rw [ha]; rfl
              clear ha
              refine .cons ?_ (.cons ?_ (.cons ?_ (.cons ?_ (.cons ?_ (.cons ?_ (.cons ?_ (.cons ?_ (.cons ?_ (.cons ?_ (.nil))))))))))
              · intro V S w2 HM HU HE
                have tb0 : (Rg.putUse V [] fr).eval (.tmp 0) = v := (Rg.use_eval V fr 0 [] (by simp only [hz]; decide)).trans y0
                show Rg.Does1 _ _ V (Rg.putUse V [] fr) w2 _
                exact rc_mv (v) (by simp only [execOp, tb0]; go_simp) rfl rfl True.intro
              · intro V S w2 HM HU HE
                have tb8 : (Rg.putUse V [] fr).eval (.tmp 8) = .int .i64 ((m : Int) - 2) := (Rg.use_eval V fr 8 [] (by simp only [hz]; decide)).trans y8
                show Rg.Does1 _ _ V (Rg.putUse V [] fr) w2 _
                exact rc_mv (.int .i64 ((m : Int) - 2)) (by simp only [execOp, tb8]; go_simp) rfl rfl True.intro
              · intro V S w2 HM HU HE
                have h0 : V 0 = v := HU.holds 0 (by decide)
                have tb16 : (Rg.putUse V [(0, 16), (1, 17)] fr).eval (.tmp 16) = v := (Rg.use_eval V fr 16 [(0, 16), (1, 17)] (by simp only [hz]; decide)).trans h0
                have h1 : V 1 = .int .i64 ((m : Int) - 2) := HU.holds 1 (by decide)
                have tb17 : (Rg.putUse V [(0, 16), (1, 17)] fr).eval (.tmp 17) = .int .i64 ((m : Int) - 2) := (Rg.use_eval V fr 17 [(0, 16), (1, 17)] (by simp only [hz]; decide)).trans h1
                show Rg.Does1 _ _ V (Rg.putUse V [(0, 16), (1, 17)] fr) w2 _
                exact step_read C #[v, .int .i64 ((m : Int) - 2)] (fun args w => Rg.call_enter Try.func30 (by kernel_rfl) (by kernel_rfl) args w) rfl (by simp only [List.map_toArray, List.map_cons, List.map_nil, tb16, tb17]) rfl (by decide) (fun k hk => by simp at hk; exact hk) (HU.holds 10 (by decide)) (fun x => Rg.alias_none rfl V x) True.intro (fun hat => C.raw hat (HT.out.r1.mod HM HT.out.a12) HT.out.a1 ((m : Int) - 2) (by omega) (by omega))
              · intro V S w2 HM HU HE
                obtain ⟨⟨X2, k2, e2, hc2, hw2⟩, _⟩ := HU.holds 2 (by decide)
                have tb18 : (Rg.putUse V [(2, 18)] fr).eval (.tmp 18) = .slice X2 ((Co.raw ((m : Int) - 2) s).1).length k2 := (Rg.use_eval V fr 18 [(2, 18)] (by simp only [hz]; decide)).trans e2
                show Rg.Does1 _ _ V (Rg.putUse V [(2, 18)] fr) w2 _
                exact rc_str ((Co.raw ((m : Int) - 2) s).1) rfl tb18 rfl (hw2.now (HT.out.r1.mod HM HT.out.a12)) rfl rfl True.intro
              · intro V S w2 HM HU HE
                have tb1 : (Rg.putUse V [] fr).eval (.tmp 1) = vr := (Rg.use_eval V fr 1 [] (by simp only [hz]; decide)).trans y1
                show Rg.Does1 _ _ V (Rg.putUse V [] fr) w2 _
                exact rc_mv (vr) (by simp only [execOp, tb1]; go_simp) rfl rfl True.intro
              · intro V S w2 HM HU HE
                have tb8 : (Rg.putUse V [] fr).eval (.tmp 8) = .int .i64 ((m : Int) - 2) := (Rg.use_eval V fr 8 [] (by simp only [hz]; decide)).trans y8
                show Rg.Does1 _ _ V (Rg.putUse V [] fr) w2 _
                exact rc_mv (.int .i64 ((m : Int) - 2)) (by simp only [execOp, tb8]; go_simp) rfl rfl True.intro
              · intro V S w2 HM HU HE
                have h4 : V 4 = vr := HU.holds 4 (by decide)
                have tb20 : (Rg.putUse V [(4, 20), (5, 21)] fr).eval (.tmp 20) = vr := (Rg.use_eval V fr 20 [(4, 20), (5, 21)] (by simp only [hz]; decide)).trans h4
                have h5 : V 5 = .int .i64 ((m : Int) - 2) := HU.holds 5 (by decide)
                have tb21 : (Rg.putUse V [(4, 20), (5, 21)] fr).eval (.tmp 21) = .int .i64 ((m : Int) - 2) := (Rg.use_eval V fr 21 [(4, 20), (5, 21)] (by simp only [hz]; decide)).trans h5
                show Rg.Does1 _ _ V (Rg.putUse V [(4, 20), (5, 21)] fr) w2 _
                exact step_read refSaid #[vr, .int .i64 ((m : Int) - 2)] (fun args w => Rg.call_enter Try.func37 (by kernel_rfl) (by kernel_rfl) args w) rfl (by simp only [List.map_toArray, List.map_cons, List.map_nil, tb20, tb21]) rfl (by decide) (fun k hk => by simp at hk; exact hk) (HU.holds 11 (by decide)) (fun x => Rg.alias_none rfl V x) True.intro (fun hat => refSaid.raw hat (HT.out.r2.mod HM HT.out.a21) HT.out.a2 ((m : Int) - 2) (by omega) (by omega))
              · intro V S w2 HM HU HE
                obtain ⟨⟨X6, k6, e6, hc6, hw6⟩, _⟩ := HU.holds 6 (by decide)
                have tb22 : (Rg.putUse V [(6, 22)] fr).eval (.tmp 22) = .slice X6 ((Co.raw ((m : Int) - 2) s).1).length k6 := (Rg.use_eval V fr 22 [(6, 22)] (by simp only [hz]; decide)).trans e6
                show Rg.Does1 _ _ V (Rg.putUse V [(6, 22)] fr) w2 _
                exact rc_str ((Co.raw ((m : Int) - 2) s).1) rfl tb22 rfl (hw6.now (HT.out.r2.mod HM HT.out.a21)) rfl rfl True.intro
              · intro V S w2 HM HU HE
                have h3 : V 3 = .string (strOf (Co.raw ((m : Int) - 2) s).1) := HU.holds 3 (by decide)
                have tb19 : (Rg.putUse V [(3, 19), (7, 23)] fr).eval (.tmp 19) = .string (strOf (Co.raw ((m : Int) - 2) s).1) := (Rg.use_eval V fr 19 [(3, 19), (7, 23)] (by simp only [hz]; decide)).trans h3
                have h7 : V 7 = .string (strOf (Co.raw ((m : Int) - 2) s).1) := HU.holds 7 (by decide)
                have tb23 : (Rg.putUse V [(3, 19), (7, 23)] fr).eval (.tmp 23) = .string (strOf (Co.raw ((m : Int) - 2) s).1) := (Rg.use_eval V fr 23 [(3, 19), (7, 23)] (by simp only [hz]; decide)).trans h7
                show Rg.Does1 _ _ V (Rg.putUse V [(3, 19), (7, 23)] fr) w2 _
                exact rc_mv (.bool true) (by simp only [execOp, tb19, tb23]; go_simp) rfl rfl True.intro
              · intro V S w2 HM HU HE
                have h8 : V 8 = .bool true := HU.holds 8 (by decide)
                have tb24 : (Rg.putUse V [(8, 24)] fr).eval (.tmp 24) = .bool true := (Rg.use_eval V fr 24 [(8, 24)] (by simp only [hz]; decide)).trans h8
                show Rg.Does1 _ _ V (Rg.putUse V [(8, 24)] fr) w2 _
                exact rc_mv (.bool true) (by simp only [execOp, tb24]; go_simp) rfl rfl True.intro
            · intro V S w2 HI
              have hb : V 9 = .bool true := HI.get 9 (by decide) (by rfl)
              obtain ⟨_, S1, ha1, hs1⟩ := HI.get 2 (by decide) (by rfl)
              obtain ⟨_, S2, ha2, hs2⟩ := HI.get 6 (by decide) (by rfl)
              have live1 : Rc.Live [(2, 10), (6, 11)] (fun i => i < 12) 2 := ⟨by decide, fun k _ hk => by simp at hk⟩
              have live2 : Rc.Live [(2, 10), (6, 11)] (fun i => i < 12) 6 := ⟨by decide, fun k _ hk => by simp at hk⟩
              have HT2 := Lib.hid (HT.out.after HI.mod.undrew ha1 hs1 ha2 hs2 (fun b hb => (HI.lt _ b live1 hb).2) (fun b hb => (HI.lt _ b live2 hb).2) (fun b h1 h2 => HI.sep _ _ b live1 live2 (by decide) h1 h2))
              simp only [Rg.putList, Act.put, List.setIfInBounds_toArray, List.set_cons_zero, List.set_cons_succ, Nat.zero_add, Nat.reduceAdd]
              rw [hb]
              clear HI ha1 ha2 hs1 hs2 live1 live2 hb
              go_wp2_with fail
              refine (C.left HT2.out.at1 HT2.out.r1 HT2.out.a1).mono ?_
              rintro e w3 ⟨rfl, hb⟩
              have HT3 := Lib.hid (HT2.out.below hb)
              clear hb
              obtain ⟨y, hy⟩ : ∃ y, y = Co.left (Co.raw ((m : Int) - 2) s).2 := ⟨_, rfl⟩
              rw [← hy]
              have HY := Lib.hid hy
              clear hy
              go_wp2_with fail
              refine (refSaid.left HT3.out.at2 HT3.out.r2 HT3.out.a2).mono ?_
              rintro e w4 ⟨rfl, hb⟩
              have HT4 := Lib.hid (HT3.out.below hb)
              clear hb
              rw [← HY.out]
              go_wp2_with fail
              refine (C.fin HT4.out.at1 HT4.out.r1 HT4.out.a1).mono ?_
              rintro e w5 ⟨rfl, hb⟩
              have HT5 := Lib.hid (HT4.out.below hb)
              clear hb
              obtain ⟨z, hz⟩ : ∃ z, z = Co.fin (Co.raw ((m : Int) - 2) s).2 := ⟨_, rfl⟩
              rw [← hz]
              have HZ := Lib.hid hz
              clear hz
              go_wp2_with fail
              refine (refSaid.fin HT5.out.at2 HT5.out.r2 HT5.out.a2).mono ?_
              rintro e w6 ⟨rfl, hb⟩
              have HT6 := Lib.hid (HT5.out.below hb)
              clear hb
              rw [← HZ.out]
              go_wp2_with fail
              go_ret
              exact ⟨rfl, _, _, _, HT6.out⟩
end Go.Proofs.Ytpnnikifaalkoaa
