/-
  OWN WORK. The law CrcTells, walked, given what package crc's calls do.
-/
import Derived.Test.YtdopgnfggpdfoaaDoorCrSaid
namespace Go.Proofs.YtdopgnfggpdfoaaDoor
open Go.RowKit Cr

set_option maxHeartbeats 8000000 in
set_option maxRecDepth 100000 in
theorem tells_any (hS : SumSaid) (hM : MoreSaid) (w : World) (a : List UInt8) (x : Int) (A1 : Option Addr) (c1 : Nat) (hra : Rd w A1 a) (hca : a.length ≤ c1) (hla : a.length ≤ 9223372036854775807) (hx0 : -9223372036854775808 ≤ x) (hx1 : x ≤ 9223372036854775807) (hE : Env w) :
    Calls Tryd.prog 4 #[.slice A1 a.length c1, .int .i64 x] w fun e w' => e = .returned (.bool true) ∧ Below w.heap.size w w' := by
  have HS : Hid SumSaid := hS
  have HM : Hid MoreSaid := hM
  have HE : Hid (Env w) := hE
  clear hS hM hE
  have HA : Hid (Rd w A1 a) := hra
  have HL1 := Lib.hid hca
  have HL3 := Lib.hid hla
  clear hra hca hla
  go_enter Tryd.func4, Tryd.ntmps4
  go_wp2_with fail
  refine (cut_to A1 a c1 500 _ HA.out HL1.out (by omega) HL3.out).mono ?_
  clear HL1 HL3 HA
  rintro e w' ⟨b, rfl, rfl, hb2, hcb, HRb⟩
  go_wp2_with fail
  refine (within_to x _ b.length _ rfl (by omega) hx0 hx1).mono ?_
  rintro e w' ⟨q, hq, rfl, rfl⟩
  obtain ⟨r1, hslh, hr1c, HRD1, HEQ1, HLN1, hr1l⟩ := part_h A1 b c1 q hq hcb
  obtain ⟨A2, r2, c2, hsll, hr2c, HRD2, _, HEQ2, hr2l⟩ := part_l A1 b c1 q hq hcb
  have HEQ : Hid (Cr.more (Cr.sum r1) r2 = Cr.sum b) := by show _ = _; rw [more_sum, HEQ1.out, ← HEQ2.out]
  go_upto_region 3 with (fail)
  refine Rg.wp_region_facts (by kernel_rfl) (fun opn => List.getD [Rg.val (.slice A1 b.length c1), Rg.val (.int .u32 ((Cr.sum b : Nat) : Int)), Rg.val (.slice A1 b.length c1), Rg.val (.int .u32 ((Cr.sum b : Nat) : Int)), Rg.val (.bool true), Rg.val (.bool true), Rg.val (.slice A1 b.length c1), Rg.val (.int .i64 (q : Nat)), Rg.val (.slice A1 r1.length c1), Rg.val (.int .u32 ((Cr.sum r1 : Nat) : Int)), Rg.val (.slice A1 b.length c1), Rg.val (.int .i64 (q : Nat)), Rg.val (.slice A2 r2.length c2), Rg.val (.int .u32 ((Cr.sum b : Nat) : Int)), Rg.val (.slice A1 b.length c1), Rg.val (.int .u32 ((Cr.sum b : Nat) : Int)), Rg.val (.bool true), Rg.val (.bool true), Rg.val (.bool true), Rg.val (.slice A1 b.length c1), Rg.val (.int .u32 ((Cr.sum b : Nat) : Int)), Rg.val (.slice A1 b.length c1), Rg.val (.int .u32 ((Cr.sum b : Nat) : Int)), Rg.val (.bool true), Rg.val (.bool true), Rg.val (.bool true), Rg.val (.bool true), Rg.val (.bool true), Rg.val (.bool true)] opn Rg.any) [] [[], [(0, 12)], [], [(2, 14)], [(1, 13), (3, 15)], [(4, 16)], [(5, 17)], [(5, 17)], [(5, 17), (6, 18), (7, 19)], [(5, 17), (8, 20)], [(5, 17)], [(5, 17)], [(5, 17), (10, 22), (11, 23)], [(5, 17), (9, 21), (12, 24)], [(5, 17)], [(5, 17), (14, 26)], [(5, 17), (13, 25), (15, 27)], [(5, 17), (16, 28)], [(17, 29)], [(18, 30)], [(18, 30), (19, 31)], [(18, 30)], [(18, 30), (21, 33)], [(18, 30), (20, 32), (22, 34)], [(18, 30), (23, 35)], [(24, 36)], [(25, 37)], [(25, 37), (26, 38)], [(27, 39)]] [] (by kernel_rfl) (by rfl) (by kernel_rfl) ?_ ?_
  · intro fr ha
    have hz : fr.tmps.size = 40 := by rw [ha]; rfl
    have y0 : fr.eval (.tmp 0) = .slice A1 b.length c1 := by rw [ha]; rfl
    have y5 : fr.eval (.tmp 5) = .int .i64 (q : Nat) := by rw [ha]; rfl
    clear ha
    refine .cons ?_ (.cons ?_ (.cons ?_ (.cons ?_ (.cons ?_ (.cons ?_ (.cons ?_ (.cons ?_ (.cons ?_ (.cons ?_ (.cons ?_ (.cons ?_ (.cons ?_ (.cons ?_ (.cons ?_ (.cons ?_ (.cons ?_ (.cons ?_ (.cons ?_ (.cons ?_ (.cons ?_ (.cons ?_ (.cons ?_ (.cons ?_ (.cons ?_ (.cons ?_ (.cons ?_ (.cons ?_ (.cons ?_ (.nil)))))))))))))))))))))))))))))
    · intro V w2 HL HH
      have HL : Later w w2 := HL
      have tb0 : (Rg.putUse V [] fr).eval (.tmp 0) = .slice A1 b.length c1 := (Rg.use_eval V fr 0 [] (by simp only [hz]; decide)).trans y0
      show Rg.Does1 _ _ V (Rg.putUse V [] fr) w2 _
      exact step_mv (.slice A1 b.length c1) (by simp only [execOp, tb0]; go_simp) rfl rfl rfl True.intro
    · intro V w2 HL HH
      have HL : Later w w2 := HL
      have h0 : V 0 = .slice A1 b.length c1 := HH.1
      have tb12 : (Rg.putUse V [(0, 12)] fr).eval (.tmp 12) = .slice A1 b.length c1 := (Rg.use_eval V fr 12 [(0, 12)] (by simp only [hz]; decide)).trans h0
      show Rg.Does1 _ _ V (Rg.putUse V [(0, 12)] fr) w2 _
      exact step_num #[.slice A1 (b).length c1] (.int .u32 ((Cr.sum b : Nat) : Int)) (fun args w => Rg.call_enter Tryd.func7 (by kernel_rfl) (by kernel_rfl) args w) rfl (by simp only [List.map_toArray, List.map_cons, List.map_nil, tb12]) rfl rfl rfl True.intro (HS.out _ b A1 c1 (HL.env HE.out) (HL.rd HRb.out) (hcb) (by first | omega | (simp; done) | (simp; omega)))
    · intro V w2 HL HH
      have HL : Later w w2 := HL
      have tb0 : (Rg.putUse V [] fr).eval (.tmp 0) = .slice A1 b.length c1 := (Rg.use_eval V fr 0 [] (by simp only [hz]; decide)).trans y0
      show Rg.Does1 _ _ V (Rg.putUse V [] fr) w2 _
      exact step_mv (.slice A1 b.length c1) (by simp only [execOp, tb0]; go_simp) rfl rfl rfl True.intro
    · intro V w2 HL HH
      have HL : Later w w2 := HL
      have h2 : V 2 = .slice A1 b.length c1 := HH.1
      have tb14 : (Rg.putUse V [(2, 14)] fr).eval (.tmp 14) = .slice A1 b.length c1 := (Rg.use_eval V fr 14 [(2, 14)] (by simp only [hz]; decide)).trans h2
      show Rg.Does1 _ _ V (Rg.putUse V [(2, 14)] fr) w2 _
      exact step_num #[.slice A1 (b).length c1] (.int .u32 ((Cr.sum b : Nat) : Int)) (fun args w => Rg.call_enter Tryd.func8 (by kernel_rfl) (by kernel_rfl) args w) rfl (by simp only [List.map_toArray, List.map_cons, List.map_nil, tb14]) rfl rfl rfl True.intro ((refSum_any _ b A1 c1 (HL.rd HRb.out) (by first | omega | (simp; done) | (simp; omega))).mono (fun e w3 ⟨h1, h2⟩ => ⟨h1, h2 ▸ Below.refl _ _⟩))
    · intro V w2 HL HH
      have HL : Later w w2 := HL
      have h1 : V 1 = .int .u32 ((Cr.sum b : Nat) : Int) := HH.1
      have h3 : V 3 = .int .u32 ((Cr.sum b : Nat) : Int) := HH.2.1
      have tb13 : (Rg.putUse V [(1, 13), (3, 15)] fr).eval (.tmp 13) = .int .u32 ((Cr.sum b : Nat) : Int) := (Rg.use_eval V fr 13 [(1, 13), (3, 15)] (by simp only [hz]; decide)).trans h1
      have tb15 : (Rg.putUse V [(1, 13), (3, 15)] fr).eval (.tmp 15) = .int .u32 ((Cr.sum b : Nat) : Int) := (Rg.use_eval V fr 15 [(1, 13), (3, 15)] (by simp only [hz]; decide)).trans h3
      show Rg.Does1 _ _ V (Rg.putUse V [(1, 13), (3, 15)] fr) w2 _
      exact step_mv (.bool true) (by simp only [execOp, tb13, tb15]; go_simp) rfl rfl rfl True.intro
    · intro V w2 HL HH
      have HL : Later w w2 := HL
      have h4 : V 4 = .bool true := HH.1
      have tb16 : (Rg.putUse V [(4, 16)] fr).eval (.tmp 16) = .bool true := (Rg.use_eval V fr 16 [(4, 16)] (by simp only [hz]; decide)).trans h4
      show Rg.Does1 _ _ V (Rg.putUse V [(4, 16)] fr) w2 _
      exact step_mv (.bool true) (by simp only [execOp, tb16]; go_simp) rfl rfl rfl True.intro
    · intro V w2 HL HH
      have HL : Later w w2 := HL
      have h5 : V 5 = .bool true := HH.1
      have tb0 : (Rg.putUse V [(5, 17)] fr).eval (.tmp 0) = .slice A1 b.length c1 := (Rg.use_eval V fr 0 [(5, 17)] (by simp only [hz]; decide)).trans y0
      show Rg.Does1 _ _ V (Rg.putUse V [(5, 17)] fr) w2 _
      exact step_mv (.slice A1 b.length c1) (by simp only [execOp, tb0]; go_simp) rfl rfl rfl h5
    · intro V w2 HL HH
      have HL : Later w w2 := HL
      have h5 : V 5 = .bool true := HH.1
      have tb5 : (Rg.putUse V [(5, 17)] fr).eval (.tmp 5) = .int .i64 (q : Nat) := (Rg.use_eval V fr 5 [(5, 17)] (by simp only [hz]; decide)).trans y5
      show Rg.Does1 _ _ V (Rg.putUse V [(5, 17)] fr) w2 _
      exact step_mv (.int .i64 (q : Nat)) (by simp only [execOp, tb5]; go_simp) rfl rfl rfl h5
    · intro V w2 HL HH
      have HL : Later w w2 := HL
      have h5 : V 5 = .bool true := HH.1
      have h6 : V 6 = .slice A1 b.length c1 := HH.2.1
      have h7 : V 7 = .int .i64 (q : Nat) := HH.2.2.1
      have tb18 : (Rg.putUse V [(5, 17), (6, 18), (7, 19)] fr).eval (.tmp 18) = .slice A1 b.length c1 := (Rg.use_eval V fr 18 [(5, 17), (6, 18), (7, 19)] (by simp only [hz]; decide)).trans h6
      have tb19 : (Rg.putUse V [(5, 17), (6, 18), (7, 19)] fr).eval (.tmp 19) = .int .i64 (q : Nat) := (Rg.use_eval V fr 19 [(5, 17), (6, 18), (7, 19)] (by simp only [hz]; decide)).trans h7
      show Rg.Does1 _ _ V (Rg.putUse V [(5, 17), (6, 18), (7, 19)] fr) w2 _
      exact step_slh rfl tb18 tb19 (hslh.out w2) rfl rfl rfl h5
    · intro V w2 HL HH
      have HL : Later w w2 := HL
      have h5 : V 5 = .bool true := HH.1
      have h8 : V 8 = .slice A1 r1.length c1 := HH.2.1
      have tb20 : (Rg.putUse V [(5, 17), (8, 20)] fr).eval (.tmp 20) = .slice A1 r1.length c1 := (Rg.use_eval V fr 20 [(5, 17), (8, 20)] (by simp only [hz]; decide)).trans h8
      show Rg.Does1 _ _ V (Rg.putUse V [(5, 17), (8, 20)] fr) w2 _
      exact step_num #[.slice A1 (r1).length c1] (.int .u32 ((Cr.sum r1 : Nat) : Int)) (fun args w => Rg.call_enter Tryd.func8 (by kernel_rfl) (by kernel_rfl) args w) rfl (by simp only [List.map_toArray, List.map_cons, List.map_nil, tb20]) rfl rfl rfl h5 ((refSum_any _ r1 A1 c1 (HRD1.out _ (HL.rd HRb.out)) (by first | omega | (simp; done) | (simp; omega))).mono (fun e w3 ⟨h1, h2⟩ => ⟨h1, h2 ▸ Below.refl _ _⟩))
    · intro V w2 HL HH
      have HL : Later w w2 := HL
      have h5 : V 5 = .bool true := HH.1
      have tb0 : (Rg.putUse V [(5, 17)] fr).eval (.tmp 0) = .slice A1 b.length c1 := (Rg.use_eval V fr 0 [(5, 17)] (by simp only [hz]; decide)).trans y0
      show Rg.Does1 _ _ V (Rg.putUse V [(5, 17)] fr) w2 _
      exact step_mv (.slice A1 b.length c1) (by simp only [execOp, tb0]; go_simp) rfl rfl rfl h5
    · intro V w2 HL HH
      have HL : Later w w2 := HL
      have h5 : V 5 = .bool true := HH.1
      have tb5 : (Rg.putUse V [(5, 17)] fr).eval (.tmp 5) = .int .i64 (q : Nat) := (Rg.use_eval V fr 5 [(5, 17)] (by simp only [hz]; decide)).trans y5
      show Rg.Does1 _ _ V (Rg.putUse V [(5, 17)] fr) w2 _
      exact step_mv (.int .i64 (q : Nat)) (by simp only [execOp, tb5]; go_simp) rfl rfl rfl h5
    · intro V w2 HL HH
      have HL : Later w w2 := HL
      have h5 : V 5 = .bool true := HH.1
      have h10 : V 10 = .slice A1 b.length c1 := HH.2.1
      have h11 : V 11 = .int .i64 (q : Nat) := HH.2.2.1
      have tb22 : (Rg.putUse V [(5, 17), (10, 22), (11, 23)] fr).eval (.tmp 22) = .slice A1 b.length c1 := (Rg.use_eval V fr 22 [(5, 17), (10, 22), (11, 23)] (by simp only [hz]; decide)).trans h10
      have tb23 : (Rg.putUse V [(5, 17), (10, 22), (11, 23)] fr).eval (.tmp 23) = .int .i64 (q : Nat) := (Rg.use_eval V fr 23 [(5, 17), (10, 22), (11, 23)] (by simp only [hz]; decide)).trans h11
      show Rg.Does1 _ _ V (Rg.putUse V [(5, 17), (10, 22), (11, 23)] fr) w2 _
      exact step_sll rfl tb22 tb23 (hsll.out w2) rfl rfl rfl h5
    · intro V w2 HL HH
      have HL : Later w w2 := HL
      have h5 : V 5 = .bool true := HH.1
      have h9 : V 9 = .int .u32 ((Cr.sum r1 : Nat) : Int) := HH.2.1
      have h12 : V 12 = .slice A2 r2.length c2 := HH.2.2.1
      have tb21 : (Rg.putUse V [(5, 17), (9, 21), (12, 24)] fr).eval (.tmp 21) = .int .u32 ((Cr.sum r1 : Nat) : Int) := (Rg.use_eval V fr 21 [(5, 17), (9, 21), (12, 24)] (by simp only [hz]; decide)).trans h9
      have tb24 : (Rg.putUse V [(5, 17), (9, 21), (12, 24)] fr).eval (.tmp 24) = .slice A2 r2.length c2 := (Rg.use_eval V fr 24 [(5, 17), (9, 21), (12, 24)] (by simp only [hz]; decide)).trans h12
      show Rg.Does1 _ _ V (Rg.putUse V [(5, 17), (9, 21), (12, 24)] fr) w2 _
      exact step_num #[.int .u32 ((Cr.sum r1 : Nat) : Int), .slice A2 (r2).length c2] (.int .u32 ((Cr.sum b : Nat) : Int)) (fun args w => Rg.call_enter Tryd.func9 (by kernel_rfl) (by kernel_rfl) args w) rfl (by simp only [List.map_toArray, List.map_cons, List.map_nil, tb21, tb24]) rfl rfl rfl h5 (more_to HM.out _ (Cr.sum r1) r2 A2 c2 _ (sum_lt _) (HL.env HE.out) (HRD2.out _ (HL.rd HRb.out)) (hr2c) (by first | omega | (simp; done) | (simp; omega)) (HEQ.out))
    · intro V w2 HL HH
      have HL : Later w w2 := HL
      have h5 : V 5 = .bool true := HH.1
      have tb0 : (Rg.putUse V [(5, 17)] fr).eval (.tmp 0) = .slice A1 b.length c1 := (Rg.use_eval V fr 0 [(5, 17)] (by simp only [hz]; decide)).trans y0
      show Rg.Does1 _ _ V (Rg.putUse V [(5, 17)] fr) w2 _
      exact step_mv (.slice A1 b.length c1) (by simp only [execOp, tb0]; go_simp) rfl rfl rfl h5
    · intro V w2 HL HH
      have HL : Later w w2 := HL
      have h5 : V 5 = .bool true := HH.1
      have h14 : V 14 = .slice A1 b.length c1 := HH.2.1
      have tb26 : (Rg.putUse V [(5, 17), (14, 26)] fr).eval (.tmp 26) = .slice A1 b.length c1 := (Rg.use_eval V fr 26 [(5, 17), (14, 26)] (by simp only [hz]; decide)).trans h14
      show Rg.Does1 _ _ V (Rg.putUse V [(5, 17), (14, 26)] fr) w2 _
      exact step_num #[.slice A1 (b).length c1] (.int .u32 ((Cr.sum b : Nat) : Int)) (fun args w => Rg.call_enter Tryd.func8 (by kernel_rfl) (by kernel_rfl) args w) rfl (by simp only [List.map_toArray, List.map_cons, List.map_nil, tb26]) rfl rfl rfl h5 ((refSum_any _ b A1 c1 (HL.rd HRb.out) (by first | omega | (simp; done) | (simp; omega))).mono (fun e w3 ⟨h1, h2⟩ => ⟨h1, h2 ▸ Below.refl _ _⟩))
    · intro V w2 HL HH
      have HL : Later w w2 := HL
      have h5 : V 5 = .bool true := HH.1
      have h13 : V 13 = .int .u32 ((Cr.sum b : Nat) : Int) := HH.2.1
      have h15 : V 15 = .int .u32 ((Cr.sum b : Nat) : Int) := HH.2.2.1
      have tb25 : (Rg.putUse V [(5, 17), (13, 25), (15, 27)] fr).eval (.tmp 25) = .int .u32 ((Cr.sum b : Nat) : Int) := (Rg.use_eval V fr 25 [(5, 17), (13, 25), (15, 27)] (by simp only [hz]; decide)).trans h13
      have tb27 : (Rg.putUse V [(5, 17), (13, 25), (15, 27)] fr).eval (.tmp 27) = .int .u32 ((Cr.sum b : Nat) : Int) := (Rg.use_eval V fr 27 [(5, 17), (13, 25), (15, 27)] (by simp only [hz]; decide)).trans h15
      show Rg.Does1 _ _ V (Rg.putUse V [(5, 17), (13, 25), (15, 27)] fr) w2 _
      exact step_mv (.bool true) (by simp only [execOp, tb25, tb27]; go_simp) rfl rfl rfl h5
    · intro V w2 HL HH
      have HL : Later w w2 := HL
      have h5 : V 5 = .bool true := HH.1
      have h16 : V 16 = .bool true := HH.2.1
      have tb17 : (Rg.putUse V [(5, 17), (16, 28)] fr).eval (.tmp 17) = .bool true := (Rg.use_eval V fr 17 [(5, 17), (16, 28)] (by simp only [hz]; decide)).trans h5
      have tb28 : (Rg.putUse V [(5, 17), (16, 28)] fr).eval (.tmp 28) = .bool true := (Rg.use_eval V fr 28 [(5, 17), (16, 28)] (by simp only [hz]; decide)).trans h16
      show Rg.Does1 _ _ V (Rg.putUse V [(5, 17), (16, 28)] fr) w2 _
      exact step_mv (.bool true) (by simp only [execOp, tb17, tb28]; go_simp) rfl rfl rfl True.intro
    · intro V w2 HL HH
      have HL : Later w w2 := HL
      have h17 : V 17 = .bool true := HH.1
      have tb29 : (Rg.putUse V [(17, 29)] fr).eval (.tmp 29) = .bool true := (Rg.use_eval V fr 29 [(17, 29)] (by simp only [hz]; decide)).trans h17
      show Rg.Does1 _ _ V (Rg.putUse V [(17, 29)] fr) w2 _
      exact step_mv (.bool true) (by simp only [execOp, tb29]; go_simp) rfl rfl rfl True.intro
    · intro V w2 HL HH
      have HL : Later w w2 := HL
      have h18 : V 18 = .bool true := HH.1
      have tb0 : (Rg.putUse V [(18, 30)] fr).eval (.tmp 0) = .slice A1 b.length c1 := (Rg.use_eval V fr 0 [(18, 30)] (by simp only [hz]; decide)).trans y0
      show Rg.Does1 _ _ V (Rg.putUse V [(18, 30)] fr) w2 _
      exact step_mv (.slice A1 b.length c1) (by simp only [execOp, tb0]; go_simp) rfl rfl rfl h18
    · intro V w2 HL HH
      have HL : Later w w2 := HL
      have h18 : V 18 = .bool true := HH.1
      have h19 : V 19 = .slice A1 b.length c1 := HH.2.1
      have tb31 : (Rg.putUse V [(18, 30), (19, 31)] fr).eval (.tmp 31) = .slice A1 b.length c1 := (Rg.use_eval V fr 31 [(18, 30), (19, 31)] (by simp only [hz]; decide)).trans h19
      show Rg.Does1 _ _ V (Rg.putUse V [(18, 30), (19, 31)] fr) w2 _
      exact step_num #[.int .u32 0, .slice A1 (b).length c1] (.int .u32 ((Cr.sum b : Nat) : Int)) (fun args w => Rg.call_enter Tryd.func9 (by kernel_rfl) (by kernel_rfl) args w) rfl (by simp only [List.map_toArray, List.map_cons, List.map_nil, Rg.eval_const, tb31]) rfl rfl rfl h18 (more_to HM.out _ (0) b A1 c1 _ (by decide) (HL.env HE.out) (HL.rd HRb.out) (hcb) (by first | omega | (simp; done) | (simp; omega)) (more_zero _))
    · intro V w2 HL HH
      have HL : Later w w2 := HL
      have h18 : V 18 = .bool true := HH.1
      have tb0 : (Rg.putUse V [(18, 30)] fr).eval (.tmp 0) = .slice A1 b.length c1 := (Rg.use_eval V fr 0 [(18, 30)] (by simp only [hz]; decide)).trans y0
      show Rg.Does1 _ _ V (Rg.putUse V [(18, 30)] fr) w2 _
      exact step_mv (.slice A1 b.length c1) (by simp only [execOp, tb0]; go_simp) rfl rfl rfl h18
    · intro V w2 HL HH
      have HL : Later w w2 := HL
      have h18 : V 18 = .bool true := HH.1
      have h21 : V 21 = .slice A1 b.length c1 := HH.2.1
      have tb33 : (Rg.putUse V [(18, 30), (21, 33)] fr).eval (.tmp 33) = .slice A1 b.length c1 := (Rg.use_eval V fr 33 [(18, 30), (21, 33)] (by simp only [hz]; decide)).trans h21
      show Rg.Does1 _ _ V (Rg.putUse V [(18, 30), (21, 33)] fr) w2 _
      exact step_num #[.slice A1 (b).length c1] (.int .u32 ((Cr.sum b : Nat) : Int)) (fun args w => Rg.call_enter Tryd.func7 (by kernel_rfl) (by kernel_rfl) args w) rfl (by simp only [List.map_toArray, List.map_cons, List.map_nil, tb33]) rfl rfl rfl h18 (HS.out _ b A1 c1 (HL.env HE.out) (HL.rd HRb.out) (hcb) (by first | omega | (simp; done) | (simp; omega)))
    · intro V w2 HL HH
      have HL : Later w w2 := HL
      have h18 : V 18 = .bool true := HH.1
      have h20 : V 20 = .int .u32 ((Cr.sum b : Nat) : Int) := HH.2.1
      have h22 : V 22 = .int .u32 ((Cr.sum b : Nat) : Int) := HH.2.2.1
      have tb32 : (Rg.putUse V [(18, 30), (20, 32), (22, 34)] fr).eval (.tmp 32) = .int .u32 ((Cr.sum b : Nat) : Int) := (Rg.use_eval V fr 32 [(18, 30), (20, 32), (22, 34)] (by simp only [hz]; decide)).trans h20
      have tb34 : (Rg.putUse V [(18, 30), (20, 32), (22, 34)] fr).eval (.tmp 34) = .int .u32 ((Cr.sum b : Nat) : Int) := (Rg.use_eval V fr 34 [(18, 30), (20, 32), (22, 34)] (by simp only [hz]; decide)).trans h22
      show Rg.Does1 _ _ V (Rg.putUse V [(18, 30), (20, 32), (22, 34)] fr) w2 _
      exact step_mv (.bool true) (by simp only [execOp, tb32, tb34]; go_simp) rfl rfl rfl h18
    · intro V w2 HL HH
      have HL : Later w w2 := HL
      have h18 : V 18 = .bool true := HH.1
      have h23 : V 23 = .bool true := HH.2.1
      have tb30 : (Rg.putUse V [(18, 30), (23, 35)] fr).eval (.tmp 30) = .bool true := (Rg.use_eval V fr 30 [(18, 30), (23, 35)] (by simp only [hz]; decide)).trans h18
      have tb35 : (Rg.putUse V [(18, 30), (23, 35)] fr).eval (.tmp 35) = .bool true := (Rg.use_eval V fr 35 [(18, 30), (23, 35)] (by simp only [hz]; decide)).trans h23
      show Rg.Does1 _ _ V (Rg.putUse V [(18, 30), (23, 35)] fr) w2 _
      exact step_mv (.bool true) (by simp only [execOp, tb30, tb35]; go_simp) rfl rfl rfl True.intro
    · intro V w2 HL HH
      have HL : Later w w2 := HL
      have h24 : V 24 = .bool true := HH.1
      have tb36 : (Rg.putUse V [(24, 36)] fr).eval (.tmp 36) = .bool true := (Rg.use_eval V fr 36 [(24, 36)] (by simp only [hz]; decide)).trans h24
      show Rg.Does1 _ _ V (Rg.putUse V [(24, 36)] fr) w2 _
      exact step_mv (.bool true) (by simp only [execOp, tb36]; go_simp) rfl rfl rfl True.intro
    · intro V w2 HL HH
      have HL : Later w w2 := HL
      have h25 : V 25 = .bool true := HH.1
      show Rg.Does1 _ _ V (Rg.putUse V [(25, 37)] fr) w2 _
      exact step_num #[] (.bool true) (fun args w => Rg.call_enter Tryd.func10 (by kernel_rfl) (by kernel_rfl) args w) rfl (by simp only [List.map_toArray, List.map_nil]) rfl rfl rfl h25 (known_any HS.out _ (HL.env HE.out))
    · intro V w2 HL HH
      have HL : Later w w2 := HL
      have h25 : V 25 = .bool true := HH.1
      have h26 : V 26 = .bool true := HH.2.1
      have tb37 : (Rg.putUse V [(25, 37), (26, 38)] fr).eval (.tmp 37) = .bool true := (Rg.use_eval V fr 37 [(25, 37), (26, 38)] (by simp only [hz]; decide)).trans h25
      have tb38 : (Rg.putUse V [(25, 37), (26, 38)] fr).eval (.tmp 38) = .bool true := (Rg.use_eval V fr 38 [(25, 37), (26, 38)] (by simp only [hz]; decide)).trans h26
      show Rg.Does1 _ _ V (Rg.putUse V [(25, 37), (26, 38)] fr) w2 _
      exact step_mv (.bool true) (by simp only [execOp, tb37, tb38]; go_simp) rfl rfl rfl True.intro
    · intro V w2 HL HH
      have HL : Later w w2 := HL
      have h27 : V 27 = .bool true := HH.1
      have tb39 : (Rg.putUse V [(27, 39)] fr).eval (.tmp 39) = .bool true := (Rg.use_eval V fr 39 [(27, 39)] (by simp only [hz]; decide)).trans h27
      show Rg.Does1 _ _ V (Rg.putUse V [(27, 39)] fr) w2 _
      exact step_mv (.bool true) (by simp only [execOp, tb39]; go_simp) rfl rfl rfl True.intro
  · intro V w2 HI
    have h28 : V 28 = .bool true := HI.get 28 (by decide) (by rfl)
    simp only [Rg.putList, Act.put, List.setIfInBounds_toArray, List.set_cons_zero, List.set_cons_succ, Nat.zero_add, Nat.reduceAdd]
    rw [h28]
    have HLE : Hid (Later w w2) := later_drew HI.later
    clear HI
    go_wp2_with fail
    go_ret
    exact ⟨rfl, HLE.out⟩
end Go.Proofs.YtdopgnfggpdfoaaDoor
