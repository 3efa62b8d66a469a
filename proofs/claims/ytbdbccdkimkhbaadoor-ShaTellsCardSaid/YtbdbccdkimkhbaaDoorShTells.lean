/-
  OWN WORK. The law ShaTells, walked, given the document's own Sum.
-/
import Derived.Test.YtbdbccdkimkhbaaDoorShCut
namespace Go.Proofs.YtbdbccdkimkhbaaDoor
open Go.RowKit Sh

set_option maxHeartbeats 8000000 in
set_option maxRecDepth 100000 in
theorem tells_any (hsum : RefSumSaid) (w : World) (a m : List UInt8) (cs : List Int) (A1 A2 A3 : Option Addr) (c1 c2 c3 : Nat) (hra : Rd w A1 a) (hca : a.length ≤ c1) (hrm : Rd w A2 m) (hcm : m.length ≤ c2) (hrc : RdI w A3 cs) (hK : KAt w)
    (hla : a.length ≤ 9223372036854775807) (hlm : m.length ≤ 9223372036854775807) (_hlc : cs.length ≤ 9223372036854775807) :
    Calls Tryd.prog 4 #[.slice A1 a.length c1, .slice A2 m.length c2, .slice A3 cs.length c3] w fun e w' => e = .returned (.bool true) ∧ Below w.heap.size w w' := by
  have HSUM : Hid RefSumSaid := hsum
  have HK : Hid (KAt w) := hK
  have HA : Hid (Rd w A1 a) := hra
  have HM : Hid (Rd w A2 m) := hrm
  have HC : Hid (RdI w A3 cs) := hrc
  have HL1 := Lib.hid hca
  have HL2 := Lib.hid hcm
  have HL3 := Lib.hid hla
  have HL4 := Lib.hid hlm
  clear hra hrm hrc hK hca hcm hla hlm hsum
  go_enter Tryd.func4, Tryd.ntmps4
  go_wp2_with fail
  refine (cut_to A1 a c1 400 _ HA.out HL1.out (by omega) HL3.out).mono ?_
  clear HL1 HL3 HA
  rintro e w' ⟨b, rfl, rfl, hb2, hcb, HRb⟩
  go_wp2_with fail
  refine (cut_to A2 m c2 200 _ HM.out HL2.out (by omega) HL4.out).mono ?_
  clear HL2 HL4 HM
  rintro e w' ⟨m1, rfl, rfl, hm2, hcm, HRm⟩
  go_upto_region 3 with (fail)
  refine Rg.wp_region_facts (by kernel_rfl) (fun j => List.getD [Rg.val (.slice A1 b.length c1), bRow (Sh.sum b), Rg.val (.string (strOf (Sh.sum b))), Rg.val (.slice A1 b.length c1), bRow (Sh.sum b), Rg.val (.string (strOf (Sh.sum b))), Rg.val (.bool false), Rg.val (.bool false), Rg.val (.slice A1 b.length c1), bRow (Sh.sum (0 :: b)), Rg.val (.string (strOf (Sh.sum (0 :: b)))), Rg.val (.slice A1 b.length c1), bRow (Sh.sum (0 :: b)), Rg.val (.string (strOf (Sh.sum (0 :: b)))), Rg.val (.bool false), Rg.val (.bool false), Rg.val (.bool false), Rg.val (.slice A1 b.length c1), Rg.val (.slice A2 m1.length c2), bRow (Sh.sum (1 :: (b ++ m1))), Rg.val (.string (strOf (Sh.sum (1 :: (b ++ m1))))), Rg.val (.slice A1 b.length c1), Rg.val (.slice A2 m1.length c2), bRow (Sh.sum (1 :: (b ++ m1))), Rg.val (.string (strOf (Sh.sum (1 :: (b ++ m1))))), Rg.val (.bool false), Rg.val (.bool false)] j Rg.any) [[], [(0, 16)], [(1, 17)], [], [(3, 19)], [(4, 20)], [(2, 18), (5, 21)], [(6, 22)], [(7, 23)], [(7, 23), (8, 24)], [(7, 23), (9, 25)], [(7, 23)], [(7, 23), (11, 27)], [(7, 23), (12, 28)], [(7, 23), (10, 26), (13, 29)], [(7, 23), (14, 30)], [(15, 31)], [(16, 32)], [(16, 32)], [(16, 32), (17, 33), (18, 34)], [(16, 32), (19, 35)], [(16, 32)], [(16, 32)], [(16, 32), (21, 37), (22, 38)], [(16, 32), (23, 39)], [(16, 32), (20, 36), (24, 40)], [(16, 32), (25, 41)]] [] (by kernel_rfl) (by kernel_rfl) ?_ ?_
  · intro fr ha
    have hz : fr.tmps.size = 133 := by rw [ha]; rfl
    have y0 : fr.eval (.tmp 0) = .slice A1 b.length c1 := by rw [ha]; rfl
    have y1 : fr.eval (.tmp 1) = .slice A2 m1.length c2 := by rw [ha]; rfl
    clear ha
    refine .cons ?_ (.cons ?_ (.cons ?_ (.cons ?_ (.cons ?_ (.cons ?_ (.cons ?_ (.cons ?_ (.cons ?_ (.cons ?_ (.cons ?_ (.cons ?_ (.cons ?_ (.cons ?_ (.cons ?_ (.cons ?_ (.cons ?_ (.cons ?_ (.cons ?_ (.cons ?_ (.cons ?_ (.cons ?_ (.cons ?_ (.cons ?_ (.cons ?_ (.cons ?_ (.cons ?_ (.nil)))))))))))))))))))))))))))
    · intro V w2 HL HH
      have HL : Later w w2 := HL
      have tb0 : (Rg.putUse V [] fr).eval (.tmp 0) = .slice A1 b.length c1 := (Rg.use_eval V fr 0 [] (by simp only [hz]; decide)).trans y0
      show Rg.Does1 _ _ V (Rg.putUse V [] fr) w2 _
      exact step_mv (.slice A1 b.length c1) (by simp only [execOp, tb0]; go_simp) rfl rfl True.intro
    · intro V w2 HL HH
      have HL : Later w w2 := HL
      have h0 : V 0 = .slice A1 b.length c1 := HH.1
      have tb16 : (Rg.putUse V [(0, 16)] fr).eval (.tmp 16) = .slice A1 b.length c1 := (Rg.use_eval V fr 16 [(0, 16)] (by simp only [hz]; decide)).trans h0
      show Rg.Does1 _ _ V (Rg.putUse V [(0, 16)] fr) w2 _
      exact step_row #[.slice A1 (b).length c1] (Sh.sum b) (fun args w => Rg.call_enter Tryd.func7 (by kernel_rfl) (by kernel_rfl) args w) rfl (by simp only [List.map_toArray, List.map_cons, List.map_nil, tb16]) (by rw [Sh.sum_length]) rfl rfl True.intro (sum_any _ (b) A1 c1 (HL.rd HRb.out) (hcb) (HL.kat HK.out) (by first | omega | (simp; done) | (simp; omega)))
    · intro V w2 HL HH
      have HL : Later w w2 := HL
      have h1 : (bRow (Sh.sum b)).holds (V 1) w2 := HH.1
      obtain ⟨X1, k1, e1, hc1, hr1⟩ := bRow_form h1
      have tb17 : (Rg.putUse V [(1, 17)] fr).eval (.tmp 17) = .slice X1 (Sh.sum b).length k1 := (Rg.use_eval V fr 17 [(1, 17)] (by simp only [hz]; decide)).trans e1
      show Rg.Does1 _ _ V (Rg.putUse V [(1, 17)] fr) w2 _
      exact step_str (Sh.sum b) rfl tb17 (by first | rfl | rw [Sh.sum_length]) (hr1) rfl rfl True.intro
    · intro V w2 HL HH
      have HL : Later w w2 := HL
      have tb0 : (Rg.putUse V [] fr).eval (.tmp 0) = .slice A1 b.length c1 := (Rg.use_eval V fr 0 [] (by simp only [hz]; decide)).trans y0
      show Rg.Does1 _ _ V (Rg.putUse V [] fr) w2 _
      exact step_mv (.slice A1 b.length c1) (by simp only [execOp, tb0]; go_simp) rfl rfl True.intro
    · intro V w2 HL HH
      have HL : Later w w2 := HL
      have h3 : V 3 = .slice A1 b.length c1 := HH.1
      have tb19 : (Rg.putUse V [(3, 19)] fr).eval (.tmp 19) = .slice A1 b.length c1 := (Rg.use_eval V fr 19 [(3, 19)] (by simp only [hz]; decide)).trans h3
      show Rg.Does1 _ _ V (Rg.putUse V [(3, 19)] fr) w2 _
      exact step_row #[.slice A1 (b).length c1] (Sh.sum b) (fun args w => Rg.call_enter Tryd.func8 (by kernel_rfl) (by kernel_rfl) args w) rfl (by simp only [List.map_toArray, List.map_cons, List.map_nil, tb19]) (by rw [Sh.sum_length]) rfl rfl True.intro (HSUM.out _ (b) A1 c1 (HL.rd HRb.out) (by first | omega | (simp; done) | (simp; omega)))
    · intro V w2 HL HH
      have HL : Later w w2 := HL
      have h4 : (bRow (Sh.sum b)).holds (V 4) w2 := HH.1
      obtain ⟨X4, k4, e4, hc4, hr4⟩ := bRow_form h4
      have tb20 : (Rg.putUse V [(4, 20)] fr).eval (.tmp 20) = .slice X4 (Sh.sum b).length k4 := (Rg.use_eval V fr 20 [(4, 20)] (by simp only [hz]; decide)).trans e4
      show Rg.Does1 _ _ V (Rg.putUse V [(4, 20)] fr) w2 _
      exact step_str (Sh.sum b) rfl tb20 (by first | rfl | rw [Sh.sum_length]) (hr4) rfl rfl True.intro
    · intro V w2 HL HH
      have HL : Later w w2 := HL
      have h2 : V 2 = .string (strOf (Sh.sum b)) := HH.1
      have h5 : V 5 = .string (strOf (Sh.sum b)) := HH.2.1
      have tb18 : (Rg.putUse V [(2, 18), (5, 21)] fr).eval (.tmp 18) = .string (strOf (Sh.sum b)) := (Rg.use_eval V fr 18 [(2, 18), (5, 21)] (by simp only [hz]; decide)).trans h2
      have tb21 : (Rg.putUse V [(2, 18), (5, 21)] fr).eval (.tmp 21) = .string (strOf (Sh.sum b)) := (Rg.use_eval V fr 21 [(2, 18), (5, 21)] (by simp only [hz]; decide)).trans h5
      show Rg.Does1 _ _ V (Rg.putUse V [(2, 18), (5, 21)] fr) w2 _
      exact step_mv (.bool false) (by simp only [execOp, tb18, tb21]; go_simp) rfl rfl True.intro
    · intro V w2 HL HH
      have HL : Later w w2 := HL
      have h6 : V 6 = .bool false := HH.1
      have tb22 : (Rg.putUse V [(6, 22)] fr).eval (.tmp 22) = .bool false := (Rg.use_eval V fr 22 [(6, 22)] (by simp only [hz]; decide)).trans h6
      show Rg.Does1 _ _ V (Rg.putUse V [(6, 22)] fr) w2 _
      exact step_mv (.bool false) (by simp only [execOp, tb22]; go_simp) rfl rfl True.intro
    · intro V w2 HL HH
      have HL : Later w w2 := HL
      have h7 : V 7 = .bool false := HH.1
      have tb0 : (Rg.putUse V [(7, 23)] fr).eval (.tmp 0) = .slice A1 b.length c1 := (Rg.use_eval V fr 0 [(7, 23)] (by simp only [hz]; decide)).trans y0
      show Rg.Does1 _ _ V (Rg.putUse V [(7, 23)] fr) w2 _
      exact step_mv (.slice A1 b.length c1) (by simp only [execOp, tb0]; go_simp) rfl rfl h7
    · intro V w2 HL HH
      have HL : Later w w2 := HL
      have h7 : V 7 = .bool false := HH.1
      have h8 : V 8 = .slice A1 b.length c1 := HH.2.1
      have tb24 : (Rg.putUse V [(7, 23), (8, 24)] fr).eval (.tmp 24) = .slice A1 b.length c1 := (Rg.use_eval V fr 24 [(7, 23), (8, 24)] (by simp only [hz]; decide)).trans h8
      show Rg.Does1 _ _ V (Rg.putUse V [(7, 23), (8, 24)] fr) w2 _
      exact step_row #[.slice A1 (b).length c1] (Sh.sum (0 :: b)) (fun args w => Rg.call_enter Tryd.func9 (by kernel_rfl) (by kernel_rfl) args w) rfl (by simp only [List.map_toArray, List.map_cons, List.map_nil, tb24]) (by rw [Sh.sum_length]) rfl rfl h7 (leaf_any _ (b) A1 c1 (HL.rd HRb.out) (hcb) (HL.kat HK.out) (by first | omega | (simp; done) | (simp; omega)))
    · intro V w2 HL HH
      have HL : Later w w2 := HL
      have h7 : V 7 = .bool false := HH.1
      have h9 : (bRow (Sh.sum (0 :: b))).holds (V 9) w2 := HH.2.1
      obtain ⟨X9, k9, e9, hc9, hr9⟩ := bRow_form h9
      have tb25 : (Rg.putUse V [(7, 23), (9, 25)] fr).eval (.tmp 25) = .slice X9 (Sh.sum (0 :: b)).length k9 := (Rg.use_eval V fr 25 [(7, 23), (9, 25)] (by simp only [hz]; decide)).trans e9
      show Rg.Does1 _ _ V (Rg.putUse V [(7, 23), (9, 25)] fr) w2 _
      exact step_str (Sh.sum (0 :: b)) rfl tb25 (by first | rfl | rw [Sh.sum_length]) (hr9) rfl rfl h7
    · intro V w2 HL HH
      have HL : Later w w2 := HL
      have h7 : V 7 = .bool false := HH.1
      have tb0 : (Rg.putUse V [(7, 23)] fr).eval (.tmp 0) = .slice A1 b.length c1 := (Rg.use_eval V fr 0 [(7, 23)] (by simp only [hz]; decide)).trans y0
      show Rg.Does1 _ _ V (Rg.putUse V [(7, 23)] fr) w2 _
      exact step_mv (.slice A1 b.length c1) (by simp only [execOp, tb0]; go_simp) rfl rfl h7
    · intro V w2 HL HH
      have HL : Later w w2 := HL
      have h7 : V 7 = .bool false := HH.1
      have h11 : V 11 = .slice A1 b.length c1 := HH.2.1
      have tb27 : (Rg.putUse V [(7, 23), (11, 27)] fr).eval (.tmp 27) = .slice A1 b.length c1 := (Rg.use_eval V fr 27 [(7, 23), (11, 27)] (by simp only [hz]; decide)).trans h11
      show Rg.Does1 _ _ V (Rg.putUse V [(7, 23), (11, 27)] fr) w2 _
      exact step_row #[.slice A1 (b).length c1] (Sh.sum (0 :: b)) (fun args w => Rg.call_enter Tryd.func10 (by kernel_rfl) (by kernel_rfl) args w) rfl (by simp only [List.map_toArray, List.map_cons, List.map_nil, tb27]) (by rw [Sh.sum_length]) rfl rfl h7 (refLeaf_any HSUM _ (b) A1 c1 (HL.rd HRb.out) (by first | omega | (simp; done) | (simp; omega)))
    · intro V w2 HL HH
      have HL : Later w w2 := HL
      have h7 : V 7 = .bool false := HH.1
      have h12 : (bRow (Sh.sum (0 :: b))).holds (V 12) w2 := HH.2.1
      obtain ⟨X12, k12, e12, hc12, hr12⟩ := bRow_form h12
      have tb28 : (Rg.putUse V [(7, 23), (12, 28)] fr).eval (.tmp 28) = .slice X12 (Sh.sum (0 :: b)).length k12 := (Rg.use_eval V fr 28 [(7, 23), (12, 28)] (by simp only [hz]; decide)).trans e12
      show Rg.Does1 _ _ V (Rg.putUse V [(7, 23), (12, 28)] fr) w2 _
      exact step_str (Sh.sum (0 :: b)) rfl tb28 (by first | rfl | rw [Sh.sum_length]) (hr12) rfl rfl h7
    · intro V w2 HL HH
      have HL : Later w w2 := HL
      have h7 : V 7 = .bool false := HH.1
      have h10 : V 10 = .string (strOf (Sh.sum (0 :: b))) := HH.2.1
      have h13 : V 13 = .string (strOf (Sh.sum (0 :: b))) := HH.2.2.1
      have tb26 : (Rg.putUse V [(7, 23), (10, 26), (13, 29)] fr).eval (.tmp 26) = .string (strOf (Sh.sum (0 :: b))) := (Rg.use_eval V fr 26 [(7, 23), (10, 26), (13, 29)] (by simp only [hz]; decide)).trans h10
      have tb29 : (Rg.putUse V [(7, 23), (10, 26), (13, 29)] fr).eval (.tmp 29) = .string (strOf (Sh.sum (0 :: b))) := (Rg.use_eval V fr 29 [(7, 23), (10, 26), (13, 29)] (by simp only [hz]; decide)).trans h13
      show Rg.Does1 _ _ V (Rg.putUse V [(7, 23), (10, 26), (13, 29)] fr) w2 _
      exact step_mv (.bool false) (by simp only [execOp, tb26, tb29]; go_simp) rfl rfl h7
    · intro V w2 HL HH
      have HL : Later w w2 := HL
      have h7 : V 7 = .bool false := HH.1
      have h14 : V 14 = .bool false := HH.2.1
      have tb23 : (Rg.putUse V [(7, 23), (14, 30)] fr).eval (.tmp 23) = .bool false := (Rg.use_eval V fr 23 [(7, 23), (14, 30)] (by simp only [hz]; decide)).trans h7
      have tb30 : (Rg.putUse V [(7, 23), (14, 30)] fr).eval (.tmp 30) = .bool false := (Rg.use_eval V fr 30 [(7, 23), (14, 30)] (by simp only [hz]; decide)).trans h14
      show Rg.Does1 _ _ V (Rg.putUse V [(7, 23), (14, 30)] fr) w2 _
      exact step_mv (.bool false) (by simp only [execOp, tb23, tb30]; go_simp) rfl rfl True.intro
    · intro V w2 HL HH
      have HL : Later w w2 := HL
      have h15 : V 15 = .bool false := HH.1
      have tb31 : (Rg.putUse V [(15, 31)] fr).eval (.tmp 31) = .bool false := (Rg.use_eval V fr 31 [(15, 31)] (by simp only [hz]; decide)).trans h15
      show Rg.Does1 _ _ V (Rg.putUse V [(15, 31)] fr) w2 _
      exact step_mv (.bool false) (by simp only [execOp, tb31]; go_simp) rfl rfl True.intro
    · intro V w2 HL HH
      have HL : Later w w2 := HL
      have h16 : V 16 = .bool false := HH.1
      have tb0 : (Rg.putUse V [(16, 32)] fr).eval (.tmp 0) = .slice A1 b.length c1 := (Rg.use_eval V fr 0 [(16, 32)] (by simp only [hz]; decide)).trans y0
      show Rg.Does1 _ _ V (Rg.putUse V [(16, 32)] fr) w2 _
      exact step_mv (.slice A1 b.length c1) (by simp only [execOp, tb0]; go_simp) rfl rfl h16
    · intro V w2 HL HH
      have HL : Later w w2 := HL
      have h16 : V 16 = .bool false := HH.1
      have tb1 : (Rg.putUse V [(16, 32)] fr).eval (.tmp 1) = .slice A2 m1.length c2 := (Rg.use_eval V fr 1 [(16, 32)] (by simp only [hz]; decide)).trans y1
      show Rg.Does1 _ _ V (Rg.putUse V [(16, 32)] fr) w2 _
      exact step_mv (.slice A2 m1.length c2) (by simp only [execOp, tb1]; go_simp) rfl rfl h16
    · intro V w2 HL HH
      have HL : Later w w2 := HL
      have h16 : V 16 = .bool false := HH.1
      have h17 : V 17 = .slice A1 b.length c1 := HH.2.1
      have h18 : V 18 = .slice A2 m1.length c2 := HH.2.2.1
      have tb33 : (Rg.putUse V [(16, 32), (17, 33), (18, 34)] fr).eval (.tmp 33) = .slice A1 b.length c1 := (Rg.use_eval V fr 33 [(16, 32), (17, 33), (18, 34)] (by simp only [hz]; decide)).trans h17
      have tb34 : (Rg.putUse V [(16, 32), (17, 33), (18, 34)] fr).eval (.tmp 34) = .slice A2 m1.length c2 := (Rg.use_eval V fr 34 [(16, 32), (17, 33), (18, 34)] (by simp only [hz]; decide)).trans h18
      show Rg.Does1 _ _ V (Rg.putUse V [(16, 32), (17, 33), (18, 34)] fr) w2 _
      exact step_row #[.slice A1 (b).length c1, .slice A2 (m1).length c2] (Sh.sum (1 :: (b ++ m1))) (fun args w => Rg.call_enter Tryd.func11 (by kernel_rfl) (by kernel_rfl) args w) rfl (by simp only [List.map_toArray, List.map_cons, List.map_nil, tb33, tb34]) (by rw [Sh.sum_length]) rfl rfl h16 (pair_any _ (b) (m1) A1 A2 c1 c2 (HL.rd HRb.out) (hcb) (HL.rd HRm.out) (hcm) (HL.kat HK.out) (by first | omega | (simp; done) | (simp; omega)))
    · intro V w2 HL HH
      have HL : Later w w2 := HL
      have h16 : V 16 = .bool false := HH.1
      have h19 : (bRow (Sh.sum (1 :: (b ++ m1)))).holds (V 19) w2 := HH.2.1
      obtain ⟨X19, k19, e19, hc19, hr19⟩ := bRow_form h19
      have tb35 : (Rg.putUse V [(16, 32), (19, 35)] fr).eval (.tmp 35) = .slice X19 (Sh.sum (1 :: (b ++ m1))).length k19 := (Rg.use_eval V fr 35 [(16, 32), (19, 35)] (by simp only [hz]; decide)).trans e19
      show Rg.Does1 _ _ V (Rg.putUse V [(16, 32), (19, 35)] fr) w2 _
      exact step_str (Sh.sum (1 :: (b ++ m1))) rfl tb35 (by first | rfl | rw [Sh.sum_length]) (hr19) rfl rfl h16
    · intro V w2 HL HH
      have HL : Later w w2 := HL
      have h16 : V 16 = .bool false := HH.1
      have tb0 : (Rg.putUse V [(16, 32)] fr).eval (.tmp 0) = .slice A1 b.length c1 := (Rg.use_eval V fr 0 [(16, 32)] (by simp only [hz]; decide)).trans y0
      show Rg.Does1 _ _ V (Rg.putUse V [(16, 32)] fr) w2 _
      exact step_mv (.slice A1 b.length c1) (by simp only [execOp, tb0]; go_simp) rfl rfl h16
    · intro V w2 HL HH
      have HL : Later w w2 := HL
      have h16 : V 16 = .bool false := HH.1
      have tb1 : (Rg.putUse V [(16, 32)] fr).eval (.tmp 1) = .slice A2 m1.length c2 := (Rg.use_eval V fr 1 [(16, 32)] (by simp only [hz]; decide)).trans y1
      show Rg.Does1 _ _ V (Rg.putUse V [(16, 32)] fr) w2 _
      exact step_mv (.slice A2 m1.length c2) (by simp only [execOp, tb1]; go_simp) rfl rfl h16
    · intro V w2 HL HH
      have HL : Later w w2 := HL
      have h16 : V 16 = .bool false := HH.1
      have h21 : V 21 = .slice A1 b.length c1 := HH.2.1
      have h22 : V 22 = .slice A2 m1.length c2 := HH.2.2.1
      have tb37 : (Rg.putUse V [(16, 32), (21, 37), (22, 38)] fr).eval (.tmp 37) = .slice A1 b.length c1 := (Rg.use_eval V fr 37 [(16, 32), (21, 37), (22, 38)] (by simp only [hz]; decide)).trans h21
      have tb38 : (Rg.putUse V [(16, 32), (21, 37), (22, 38)] fr).eval (.tmp 38) = .slice A2 m1.length c2 := (Rg.use_eval V fr 38 [(16, 32), (21, 37), (22, 38)] (by simp only [hz]; decide)).trans h22
      show Rg.Does1 _ _ V (Rg.putUse V [(16, 32), (21, 37), (22, 38)] fr) w2 _
      exact step_row #[.slice A1 (b).length c1, .slice A2 (m1).length c2] (Sh.sum (1 :: (b ++ m1))) (fun args w => Rg.call_enter Tryd.func12 (by kernel_rfl) (by kernel_rfl) args w) rfl (by simp only [List.map_toArray, List.map_cons, List.map_nil, tb37, tb38]) (by rw [Sh.sum_length]) rfl rfl h16 (refPair_any HSUM _ (b) (m1) A1 A2 c1 c2 (HL.rd HRb.out) (HL.rd HRm.out) (by first | omega | (simp; done) | (simp; omega)))
    · intro V w2 HL HH
      have HL : Later w w2 := HL
      have h16 : V 16 = .bool false := HH.1
      have h23 : (bRow (Sh.sum (1 :: (b ++ m1)))).holds (V 23) w2 := HH.2.1
      obtain ⟨X23, k23, e23, hc23, hr23⟩ := bRow_form h23
      have tb39 : (Rg.putUse V [(16, 32), (23, 39)] fr).eval (.tmp 39) = .slice X23 (Sh.sum (1 :: (b ++ m1))).length k23 := (Rg.use_eval V fr 39 [(16, 32), (23, 39)] (by simp only [hz]; decide)).trans e23
      show Rg.Does1 _ _ V (Rg.putUse V [(16, 32), (23, 39)] fr) w2 _
      exact step_str (Sh.sum (1 :: (b ++ m1))) rfl tb39 (by first | rfl | rw [Sh.sum_length]) (hr23) rfl rfl h16
    · intro V w2 HL HH
      have HL : Later w w2 := HL
      have h16 : V 16 = .bool false := HH.1
      have h20 : V 20 = .string (strOf (Sh.sum (1 :: (b ++ m1)))) := HH.2.1
      have h24 : V 24 = .string (strOf (Sh.sum (1 :: (b ++ m1)))) := HH.2.2.1
      have tb36 : (Rg.putUse V [(16, 32), (20, 36), (24, 40)] fr).eval (.tmp 36) = .string (strOf (Sh.sum (1 :: (b ++ m1)))) := (Rg.use_eval V fr 36 [(16, 32), (20, 36), (24, 40)] (by simp only [hz]; decide)).trans h20
      have tb40 : (Rg.putUse V [(16, 32), (20, 36), (24, 40)] fr).eval (.tmp 40) = .string (strOf (Sh.sum (1 :: (b ++ m1)))) := (Rg.use_eval V fr 40 [(16, 32), (20, 36), (24, 40)] (by simp only [hz]; decide)).trans h24
      show Rg.Does1 _ _ V (Rg.putUse V [(16, 32), (20, 36), (24, 40)] fr) w2 _
      exact step_mv (.bool false) (by simp only [execOp, tb36, tb40]; go_simp) rfl rfl h16
    · intro V w2 HL HH
      have HL : Later w w2 := HL
      have h16 : V 16 = .bool false := HH.1
      have h25 : V 25 = .bool false := HH.2.1
      have tb32 : (Rg.putUse V [(16, 32), (25, 41)] fr).eval (.tmp 32) = .bool false := (Rg.use_eval V fr 32 [(16, 32), (25, 41)] (by simp only [hz]; decide)).trans h16
      have tb41 : (Rg.putUse V [(16, 32), (25, 41)] fr).eval (.tmp 41) = .bool false := (Rg.use_eval V fr 41 [(16, 32), (25, 41)] (by simp only [hz]; decide)).trans h25
      show Rg.Does1 _ _ V (Rg.putUse V [(16, 32), (25, 41)] fr) w2 _
      exact step_mv (.bool false) (by simp only [execOp, tb32, tb41]; go_simp) rfl rfl True.intro
  · intro V w2 HI
    have h26 : V 26 = .bool false := HI.get 26 (by decide) (by rfl)
    simp only [Rg.putList, Act.put, List.setIfInBounds_toArray, List.set_cons_zero, List.set_cons_succ, Nat.zero_add, Nat.reduceAdd]
    rw [h26]
    have HL2 : Hid (Later w w2) := later_drew HI.later
    clear HI
    go_wp2_with fail
    refine (new_any w2).mono ?_
    rintro e w3 ⟨B, rfl, hB, hst, hb⟩
    have HT : Hid (One w B [] w3) := ⟨HL2.out.trans hb, hst⟩
    have hBw : w.heap.size ≤ B := Nat.le_trans HL2.out.size hB
    have HGB : Hid (0 < B) := Nat.lt_of_lt_of_le HK.out.pos hBw
    clear hst hb HL2 hB
    go_upto_region 10 with (fail)
    go_wp2_with fail
    go_loopw [8, 9] (fun t8 t9 wr => ∃ p i : Nat, p ≤ b.length ∧ i ≤ 20 ∧ t8 = .int .i64 p ∧ t9 = .int .i64 i ∧ Hid (One w B (b.take p) wr)) (fun _ t9 _ => 20 - (intOf t9).toNat)
    case atStart => exact ⟨0, 0, by omega, by omega, rfl, rfl, HT⟩
    case round =>
      obtain ⟨p, i, hp, hi, rfl, rfl, HTW⟩ := hrel
      by_cases hlt : i < cs.length ∧ i < 20
      · obtain ⟨h1, h2⟩ := hlt
        obtain ⟨x, bc, oc, rfl, hcell, hx0, hx1⟩ := (HTW.out.1.rdi HC.out).at_ h1
        go_wp2_with fail
        refine (within_to x _ (b.length - p) _ (by omega) (by omega) hx0 hx1).mono ?_
        rintro e w' ⟨d, hd, rfl, rfl⟩
        obtain ⟨q, hq⟩ : ∃ q : Nat, q = p + d := ⟨_, rfl⟩
        have hpd : ((p : Int) + (d : Int)) = (q : Int) := by omega
        have hqb : q ≤ b.length := by omega
        obtain ⟨A', r, c', hsl, hrc', HRD, HFAR, HEQ, hrl, hqp⟩ := part_lh A1 b c1 p q (by omega) hqb hcb
        have hsl := hsl.out
        have hqr : ((q : Int) - (p : Int)) = (r.length : Int) := by omega
        clear hq hcell
        go_wp2_with fail
        refine (roomy_any r A' c' _ (HRD.out _ (HTW.out.1.rd HRb.out)) (by omega)).mono ?_
        rintro e w4 ⟨g, rfl, hroom⟩
        have HRO : Hid (Rd w4 (some ⟨g, 0, none⟩) (r ++ List.replicate 80 165)) := room_rd hroom
        have HT4 : Hid (One w B (b.take p) w4) := HTW.out.later hroom.2.1
        have HGN : Hid (g ≠ B) := fun e => by have h1 := hroom.2.2; have h2 := HTW.out.2.lt; omega
        have hfull := fun W => sl_h W (some ⟨g, 0, none⟩) (r.length + 80) (r.length + 80) r.length (by omega)
        clear hroom HTW
        go_wp2_with fail
        refine (write_any _ B (b.take p) r (some ⟨g, 0, none⟩) (r.length + 80) HT4.out.2 (HT4.out.1.kat HK.out) HGB.out (fun _ e => HGN.out (by simpa using e)) (by have := HRO.out.take r.length; rwa [take_app] at this) (by omega) (by rw [List.length_take]; omega)).mono ?_
        rintro e w5 ⟨rfl, hst, hk⟩
        rw [← HEQ.out] at hst
        have HT5 : Hid (One w B (b.take q) w5) := HT4.out.put hst hk hBw
        have HRO5 : Hid (Rd w5 (some ⟨g, 0, none⟩) (r ++ List.replicate 80 165)) := HRO.out.keeps hk (fun _ e => HGN.out (by simpa using e))
        clear hst hk hfull HT4 HRO
        go_wp2_with fail
        refine (intact_any r (some ⟨g, 0, none⟩) A' (r.length + 80) c' w5 HRO5.out (by omega) (HRD.out _ (HT5.out.1.rd HRb.out)) (by omega)).mono ?_
        rintro e w6 ⟨rfl, nd, rfl⟩
        have HT6 : Hid (One w B (b.take q) (w5.drewN nd)) := HT5.out.drewN nd
        generalize w5.drewN nd = w6 at *
        clear hsl HT5 HRO5
        obtain ⟨r2, hslh, hr2c, HRD2, HEQ2, HLN2, hr2l⟩ := part_h A1 b c1 q hqb hcb
        have HS6 : Hid (St w6 B r2) := by show St _ _ _; rw [HEQ2.out]; exact HT6.out.2
        have HL6 : Hid (Later w w6) := HT6.out.1
        have HK6 : Hid (KAt w6) := HL6.out.kat HK.out
        go_upto_region 18 with (fail)
        refine Rg.wp_region_facts (by kernel_rfl) (fun j => List.getD [Rg.val (.pointer (some ⟨B, 0, none⟩)), Rg.val (.int .i64 (q : Nat)), Rg.val (.int .i64 (q : Nat)), Rg.val (.bool false), Rg.val (.bool false), Rg.val (.pointer (some ⟨B, 0, none⟩)), bRow (Sh.sum (r2)), Rg.val (.string (strOf (Sh.sum (r2)))), Rg.val (.slice A1 b.length c1), Rg.val (.int .i64 (q : Nat)), Rg.val (.slice A1 r2.length c1), bRow (Sh.sum r2), Rg.val (.string (strOf (Sh.sum r2))), Rg.val (.bool false), Rg.val (.bool false)] j Rg.any) [[], [(0, 87)], [], [(1, 88), (2, 89)], [(3, 90)], [(4, 91)], [(4, 91), (5, 92)], [(4, 91), (6, 93)], [(4, 91)], [(4, 91)], [(4, 91), (8, 95), (9, 96)], [(4, 91), (10, 97)], [(4, 91), (11, 98)], [(4, 91), (7, 94), (12, 99)], [(4, 91), (13, 100)]] [] (by kernel_rfl) (by kernel_rfl) ?_ ?_
        · intro fr ha
          have hz : fr.tmps.size = 133 := by rw [ha]; rfl
          have y0 : fr.eval (.tmp 0) = .slice A1 b.length c1 := by rw [ha]; rfl
          have y7 : fr.eval (.tmp 7) = .pointer (some ⟨B, 0, none⟩) := by rw [ha]; rfl
          have y8 : fr.eval (.tmp 8) = .int .i64 (q : Nat) := by rw [ha]; rfl
          clear ha
          refine .cons ?_ (.cons ?_ (.cons ?_ (.cons ?_ (.cons ?_ (.cons ?_ (.cons ?_ (.cons ?_ (.cons ?_ (.cons ?_ (.cons ?_ (.cons ?_ (.cons ?_ (.cons ?_ (.cons ?_ (.nil)))))))))))))))
          · intro V w2 HL HH
            have HL : Later w6 w2 := HL
            have tb7 : (Rg.putUse V [] fr).eval (.tmp 7) = .pointer (some ⟨B, 0, none⟩) := (Rg.use_eval V fr 7 [] (by simp only [hz]; decide)).trans y7
            show Rg.Does1 _ _ V (Rg.putUse V [] fr) w2 _
            exact step_mv (.pointer (some ⟨B, 0, none⟩)) (by simp only [execOp, tb7]; go_simp) rfl rfl True.intro
          · intro V w2 HL HH
            have HL : Later w6 w2 := HL
            have h0 : V 0 = .pointer (some ⟨B, 0, none⟩) := HH.1
            have tb87 : (Rg.putUse V [(0, 87)] fr).eval (.tmp 87) = .pointer (some ⟨B, 0, none⟩) := (Rg.use_eval V fr 87 [(0, 87)] (by simp only [hz]; decide)).trans h0
            show Rg.Does1 _ _ V (Rg.putUse V [(0, 87)] fr) w2 _
            exact step_num #[.pointer (some ⟨B, 0, none⟩)] (.int .i64 (q : Nat)) (fun args w => Rg.call_enter Tryd.func14 (by kernel_rfl) (by kernel_rfl) args w) rfl (by simp only [List.map_toArray, List.map_cons, List.map_nil, tb87]) rfl rfl True.intro ((len_any _ B r2 (HL.st HS6.out) (by first | omega | simp)).mono (fun e w3 ⟨h1, h2⟩ => ⟨by rw [h1, HLN2.out], h2 ▸ Below.refl _ _⟩))
          · intro V w2 HL HH
            have HL : Later w6 w2 := HL
            have tb8 : (Rg.putUse V [] fr).eval (.tmp 8) = .int .i64 (q : Nat) := (Rg.use_eval V fr 8 [] (by simp only [hz]; decide)).trans y8
            show Rg.Does1 _ _ V (Rg.putUse V [] fr) w2 _
            exact step_mv (.int .i64 (q : Nat)) (by simp only [execOp, tb8]; go_simp) rfl rfl True.intro
          · intro V w2 HL HH
            have HL : Later w6 w2 := HL
            have h1 : V 1 = .int .i64 (q : Nat) := HH.1
            have h2 : V 2 = .int .i64 (q : Nat) := HH.2.1
            have tb88 : (Rg.putUse V [(1, 88), (2, 89)] fr).eval (.tmp 88) = .int .i64 (q : Nat) := (Rg.use_eval V fr 88 [(1, 88), (2, 89)] (by simp only [hz]; decide)).trans h1
            have tb89 : (Rg.putUse V [(1, 88), (2, 89)] fr).eval (.tmp 89) = .int .i64 (q : Nat) := (Rg.use_eval V fr 89 [(1, 88), (2, 89)] (by simp only [hz]; decide)).trans h2
            show Rg.Does1 _ _ V (Rg.putUse V [(1, 88), (2, 89)] fr) w2 _
            exact step_mv (.bool false) (by simp only [execOp, tb88, tb89]; go_simp) rfl rfl True.intro
          · intro V w2 HL HH
            have HL : Later w6 w2 := HL
            have h3 : V 3 = .bool false := HH.1
            have tb90 : (Rg.putUse V [(3, 90)] fr).eval (.tmp 90) = .bool false := (Rg.use_eval V fr 90 [(3, 90)] (by simp only [hz]; decide)).trans h3
            show Rg.Does1 _ _ V (Rg.putUse V [(3, 90)] fr) w2 _
            exact step_mv (.bool false) (by simp only [execOp, tb90]; go_simp) rfl rfl True.intro
          · intro V w2 HL HH
            have HL : Later w6 w2 := HL
            have h4 : V 4 = .bool false := HH.1
            have tb7 : (Rg.putUse V [(4, 91)] fr).eval (.tmp 7) = .pointer (some ⟨B, 0, none⟩) := (Rg.use_eval V fr 7 [(4, 91)] (by simp only [hz]; decide)).trans y7
            show Rg.Does1 _ _ V (Rg.putUse V [(4, 91)] fr) w2 _
            exact step_mv (.pointer (some ⟨B, 0, none⟩)) (by simp only [execOp, tb7]; go_simp) rfl rfl h4
          · intro V w2 HL HH
            have HL : Later w6 w2 := HL
            have h4 : V 4 = .bool false := HH.1
            have h5 : V 5 = .pointer (some ⟨B, 0, none⟩) := HH.2.1
            have tb92 : (Rg.putUse V [(4, 91), (5, 92)] fr).eval (.tmp 92) = .pointer (some ⟨B, 0, none⟩) := (Rg.use_eval V fr 92 [(4, 91), (5, 92)] (by simp only [hz]; decide)).trans h5
            show Rg.Does1 _ _ V (Rg.putUse V [(4, 91), (5, 92)] fr) w2 _
            exact step_row #[.pointer (some ⟨B, 0, none⟩)] (Sh.sum (r2)) (fun args w => Rg.call_enter Tryd.func15 (by kernel_rfl) (by kernel_rfl) args w) rfl (by simp only [List.map_toArray, List.map_cons, List.map_nil, tb92]) (by rw [Sh.sum_length]) rfl rfl h4 (streamSum_any _ B (r2) (HL.st HS6.out) (HL.kat HK6.out) (by first | omega | (simp; done) | (simp; omega)))
          · intro V w2 HL HH
            have HL : Later w6 w2 := HL
            have h4 : V 4 = .bool false := HH.1
            have h6 : (bRow (Sh.sum (r2))).holds (V 6) w2 := HH.2.1
            obtain ⟨X6, k6, e6, hc6, hr6⟩ := bRow_form h6
            have tb93 : (Rg.putUse V [(4, 91), (6, 93)] fr).eval (.tmp 93) = .slice X6 (Sh.sum (r2)).length k6 := (Rg.use_eval V fr 93 [(4, 91), (6, 93)] (by simp only [hz]; decide)).trans e6
            show Rg.Does1 _ _ V (Rg.putUse V [(4, 91), (6, 93)] fr) w2 _
            exact step_str (Sh.sum (r2)) rfl tb93 (by first | rfl | rw [Sh.sum_length]) (hr6) rfl rfl h4
          · intro V w2 HL HH
            have HL : Later w6 w2 := HL
            have h4 : V 4 = .bool false := HH.1
            have tb0 : (Rg.putUse V [(4, 91)] fr).eval (.tmp 0) = .slice A1 b.length c1 := (Rg.use_eval V fr 0 [(4, 91)] (by simp only [hz]; decide)).trans y0
            show Rg.Does1 _ _ V (Rg.putUse V [(4, 91)] fr) w2 _
            exact step_mv (.slice A1 b.length c1) (by simp only [execOp, tb0]; go_simp) rfl rfl h4
          · intro V w2 HL HH
            have HL : Later w6 w2 := HL
            have h4 : V 4 = .bool false := HH.1
            have tb8 : (Rg.putUse V [(4, 91)] fr).eval (.tmp 8) = .int .i64 (q : Nat) := (Rg.use_eval V fr 8 [(4, 91)] (by simp only [hz]; decide)).trans y8
            show Rg.Does1 _ _ V (Rg.putUse V [(4, 91)] fr) w2 _
            exact step_mv (.int .i64 (q : Nat)) (by simp only [execOp, tb8]; go_simp) rfl rfl h4
          · intro V w2 HL HH
            have HL : Later w6 w2 := HL
            have h4 : V 4 = .bool false := HH.1
            have h8 : V 8 = .slice A1 b.length c1 := HH.2.1
            have h9 : V 9 = .int .i64 (q : Nat) := HH.2.2.1
            have tb95 : (Rg.putUse V [(4, 91), (8, 95), (9, 96)] fr).eval (.tmp 95) = .slice A1 b.length c1 := (Rg.use_eval V fr 95 [(4, 91), (8, 95), (9, 96)] (by simp only [hz]; decide)).trans h8
            have tb96 : (Rg.putUse V [(4, 91), (8, 95), (9, 96)] fr).eval (.tmp 96) = .int .i64 (q : Nat) := (Rg.use_eval V fr 96 [(4, 91), (8, 95), (9, 96)] (by simp only [hz]; decide)).trans h9
            show Rg.Does1 _ _ V (Rg.putUse V [(4, 91), (8, 95), (9, 96)] fr) w2 _
            exact step_slh rfl tb95 tb96 (hslh.out w2) rfl rfl h4
          · intro V w2 HL HH
            have HL : Later w6 w2 := HL
            have h4 : V 4 = .bool false := HH.1
            have h10 : V 10 = .slice A1 r2.length c1 := HH.2.1
            have tb97 : (Rg.putUse V [(4, 91), (10, 97)] fr).eval (.tmp 97) = .slice A1 r2.length c1 := (Rg.use_eval V fr 97 [(4, 91), (10, 97)] (by simp only [hz]; decide)).trans h10
            show Rg.Does1 _ _ V (Rg.putUse V [(4, 91), (10, 97)] fr) w2 _
            exact step_row #[.slice A1 (r2).length c1] (Sh.sum r2) (fun args w => Rg.call_enter Tryd.func8 (by kernel_rfl) (by kernel_rfl) args w) rfl (by simp only [List.map_toArray, List.map_cons, List.map_nil, tb97]) (by rw [Sh.sum_length]) rfl rfl h4 (HSUM.out _ (r2) A1 c1 (HRD2.out _ ((HL6.out.trans HL).rd HRb.out)) (by first | omega | (simp; done) | (simp; omega)))
          · intro V w2 HL HH
            have HL : Later w6 w2 := HL
            have h4 : V 4 = .bool false := HH.1
            have h11 : (bRow (Sh.sum r2)).holds (V 11) w2 := HH.2.1
            obtain ⟨X11, k11, e11, hc11, hr11⟩ := bRow_form h11
            have tb98 : (Rg.putUse V [(4, 91), (11, 98)] fr).eval (.tmp 98) = .slice X11 (Sh.sum r2).length k11 := (Rg.use_eval V fr 98 [(4, 91), (11, 98)] (by simp only [hz]; decide)).trans e11
            show Rg.Does1 _ _ V (Rg.putUse V [(4, 91), (11, 98)] fr) w2 _
            exact step_str (Sh.sum r2) rfl tb98 (by first | rfl | rw [Sh.sum_length]) (hr11) rfl rfl h4
          · intro V w2 HL HH
            have HL : Later w6 w2 := HL
            have h4 : V 4 = .bool false := HH.1
            have h7 : V 7 = .string (strOf (Sh.sum (r2))) := HH.2.1
            have h12 : V 12 = .string (strOf (Sh.sum r2)) := HH.2.2.1
            have tb94 : (Rg.putUse V [(4, 91), (7, 94), (12, 99)] fr).eval (.tmp 94) = .string (strOf (Sh.sum (r2))) := (Rg.use_eval V fr 94 [(4, 91), (7, 94), (12, 99)] (by simp only [hz]; decide)).trans h7
            have tb99 : (Rg.putUse V [(4, 91), (7, 94), (12, 99)] fr).eval (.tmp 99) = .string (strOf (Sh.sum r2)) := (Rg.use_eval V fr 99 [(4, 91), (7, 94), (12, 99)] (by simp only [hz]; decide)).trans h12
            show Rg.Does1 _ _ V (Rg.putUse V [(4, 91), (7, 94), (12, 99)] fr) w2 _
            exact step_mv (.bool false) (by simp only [execOp, tb94, tb99]; go_simp) rfl rfl h4
          · intro V w2 HL HH
            have HL : Later w6 w2 := HL
            have h4 : V 4 = .bool false := HH.1
            have h13 : V 13 = .bool false := HH.2.1
            have tb91 : (Rg.putUse V [(4, 91), (13, 100)] fr).eval (.tmp 91) = .bool false := (Rg.use_eval V fr 91 [(4, 91), (13, 100)] (by simp only [hz]; decide)).trans h4
            have tb100 : (Rg.putUse V [(4, 91), (13, 100)] fr).eval (.tmp 100) = .bool false := (Rg.use_eval V fr 100 [(4, 91), (13, 100)] (by simp only [hz]; decide)).trans h13
            show Rg.Does1 _ _ V (Rg.putUse V [(4, 91), (13, 100)] fr) w2 _
            exact step_mv (.bool false) (by simp only [execOp, tb91, tb100]; go_simp) rfl rfl True.intro
        · intro V w2 HI
          have h14 : V 14 = .bool false := HI.get 14 (by decide) (by rfl)
          simp only [Rg.putList, Act.put, List.setIfInBounds_toArray, List.set_cons_zero, List.set_cons_succ, Nat.zero_add, Nat.reduceAdd]
          rw [h14]
          have HT7 : Hid (One w B (b.take q) w2) := HT6.out.later (later_drew HI.later)
          clear HI
          go_wp2_with fail
          go_roundw
          case rel => exact ⟨q, i + 1, hqb, by omega, rfl, by go_num, HT7⟩
          case measure => simp [intOf]; omega
      · obtain ⟨A', r, c', hsl, hrc', HRD, HFAR, HEQ, hrl⟩ := part_l A1 b c1 p hp hcb
        have hsl := hsl.out
        by_cases h1 : i < cs.length
        case' pos => have h2 : ¬ i < 20 := fun h => hlt ⟨h1, h⟩
        all_goals
          clear hlt
          go_wp2_with fail
          refine (write_any _ B (b.take p) r A' c' HTW.out.2 (HTW.out.1.kat HK.out) HGB.out (HFAR.out B (HRb.out.far hBw)) (HRD.out _ (HTW.out.1.rd HRb.out)) hrc' (by rw [List.length_take]; omega)).mono ?_
          rintro e w6 ⟨rfl, hst, hk⟩
          rw [← HEQ.out] at hst
          have HS6 : Hid (St w6 B b) := hst
          have HL6 : Hid (Later w w6) := HTW.out.1.keeps hk hBw
          have HK6 : Hid (KAt w6) := HL6.out.kat HK.out
          clear hst hk hsl HTW HRD HFAR HEQ hrl hrc' hp hi
          go_upto_region 21 with (fail)
          refine Rg.wp_region_facts (by kernel_rfl) (fun j => List.getD [Rg.val (.pointer (some ⟨B, 0, none⟩)), bRow (Sh.sum (b)), Rg.val (.string (strOf (Sh.sum (b)))), Rg.val (.slice A1 b.length c1), bRow (Sh.sum b), Rg.val (.string (strOf (Sh.sum b))), Rg.val (.bool true), Rg.val (.bool true), Rg.val (.pointer (some ⟨B, 0, none⟩)), bRow (Sh.sum (b)), Rg.val (.string (strOf (Sh.sum (b)))), Rg.val (.slice A1 b.length c1), bRow (Sh.sum b), Rg.val (.string (strOf (Sh.sum b))), Rg.val (.bool true), Rg.val (.bool true), Rg.val (.bool true), Rg.val (.pointer (some ⟨B, 0, none⟩)), Rg.val (.int .i64 (b.length : Nat)), Rg.val (.slice A1 b.length c1), Rg.val (.int .i64 ((b).length : Nat)), Rg.val (.bool true), Rg.val (.bool true), Rg.val (.bool true), Rg.val (.bool true), Rg.val (.bool true), Rg.val (.bool true)] j Rg.any) [[], [(0, 107)], [(1, 108)], [], [(3, 110)], [(4, 111)], [(2, 109), (5, 112)], [(6, 113)], [(7, 114)], [(7, 114), (8, 115)], [(7, 114), (9, 116)], [(7, 114)], [(7, 114), (11, 118)], [(7, 114), (12, 119)], [(7, 114), (10, 117), (13, 120)], [(7, 114), (14, 121)], [(15, 122)], [(16, 123)], [(16, 123), (17, 124)], [(16, 123)], [(16, 123), (19, 126)], [(16, 123), (18, 125), (20, 127)], [(16, 123), (21, 128)], [(22, 129)], [(23, 130)], [(23, 130), (24, 131)], [(25, 132)]] [] (by kernel_rfl) (by kernel_rfl) ?_ ?_
          · intro fr ha
            have hz : fr.tmps.size = 133 := by rw [ha]; rfl
            have y0 : fr.eval (.tmp 0) = .slice A1 b.length c1 := by rw [ha]; rfl
            have y7 : fr.eval (.tmp 7) = .pointer (some ⟨B, 0, none⟩) := by rw [ha]; rfl
            clear ha
            refine .cons ?_ (.cons ?_ (.cons ?_ (.cons ?_ (.cons ?_ (.cons ?_ (.cons ?_ (.cons ?_ (.cons ?_ (.cons ?_ (.cons ?_ (.cons ?_ (.cons ?_ (.cons ?_ (.cons ?_ (.cons ?_ (.cons ?_ (.cons ?_ (.cons ?_ (.cons ?_ (.cons ?_ (.cons ?_ (.cons ?_ (.cons ?_ (.cons ?_ (.cons ?_ (.cons ?_ (.nil)))))))))))))))))))))))))))
            · intro V w2 HL HH
              have HL : Later w6 w2 := HL
              have tb7 : (Rg.putUse V [] fr).eval (.tmp 7) = .pointer (some ⟨B, 0, none⟩) := (Rg.use_eval V fr 7 [] (by simp only [hz]; decide)).trans y7
              show Rg.Does1 _ _ V (Rg.putUse V [] fr) w2 _
              exact step_mv (.pointer (some ⟨B, 0, none⟩)) (by simp only [execOp, tb7]; go_simp) rfl rfl True.intro
            · intro V w2 HL HH
              have HL : Later w6 w2 := HL
              have h0 : V 0 = .pointer (some ⟨B, 0, none⟩) := HH.1
              have tb107 : (Rg.putUse V [(0, 107)] fr).eval (.tmp 107) = .pointer (some ⟨B, 0, none⟩) := (Rg.use_eval V fr 107 [(0, 107)] (by simp only [hz]; decide)).trans h0
              show Rg.Does1 _ _ V (Rg.putUse V [(0, 107)] fr) w2 _
              exact step_row #[.pointer (some ⟨B, 0, none⟩)] (Sh.sum (b)) (fun args w => Rg.call_enter Tryd.func15 (by kernel_rfl) (by kernel_rfl) args w) rfl (by simp only [List.map_toArray, List.map_cons, List.map_nil, tb107]) (by rw [Sh.sum_length]) rfl rfl True.intro (streamSum_any _ B (b) (HL.st HS6.out) (HL.kat HK6.out) (by first | omega | (simp; done) | (simp; omega)))
            · intro V w2 HL HH
              have HL : Later w6 w2 := HL
              have h1 : (bRow (Sh.sum (b))).holds (V 1) w2 := HH.1
              obtain ⟨X1, k1, e1, hc1, hr1⟩ := bRow_form h1
              have tb108 : (Rg.putUse V [(1, 108)] fr).eval (.tmp 108) = .slice X1 (Sh.sum (b)).length k1 := (Rg.use_eval V fr 108 [(1, 108)] (by simp only [hz]; decide)).trans e1
              show Rg.Does1 _ _ V (Rg.putUse V [(1, 108)] fr) w2 _
              exact step_str (Sh.sum (b)) rfl tb108 (by first | rfl | rw [Sh.sum_length]) (hr1) rfl rfl True.intro
            · intro V w2 HL HH
              have HL : Later w6 w2 := HL
              have tb0 : (Rg.putUse V [] fr).eval (.tmp 0) = .slice A1 b.length c1 := (Rg.use_eval V fr 0 [] (by simp only [hz]; decide)).trans y0
              show Rg.Does1 _ _ V (Rg.putUse V [] fr) w2 _
              exact step_mv (.slice A1 b.length c1) (by simp only [execOp, tb0]; go_simp) rfl rfl True.intro
            · intro V w2 HL HH
              have HL : Later w6 w2 := HL
              have h3 : V 3 = .slice A1 b.length c1 := HH.1
              have tb110 : (Rg.putUse V [(3, 110)] fr).eval (.tmp 110) = .slice A1 b.length c1 := (Rg.use_eval V fr 110 [(3, 110)] (by simp only [hz]; decide)).trans h3
              show Rg.Does1 _ _ V (Rg.putUse V [(3, 110)] fr) w2 _
              exact step_row #[.slice A1 (b).length c1] (Sh.sum b) (fun args w => Rg.call_enter Tryd.func8 (by kernel_rfl) (by kernel_rfl) args w) rfl (by simp only [List.map_toArray, List.map_cons, List.map_nil, tb110]) (by rw [Sh.sum_length]) rfl rfl True.intro (HSUM.out _ (b) A1 c1 ((HL6.out.trans HL).rd HRb.out) (by first | omega | (simp; done) | (simp; omega)))
            · intro V w2 HL HH
              have HL : Later w6 w2 := HL
              have h4 : (bRow (Sh.sum b)).holds (V 4) w2 := HH.1
              obtain ⟨X4, k4, e4, hc4, hr4⟩ := bRow_form h4
              have tb111 : (Rg.putUse V [(4, 111)] fr).eval (.tmp 111) = .slice X4 (Sh.sum b).length k4 := (Rg.use_eval V fr 111 [(4, 111)] (by simp only [hz]; decide)).trans e4
              show Rg.Does1 _ _ V (Rg.putUse V [(4, 111)] fr) w2 _
              exact step_str (Sh.sum b) rfl tb111 (by first | rfl | rw [Sh.sum_length]) (hr4) rfl rfl True.intro
            · intro V w2 HL HH
              have HL : Later w6 w2 := HL
              have h2 : V 2 = .string (strOf (Sh.sum (b))) := HH.1
              have h5 : V 5 = .string (strOf (Sh.sum b)) := HH.2.1
              have tb109 : (Rg.putUse V [(2, 109), (5, 112)] fr).eval (.tmp 109) = .string (strOf (Sh.sum (b))) := (Rg.use_eval V fr 109 [(2, 109), (5, 112)] (by simp only [hz]; decide)).trans h2
              have tb112 : (Rg.putUse V [(2, 109), (5, 112)] fr).eval (.tmp 112) = .string (strOf (Sh.sum b)) := (Rg.use_eval V fr 112 [(2, 109), (5, 112)] (by simp only [hz]; decide)).trans h5
              show Rg.Does1 _ _ V (Rg.putUse V [(2, 109), (5, 112)] fr) w2 _
              exact step_mv (.bool true) (by simp only [execOp, tb109, tb112]; go_simp) rfl rfl True.intro
            · intro V w2 HL HH
              have HL : Later w6 w2 := HL
              have h6 : V 6 = .bool true := HH.1
              have tb113 : (Rg.putUse V [(6, 113)] fr).eval (.tmp 113) = .bool true := (Rg.use_eval V fr 113 [(6, 113)] (by simp only [hz]; decide)).trans h6
              show Rg.Does1 _ _ V (Rg.putUse V [(6, 113)] fr) w2 _
              exact step_mv (.bool true) (by simp only [execOp, tb113]; go_simp) rfl rfl True.intro
            · intro V w2 HL HH
              have HL : Later w6 w2 := HL
              have h7 : V 7 = .bool true := HH.1
              have tb7 : (Rg.putUse V [(7, 114)] fr).eval (.tmp 7) = .pointer (some ⟨B, 0, none⟩) := (Rg.use_eval V fr 7 [(7, 114)] (by simp only [hz]; decide)).trans y7
              show Rg.Does1 _ _ V (Rg.putUse V [(7, 114)] fr) w2 _
              exact step_mv (.pointer (some ⟨B, 0, none⟩)) (by simp only [execOp, tb7]; go_simp) rfl rfl h7
            · intro V w2 HL HH
              have HL : Later w6 w2 := HL
              have h7 : V 7 = .bool true := HH.1
              have h8 : V 8 = .pointer (some ⟨B, 0, none⟩) := HH.2.1
              have tb115 : (Rg.putUse V [(7, 114), (8, 115)] fr).eval (.tmp 115) = .pointer (some ⟨B, 0, none⟩) := (Rg.use_eval V fr 115 [(7, 114), (8, 115)] (by simp only [hz]; decide)).trans h8
              show Rg.Does1 _ _ V (Rg.putUse V [(7, 114), (8, 115)] fr) w2 _
              exact step_row #[.pointer (some ⟨B, 0, none⟩)] (Sh.sum (b)) (fun args w => Rg.call_enter Tryd.func15 (by kernel_rfl) (by kernel_rfl) args w) rfl (by simp only [List.map_toArray, List.map_cons, List.map_nil, tb115]) (by rw [Sh.sum_length]) rfl rfl h7 (streamSum_any _ B (b) (HL.st HS6.out) (HL.kat HK6.out) (by first | omega | (simp; done) | (simp; omega)))
            · intro V w2 HL HH
              have HL : Later w6 w2 := HL
              have h7 : V 7 = .bool true := HH.1
              have h9 : (bRow (Sh.sum (b))).holds (V 9) w2 := HH.2.1
              obtain ⟨X9, k9, e9, hc9, hr9⟩ := bRow_form h9
              have tb116 : (Rg.putUse V [(7, 114), (9, 116)] fr).eval (.tmp 116) = .slice X9 (Sh.sum (b)).length k9 := (Rg.use_eval V fr 116 [(7, 114), (9, 116)] (by simp only [hz]; decide)).trans e9
              show Rg.Does1 _ _ V (Rg.putUse V [(7, 114), (9, 116)] fr) w2 _
              exact step_str (Sh.sum (b)) rfl tb116 (by first | rfl | rw [Sh.sum_length]) (hr9) rfl rfl h7
            · intro V w2 HL HH
              have HL : Later w6 w2 := HL
              have h7 : V 7 = .bool true := HH.1
              have tb0 : (Rg.putUse V [(7, 114)] fr).eval (.tmp 0) = .slice A1 b.length c1 := (Rg.use_eval V fr 0 [(7, 114)] (by simp only [hz]; decide)).trans y0
              show Rg.Does1 _ _ V (Rg.putUse V [(7, 114)] fr) w2 _
              exact step_mv (.slice A1 b.length c1) (by simp only [execOp, tb0]; go_simp) rfl rfl h7
            · intro V w2 HL HH
              have HL : Later w6 w2 := HL
              have h7 : V 7 = .bool true := HH.1
              have h11 : V 11 = .slice A1 b.length c1 := HH.2.1
              have tb118 : (Rg.putUse V [(7, 114), (11, 118)] fr).eval (.tmp 118) = .slice A1 b.length c1 := (Rg.use_eval V fr 118 [(7, 114), (11, 118)] (by simp only [hz]; decide)).trans h11
              show Rg.Does1 _ _ V (Rg.putUse V [(7, 114), (11, 118)] fr) w2 _
              exact step_row #[.slice A1 (b).length c1] (Sh.sum b) (fun args w => Rg.call_enter Tryd.func7 (by kernel_rfl) (by kernel_rfl) args w) rfl (by simp only [List.map_toArray, List.map_cons, List.map_nil, tb118]) (by rw [Sh.sum_length]) rfl rfl h7 (sum_any _ (b) A1 c1 ((HL6.out.trans HL).rd HRb.out) (hcb) (HL.kat HK6.out) (by first | omega | (simp; done) | (simp; omega)))
            · intro V w2 HL HH
              have HL : Later w6 w2 := HL
              have h7 : V 7 = .bool true := HH.1
              have h12 : (bRow (Sh.sum b)).holds (V 12) w2 := HH.2.1
              obtain ⟨X12, k12, e12, hc12, hr12⟩ := bRow_form h12
              have tb119 : (Rg.putUse V [(7, 114), (12, 119)] fr).eval (.tmp 119) = .slice X12 (Sh.sum b).length k12 := (Rg.use_eval V fr 119 [(7, 114), (12, 119)] (by simp only [hz]; decide)).trans e12
              show Rg.Does1 _ _ V (Rg.putUse V [(7, 114), (12, 119)] fr) w2 _
              exact step_str (Sh.sum b) rfl tb119 (by first | rfl | rw [Sh.sum_length]) (hr12) rfl rfl h7
            · intro V w2 HL HH
              have HL : Later w6 w2 := HL
              have h7 : V 7 = .bool true := HH.1
              have h10 : V 10 = .string (strOf (Sh.sum (b))) := HH.2.1
              have h13 : V 13 = .string (strOf (Sh.sum b)) := HH.2.2.1
              have tb117 : (Rg.putUse V [(7, 114), (10, 117), (13, 120)] fr).eval (.tmp 117) = .string (strOf (Sh.sum (b))) := (Rg.use_eval V fr 117 [(7, 114), (10, 117), (13, 120)] (by simp only [hz]; decide)).trans h10
              have tb120 : (Rg.putUse V [(7, 114), (10, 117), (13, 120)] fr).eval (.tmp 120) = .string (strOf (Sh.sum b)) := (Rg.use_eval V fr 120 [(7, 114), (10, 117), (13, 120)] (by simp only [hz]; decide)).trans h13
              show Rg.Does1 _ _ V (Rg.putUse V [(7, 114), (10, 117), (13, 120)] fr) w2 _
              exact step_mv (.bool true) (by simp only [execOp, tb117, tb120]; go_simp) rfl rfl h7
            · intro V w2 HL HH
              have HL : Later w6 w2 := HL
              have h7 : V 7 = .bool true := HH.1
              have h14 : V 14 = .bool true := HH.2.1
              have tb114 : (Rg.putUse V [(7, 114), (14, 121)] fr).eval (.tmp 114) = .bool true := (Rg.use_eval V fr 114 [(7, 114), (14, 121)] (by simp only [hz]; decide)).trans h7
              have tb121 : (Rg.putUse V [(7, 114), (14, 121)] fr).eval (.tmp 121) = .bool true := (Rg.use_eval V fr 121 [(7, 114), (14, 121)] (by simp only [hz]; decide)).trans h14
              show Rg.Does1 _ _ V (Rg.putUse V [(7, 114), (14, 121)] fr) w2 _
              exact step_mv (.bool true) (by simp only [execOp, tb114, tb121]; go_simp) rfl rfl True.intro
            · intro V w2 HL HH
              have HL : Later w6 w2 := HL
              have h15 : V 15 = .bool true := HH.1
              have tb122 : (Rg.putUse V [(15, 122)] fr).eval (.tmp 122) = .bool true := (Rg.use_eval V fr 122 [(15, 122)] (by simp only [hz]; decide)).trans h15
              show Rg.Does1 _ _ V (Rg.putUse V [(15, 122)] fr) w2 _
              exact step_mv (.bool true) (by simp only [execOp, tb122]; go_simp) rfl rfl True.intro
            · intro V w2 HL HH
              have HL : Later w6 w2 := HL
              have h16 : V 16 = .bool true := HH.1
              have tb7 : (Rg.putUse V [(16, 123)] fr).eval (.tmp 7) = .pointer (some ⟨B, 0, none⟩) := (Rg.use_eval V fr 7 [(16, 123)] (by simp only [hz]; decide)).trans y7
              show Rg.Does1 _ _ V (Rg.putUse V [(16, 123)] fr) w2 _
              exact step_mv (.pointer (some ⟨B, 0, none⟩)) (by simp only [execOp, tb7]; go_simp) rfl rfl h16
            · intro V w2 HL HH
              have HL : Later w6 w2 := HL
              have h16 : V 16 = .bool true := HH.1
              have h17 : V 17 = .pointer (some ⟨B, 0, none⟩) := HH.2.1
              have tb124 : (Rg.putUse V [(16, 123), (17, 124)] fr).eval (.tmp 124) = .pointer (some ⟨B, 0, none⟩) := (Rg.use_eval V fr 124 [(16, 123), (17, 124)] (by simp only [hz]; decide)).trans h17
              show Rg.Does1 _ _ V (Rg.putUse V [(16, 123), (17, 124)] fr) w2 _
              exact step_num #[.pointer (some ⟨B, 0, none⟩)] (.int .i64 (b.length : Nat)) (fun args w => Rg.call_enter Tryd.func14 (by kernel_rfl) (by kernel_rfl) args w) rfl (by simp only [List.map_toArray, List.map_cons, List.map_nil, tb124]) rfl rfl h16 ((len_any _ B b (HL.st HS6.out) (by first | omega | simp)).mono (fun e w3 ⟨h1, h2⟩ => ⟨h1, h2 ▸ Below.refl _ _⟩))
            · intro V w2 HL HH
              have HL : Later w6 w2 := HL
              have h16 : V 16 = .bool true := HH.1
              have tb0 : (Rg.putUse V [(16, 123)] fr).eval (.tmp 0) = .slice A1 b.length c1 := (Rg.use_eval V fr 0 [(16, 123)] (by simp only [hz]; decide)).trans y0
              show Rg.Does1 _ _ V (Rg.putUse V [(16, 123)] fr) w2 _
              exact step_mv (.slice A1 b.length c1) (by simp only [execOp, tb0]; go_simp) rfl rfl h16
            · intro V w2 HL HH
              have HL : Later w6 w2 := HL
              have h16 : V 16 = .bool true := HH.1
              have h19 : V 19 = .slice A1 b.length c1 := HH.2.1
              have tb126 : (Rg.putUse V [(16, 123), (19, 126)] fr).eval (.tmp 126) = .slice A1 b.length c1 := (Rg.use_eval V fr 126 [(16, 123), (19, 126)] (by simp only [hz]; decide)).trans h19
              show Rg.Does1 _ _ V (Rg.putUse V [(16, 123), (19, 126)] fr) w2 _
              exact step_mv (.int .i64 ((b).length : Nat)) (by simp only [execOp, resolve, List.map_toArray, List.map_cons, List.map_nil, tb126]; go_simp) rfl rfl h16
            · intro V w2 HL HH
              have HL : Later w6 w2 := HL
              have h16 : V 16 = .bool true := HH.1
              have h18 : V 18 = .int .i64 (b.length : Nat) := HH.2.1
              have h20 : V 20 = .int .i64 ((b).length : Nat) := HH.2.2.1
              have tb125 : (Rg.putUse V [(16, 123), (18, 125), (20, 127)] fr).eval (.tmp 125) = .int .i64 (b.length : Nat) := (Rg.use_eval V fr 125 [(16, 123), (18, 125), (20, 127)] (by simp only [hz]; decide)).trans h18
              have tb127 : (Rg.putUse V [(16, 123), (18, 125), (20, 127)] fr).eval (.tmp 127) = .int .i64 ((b).length : Nat) := (Rg.use_eval V fr 127 [(16, 123), (18, 125), (20, 127)] (by simp only [hz]; decide)).trans h20
              show Rg.Does1 _ _ V (Rg.putUse V [(16, 123), (18, 125), (20, 127)] fr) w2 _
              exact step_mv (.bool true) (by simp only [execOp, tb125, tb127]; go_simp) rfl rfl h16
            · intro V w2 HL HH
              have HL : Later w6 w2 := HL
              have h16 : V 16 = .bool true := HH.1
              have h21 : V 21 = .bool true := HH.2.1
              have tb123 : (Rg.putUse V [(16, 123), (21, 128)] fr).eval (.tmp 123) = .bool true := (Rg.use_eval V fr 123 [(16, 123), (21, 128)] (by simp only [hz]; decide)).trans h16
              have tb128 : (Rg.putUse V [(16, 123), (21, 128)] fr).eval (.tmp 128) = .bool true := (Rg.use_eval V fr 128 [(16, 123), (21, 128)] (by simp only [hz]; decide)).trans h21
              show Rg.Does1 _ _ V (Rg.putUse V [(16, 123), (21, 128)] fr) w2 _
              exact step_mv (.bool true) (by simp only [execOp, tb123, tb128]; go_simp) rfl rfl True.intro
            · intro V w2 HL HH
              have HL : Later w6 w2 := HL
              have h22 : V 22 = .bool true := HH.1
              have tb129 : (Rg.putUse V [(22, 129)] fr).eval (.tmp 129) = .bool true := (Rg.use_eval V fr 129 [(22, 129)] (by simp only [hz]; decide)).trans h22
              show Rg.Does1 _ _ V (Rg.putUse V [(22, 129)] fr) w2 _
              exact step_mv (.bool true) (by simp only [execOp, tb129]; go_simp) rfl rfl True.intro
            · intro V w2 HL HH
              have HL : Later w6 w2 := HL
              have h23 : V 23 = .bool true := HH.1
              show Rg.Does1 _ _ V (Rg.putUse V [(23, 130)] fr) w2 _
              exact step_num #[] (.bool true) (fun args w => Rg.call_enter Tryd.func16 (by kernel_rfl) (by kernel_rfl) args w) rfl (by simp only [List.map_toArray, List.map_nil]) rfl rfl h23 (known_any _ (HL.kat HK6.out))
            · intro V w2 HL HH
              have HL : Later w6 w2 := HL
              have h23 : V 23 = .bool true := HH.1
              have h24 : V 24 = .bool true := HH.2.1
              have tb130 : (Rg.putUse V [(23, 130), (24, 131)] fr).eval (.tmp 130) = .bool true := (Rg.use_eval V fr 130 [(23, 130), (24, 131)] (by simp only [hz]; decide)).trans h23
              have tb131 : (Rg.putUse V [(23, 130), (24, 131)] fr).eval (.tmp 131) = .bool true := (Rg.use_eval V fr 131 [(23, 130), (24, 131)] (by simp only [hz]; decide)).trans h24
              show Rg.Does1 _ _ V (Rg.putUse V [(23, 130), (24, 131)] fr) w2 _
              exact step_mv (.bool true) (by simp only [execOp, tb130, tb131]; go_simp) rfl rfl True.intro
            · intro V w2 HL HH
              have HL : Later w6 w2 := HL
              have h25 : V 25 = .bool true := HH.1
              have tb132 : (Rg.putUse V [(25, 132)] fr).eval (.tmp 132) = .bool true := (Rg.use_eval V fr 132 [(25, 132)] (by simp only [hz]; decide)).trans h25
              show Rg.Does1 _ _ V (Rg.putUse V [(25, 132)] fr) w2 _
              exact step_mv (.bool true) (by simp only [execOp, tb132]; go_simp) rfl rfl True.intro
          · intro V w2 HI
            have h26 : V 26 = .bool true := HI.get 26 (by decide) (by rfl)
            simp only [Rg.putList, Act.put, List.setIfInBounds_toArray, List.set_cons_zero, List.set_cons_succ, Nat.zero_add, Nat.reduceAdd]
            rw [h26]
            have HLE : Hid (Later w w2) := HL6.out.trans (later_drew HI.later)
            clear HI
            go_wp2_with fail
            go_ret
            exact ⟨rfl, HLE.out⟩
end Go.Proofs.YtbdbccdkimkhbaaDoor
