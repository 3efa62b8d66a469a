/-
  OWN WORK. The law ShaParts, walked.
-/
import Derived.Test.YtbdbccdkimkhbaaDoorShRg
namespace Go.Proofs.YtbdbccdkimkhbaaDoor
open Go.RowKit Sh

set_option maxHeartbeats 8000000 in
set_option maxRecDepth 100000 in
theorem parts_any (w : World) (a b : List UInt8) (A1 A2 : Option Addr) (c1 c2 : Nat) (hra : Rd w A1 a) (hca : a.length ≤ c1) (hrb : Rd w A2 b) (hcb : b.length ≤ c2) (hK : KAt w) (hla : a.length ≤ 9223372036854775807) (hlb : b.length ≤ 9223372036854775807) :
    Calls Tryd.prog 5 #[.slice A1 a.length c1, .slice A2 b.length c2] w fun e w' => e = .returned (.bool true) ∧ Below w.heap.size w w' := by
  have HK : Hid (KAt w) := hK
  have HA : Hid (Rd w A1 a) := hra
  have HB : Hid (Rd w A2 b) := hrb
  have HL1 := Lib.hid hca
  have HL2 := Lib.hid hcb
  have HL3 := Lib.hid hla
  have HL4 := Lib.hid hlb
  clear hra hrb hK hca hcb hla hlb
  go_enter Tryd.func5, Tryd.ntmps5
  go_wp2_with fail
  refine (cut_to A1 a c1 200 _ HA.out HL1.out (by omega) HL3.out).mono ?_
  clear HL1 HL3 HA
  rintro e w' ⟨a1, rfl, rfl, ha2, hca, HRa⟩
  go_wp2_with fail
  refine (cut_to A2 b c2 200 _ HB.out HL2.out (by omega) HL4.out).mono ?_
  clear HL2 HL4 HB
  rintro e w' ⟨b1, rfl, rfl, hb2, hcb, HRb⟩
  go_upto_region 3 with (fail)
  refine Rg.wp_region_facts (by kernel_rfl) (fun j => List.getD [Rg.val (.slice A1 a1.length c1), bRow (Sh.sum (0 :: a1)), Rg.val (.string (strOf (Sh.sum (0 :: a1)))), bRow ([0]), Rg.val (.slice A1 a1.length c1), bRow (0 :: a1), bRow (Sh.sum (0 :: a1)), Rg.val (.string (strOf (Sh.sum (0 :: a1)))), Rg.val (.bool false), Rg.val (.bool false), Rg.val (.slice A1 a1.length c1), Rg.val (.slice A2 b1.length c2), bRow (Sh.sum (1 :: (a1 ++ b1))), Rg.val (.string (strOf (Sh.sum (1 :: (a1 ++ b1))))), bRow ([1]), Rg.val (.slice A1 a1.length c1), bRow (1 :: a1), Rg.val (.slice A2 b1.length c2), bRow (1 :: (a1 ++ b1)), bRow (Sh.sum (1 :: (a1 ++ b1))), Rg.val (.string (strOf (Sh.sum (1 :: (a1 ++ b1))))), Rg.val (.bool false), Rg.val (.bool false)] j Rg.any) [[], [(0, 14)], [(1, 15)], [], [], [(3, 17), (4, 18)], [(5, 19)], [(6, 20)], [(2, 16), (7, 21)], [(8, 22)], [(9, 23)], [(9, 23)], [(9, 23), (10, 24), (11, 25)], [(9, 23), (12, 26)], [(9, 23)], [(9, 23)], [(9, 23), (14, 28), (15, 29)], [(9, 23)], [(9, 23), (16, 30), (17, 31)], [(9, 23), (18, 32)], [(9, 23), (19, 33)], [(9, 23), (13, 27), (20, 34)], [(9, 23), (21, 35)]] [(5, 3), (16, 14), (18, 16)] (by kernel_rfl) (by kernel_rfl) ?_ ?_
  · intro fr ha
    have hz : fr.tmps.size = 89 := by rw [ha]; rfl
    have y0 : fr.eval (.tmp 0) = .slice A1 a1.length c1 := by rw [ha]; rfl
    have y1 : fr.eval (.tmp 1) = .slice A2 b1.length c2 := by rw [ha]; rfl
    clear ha
    refine .cons ?_ (.cons ?_ (.cons ?_ (.cons ?_ (.cons ?_ (.cons ?_ (.cons ?_ (.cons ?_ (.cons ?_ (.cons ?_ (.cons ?_ (.cons ?_ (.cons ?_ (.cons ?_ (.cons ?_ (.cons ?_ (.cons ?_ (.cons ?_ (.cons ?_ (.cons ?_ (.cons ?_ (.cons ?_ (.cons ?_ (.nil)))))))))))))))))))))))
    · intro V w2 HL HH
      have HL : Later w w2 := HL
      have tb0 : (Rg.putUse V [] fr).eval (.tmp 0) = .slice A1 a1.length c1 := (Rg.use_eval V fr 0 [] (by simp only [hz]; decide)).trans y0
      show Rg.Does1 _ _ V (Rg.putUse V [] fr) w2 _
      exact step_mv (.slice A1 a1.length c1) (by simp only [execOp, tb0]; go_simp) rfl rfl True.intro
    · intro V w2 HL HH
      have HL : Later w w2 := HL
      have h0 : V 0 = .slice A1 a1.length c1 := HH.1
      have tb14 : (Rg.putUse V [(0, 14)] fr).eval (.tmp 14) = .slice A1 a1.length c1 := (Rg.use_eval V fr 14 [(0, 14)] (by simp only [hz]; decide)).trans h0
      show Rg.Does1 _ _ V (Rg.putUse V [(0, 14)] fr) w2 _
      exact step_row #[.slice A1 (a1).length c1] (Sh.sum (0 :: a1)) (fun args w => Rg.call_enter Tryd.func9 (by kernel_rfl) (by kernel_rfl) args w) rfl (by simp only [List.map_toArray, List.map_cons, List.map_nil, tb14]) (by rw [Sh.sum_length]) rfl rfl True.intro (leaf_any _ (a1) A1 c1 (HL.rd HRa.out) (hca) (HL.kat HK.out) (by first | omega | (simp; done) | (simp; omega)))
    · intro V w2 HL HH
      have HL : Later w w2 := HL
      have h1 : (bRow (Sh.sum (0 :: a1))).holds (V 1) w2 := HH.1
      obtain ⟨X1, k1, e1, hc1, hr1⟩ := bRow_form h1
      have tb15 : (Rg.putUse V [(1, 15)] fr).eval (.tmp 15) = .slice X1 (Sh.sum (0 :: a1)).length k1 := (Rg.use_eval V fr 15 [(1, 15)] (by simp only [hz]; decide)).trans e1
      show Rg.Does1 _ _ V (Rg.putUse V [(1, 15)] fr) w2 _
      exact step_str (Sh.sum (0 :: a1)) rfl tb15 (by first | rfl | rw [Sh.sum_length]) (hr1) rfl rfl True.intro
    · intro V w2 HL HH
      have HL : Later w w2 := HL
      show Rg.Does1 _ _ V (Rg.putUse V [] fr) w2 _
      exact step_one 0 rfl rfl rfl rfl True.intro
    · intro V w2 HL HH
      have HL : Later w w2 := HL
      have tb0 : (Rg.putUse V [] fr).eval (.tmp 0) = .slice A1 a1.length c1 := (Rg.use_eval V fr 0 [] (by simp only [hz]; decide)).trans y0
      show Rg.Does1 _ _ V (Rg.putUse V [] fr) w2 _
      exact step_mv (.slice A1 a1.length c1) (by simp only [execOp, tb0]; go_simp) rfl rfl True.intro
    · intro V w2 HL HH
      have HL : Later w w2 := HL
      have h3 : (bRow ([0])).holds (V 3) w2 := HH.1
      obtain ⟨X3, k3, e3, hc3, hr3⟩ := bRow_form h3
      have h4 : V 4 = .slice A1 a1.length c1 := HH.2.1
      have tb17 : (Rg.putUse V [(3, 17), (4, 18)] fr).eval (.tmp 17) = .slice X3 ([0]).length k3 := (Rg.use_eval V fr 17 [(3, 17), (4, 18)] (by simp only [hz]; decide)).trans e3
      have tb18 : (Rg.putUse V [(3, 17), (4, 18)] fr).eval (.tmp 18) = .slice A1 a1.length c1 := (Rg.use_eval V fr 18 [(3, 17), (4, 18)] (by simp only [hz]; decide)).trans h4
      show Rg.Does1 _ _ V (Rg.putUse V [(3, 17), (4, 18)] fr) w2 _
      have bs : (Rg.putUse V [(3, 17), (4, 18)] fr).eval (.tmp 17) = V 3 := Rg.use_eval V fr 17 [(3, 17), (4, 18)] (by simp only [hz]; decide)
      exact step_app (i := 3) ([0]) (a1) (0 :: a1) (by simp) rfl bs tb18 rfl h3 (HL.rd HRa.out) (by first | omega | (simp; omega)) rfl rfl rfl True.intro
    · intro V w2 HL HH
      have HL : Later w w2 := HL
      have h5 : (bRow (0 :: a1)).holds (V 5) w2 := HH.1
      obtain ⟨X5, k5, e5, hc5, hr5⟩ := bRow_form h5
      have tb19 : (Rg.putUse V [(5, 19)] fr).eval (.tmp 19) = .slice X5 (0 :: a1).length k5 := (Rg.use_eval V fr 19 [(5, 19)] (by simp only [hz]; decide)).trans e5
      show Rg.Does1 _ _ V (Rg.putUse V [(5, 19)] fr) w2 _
      exact step_row #[.slice X5 (0 :: a1).length k5] (Sh.sum (0 :: a1)) (fun args w => Rg.call_enter Tryd.func7 (by kernel_rfl) (by kernel_rfl) args w) rfl (by simp only [List.map_toArray, List.map_cons, List.map_nil, tb19]) (by rw [Sh.sum_length]) rfl rfl True.intro (sum_any _ (0 :: a1) X5 k5 (hr5) (hc5) (HL.kat HK.out) (by first | omega | (simp; done) | (simp; omega)))
    · intro V w2 HL HH
      have HL : Later w w2 := HL
      have h6 : (bRow (Sh.sum (0 :: a1))).holds (V 6) w2 := HH.1
      obtain ⟨X6, k6, e6, hc6, hr6⟩ := bRow_form h6
      have tb20 : (Rg.putUse V [(6, 20)] fr).eval (.tmp 20) = .slice X6 (Sh.sum (0 :: a1)).length k6 := (Rg.use_eval V fr 20 [(6, 20)] (by simp only [hz]; decide)).trans e6
      show Rg.Does1 _ _ V (Rg.putUse V [(6, 20)] fr) w2 _
      exact step_str (Sh.sum (0 :: a1)) rfl tb20 (by first | rfl | rw [Sh.sum_length]) (hr6) rfl rfl True.intro
    · intro V w2 HL HH
      have HL : Later w w2 := HL
      have h2 : V 2 = .string (strOf (Sh.sum (0 :: a1))) := HH.1
      have h7 : V 7 = .string (strOf (Sh.sum (0 :: a1))) := HH.2.1
      have tb16 : (Rg.putUse V [(2, 16), (7, 21)] fr).eval (.tmp 16) = .string (strOf (Sh.sum (0 :: a1))) := (Rg.use_eval V fr 16 [(2, 16), (7, 21)] (by simp only [hz]; decide)).trans h2
      have tb21 : (Rg.putUse V [(2, 16), (7, 21)] fr).eval (.tmp 21) = .string (strOf (Sh.sum (0 :: a1))) := (Rg.use_eval V fr 21 [(2, 16), (7, 21)] (by simp only [hz]; decide)).trans h7
      show Rg.Does1 _ _ V (Rg.putUse V [(2, 16), (7, 21)] fr) w2 _
      exact step_mv (.bool false) (by simp only [execOp, tb16, tb21]; go_simp) rfl rfl True.intro
    · intro V w2 HL HH
      have HL : Later w w2 := HL
      have h8 : V 8 = .bool false := HH.1
      have tb22 : (Rg.putUse V [(8, 22)] fr).eval (.tmp 22) = .bool false := (Rg.use_eval V fr 22 [(8, 22)] (by simp only [hz]; decide)).trans h8
      show Rg.Does1 _ _ V (Rg.putUse V [(8, 22)] fr) w2 _
      exact step_mv (.bool false) (by simp only [execOp, tb22]; go_simp) rfl rfl True.intro
    · intro V w2 HL HH
      have HL : Later w w2 := HL
      have h9 : V 9 = .bool false := HH.1
      have tb0 : (Rg.putUse V [(9, 23)] fr).eval (.tmp 0) = .slice A1 a1.length c1 := (Rg.use_eval V fr 0 [(9, 23)] (by simp only [hz]; decide)).trans y0
      show Rg.Does1 _ _ V (Rg.putUse V [(9, 23)] fr) w2 _
      exact step_mv (.slice A1 a1.length c1) (by simp only [execOp, tb0]; go_simp) rfl rfl h9
    · intro V w2 HL HH
      have HL : Later w w2 := HL
      have h9 : V 9 = .bool false := HH.1
      have tb1 : (Rg.putUse V [(9, 23)] fr).eval (.tmp 1) = .slice A2 b1.length c2 := (Rg.use_eval V fr 1 [(9, 23)] (by simp only [hz]; decide)).trans y1
      show Rg.Does1 _ _ V (Rg.putUse V [(9, 23)] fr) w2 _
      exact step_mv (.slice A2 b1.length c2) (by simp only [execOp, tb1]; go_simp) rfl rfl h9
    · intro V w2 HL HH
      have HL : Later w w2 := HL
      have h9 : V 9 = .bool false := HH.1
      have h10 : V 10 = .slice A1 a1.length c1 := HH.2.1
      have h11 : V 11 = .slice A2 b1.length c2 := HH.2.2.1
      have tb24 : (Rg.putUse V [(9, 23), (10, 24), (11, 25)] fr).eval (.tmp 24) = .slice A1 a1.length c1 := (Rg.use_eval V fr 24 [(9, 23), (10, 24), (11, 25)] (by simp only [hz]; decide)).trans h10
      have tb25 : (Rg.putUse V [(9, 23), (10, 24), (11, 25)] fr).eval (.tmp 25) = .slice A2 b1.length c2 := (Rg.use_eval V fr 25 [(9, 23), (10, 24), (11, 25)] (by simp only [hz]; decide)).trans h11
      show Rg.Does1 _ _ V (Rg.putUse V [(9, 23), (10, 24), (11, 25)] fr) w2 _
      exact step_row #[.slice A1 (a1).length c1, .slice A2 (b1).length c2] (Sh.sum (1 :: (a1 ++ b1))) (fun args w => Rg.call_enter Tryd.func11 (by kernel_rfl) (by kernel_rfl) args w) rfl (by simp only [List.map_toArray, List.map_cons, List.map_nil, tb24, tb25]) (by rw [Sh.sum_length]) rfl rfl h9 (pair_any _ (a1) (b1) A1 A2 c1 c2 (HL.rd HRa.out) (hca) (HL.rd HRb.out) (hcb) (HL.kat HK.out) (by first | omega | (simp; done) | (simp; omega)))
    · intro V w2 HL HH
      have HL : Later w w2 := HL
      have h9 : V 9 = .bool false := HH.1
      have h12 : (bRow (Sh.sum (1 :: (a1 ++ b1)))).holds (V 12) w2 := HH.2.1
      obtain ⟨X12, k12, e12, hc12, hr12⟩ := bRow_form h12
      have tb26 : (Rg.putUse V [(9, 23), (12, 26)] fr).eval (.tmp 26) = .slice X12 (Sh.sum (1 :: (a1 ++ b1))).length k12 := (Rg.use_eval V fr 26 [(9, 23), (12, 26)] (by simp only [hz]; decide)).trans e12
      show Rg.Does1 _ _ V (Rg.putUse V [(9, 23), (12, 26)] fr) w2 _
      exact step_str (Sh.sum (1 :: (a1 ++ b1))) rfl tb26 (by first | rfl | rw [Sh.sum_length]) (hr12) rfl rfl h9
    · intro V w2 HL HH
      have HL : Later w w2 := HL
      have h9 : V 9 = .bool false := HH.1
      show Rg.Does1 _ _ V (Rg.putUse V [(9, 23)] fr) w2 _
      exact step_one 1 rfl rfl rfl rfl h9
    · intro V w2 HL HH
      have HL : Later w w2 := HL
      have h9 : V 9 = .bool false := HH.1
      have tb0 : (Rg.putUse V [(9, 23)] fr).eval (.tmp 0) = .slice A1 a1.length c1 := (Rg.use_eval V fr 0 [(9, 23)] (by simp only [hz]; decide)).trans y0
      show Rg.Does1 _ _ V (Rg.putUse V [(9, 23)] fr) w2 _
      exact step_mv (.slice A1 a1.length c1) (by simp only [execOp, tb0]; go_simp) rfl rfl h9
    · intro V w2 HL HH
      have HL : Later w w2 := HL
      have h9 : V 9 = .bool false := HH.1
      have h14 : (bRow ([1])).holds (V 14) w2 := HH.2.1
      obtain ⟨X14, k14, e14, hc14, hr14⟩ := bRow_form h14
      have h15 : V 15 = .slice A1 a1.length c1 := HH.2.2.1
      have tb28 : (Rg.putUse V [(9, 23), (14, 28), (15, 29)] fr).eval (.tmp 28) = .slice X14 ([1]).length k14 := (Rg.use_eval V fr 28 [(9, 23), (14, 28), (15, 29)] (by simp only [hz]; decide)).trans e14
      have tb29 : (Rg.putUse V [(9, 23), (14, 28), (15, 29)] fr).eval (.tmp 29) = .slice A1 a1.length c1 := (Rg.use_eval V fr 29 [(9, 23), (14, 28), (15, 29)] (by simp only [hz]; decide)).trans h15
      show Rg.Does1 _ _ V (Rg.putUse V [(9, 23), (14, 28), (15, 29)] fr) w2 _
      have bs : (Rg.putUse V [(9, 23), (14, 28), (15, 29)] fr).eval (.tmp 28) = V 14 := Rg.use_eval V fr 28 [(9, 23), (14, 28), (15, 29)] (by simp only [hz]; decide)
      exact step_app (i := 14) ([1]) (a1) (1 :: a1) (by simp) rfl bs tb29 rfl h14 (HL.rd HRa.out) (by first | omega | (simp; omega)) rfl rfl rfl h9
    · intro V w2 HL HH
      have HL : Later w w2 := HL
      have h9 : V 9 = .bool false := HH.1
      have tb1 : (Rg.putUse V [(9, 23)] fr).eval (.tmp 1) = .slice A2 b1.length c2 := (Rg.use_eval V fr 1 [(9, 23)] (by simp only [hz]; decide)).trans y1
      show Rg.Does1 _ _ V (Rg.putUse V [(9, 23)] fr) w2 _
      exact step_mv (.slice A2 b1.length c2) (by simp only [execOp, tb1]; go_simp) rfl rfl h9
    · intro V w2 HL HH
      have HL : Later w w2 := HL
      have h9 : V 9 = .bool false := HH.1
      have h16 : (bRow (1 :: a1)).holds (V 16) w2 := HH.2.1
      obtain ⟨X16, k16, e16, hc16, hr16⟩ := bRow_form h16
      have h17 : V 17 = .slice A2 b1.length c2 := HH.2.2.1
      have tb30 : (Rg.putUse V [(9, 23), (16, 30), (17, 31)] fr).eval (.tmp 30) = .slice X16 (1 :: a1).length k16 := (Rg.use_eval V fr 30 [(9, 23), (16, 30), (17, 31)] (by simp only [hz]; decide)).trans e16
      have tb31 : (Rg.putUse V [(9, 23), (16, 30), (17, 31)] fr).eval (.tmp 31) = .slice A2 b1.length c2 := (Rg.use_eval V fr 31 [(9, 23), (16, 30), (17, 31)] (by simp only [hz]; decide)).trans h17
      show Rg.Does1 _ _ V (Rg.putUse V [(9, 23), (16, 30), (17, 31)] fr) w2 _
      have bs : (Rg.putUse V [(9, 23), (16, 30), (17, 31)] fr).eval (.tmp 30) = V 16 := Rg.use_eval V fr 30 [(9, 23), (16, 30), (17, 31)] (by simp only [hz]; decide)
      exact step_app (i := 16) (1 :: a1) (b1) (1 :: (a1 ++ b1)) (by simp) rfl bs tb31 rfl h16 (HL.rd HRb.out) (by first | omega | (simp; omega)) rfl rfl rfl h9
    · intro V w2 HL HH
      have HL : Later w w2 := HL
      have h9 : V 9 = .bool false := HH.1
      have h18 : (bRow (1 :: (a1 ++ b1))).holds (V 18) w2 := HH.2.1
      obtain ⟨X18, k18, e18, hc18, hr18⟩ := bRow_form h18
      have tb32 : (Rg.putUse V [(9, 23), (18, 32)] fr).eval (.tmp 32) = .slice X18 (1 :: (a1 ++ b1)).length k18 := (Rg.use_eval V fr 32 [(9, 23), (18, 32)] (by simp only [hz]; decide)).trans e18
      show Rg.Does1 _ _ V (Rg.putUse V [(9, 23), (18, 32)] fr) w2 _
      exact step_row #[.slice X18 (1 :: (a1 ++ b1)).length k18] (Sh.sum (1 :: (a1 ++ b1))) (fun args w => Rg.call_enter Tryd.func7 (by kernel_rfl) (by kernel_rfl) args w) rfl (by simp only [List.map_toArray, List.map_cons, List.map_nil, tb32]) (by rw [Sh.sum_length]) rfl rfl h9 (sum_any _ (1 :: (a1 ++ b1)) X18 k18 (hr18) (hc18) (HL.kat HK.out) (by first | omega | (simp; done) | (simp; omega)))
    · intro V w2 HL HH
      have HL : Later w w2 := HL
      have h9 : V 9 = .bool false := HH.1
      have h19 : (bRow (Sh.sum (1 :: (a1 ++ b1)))).holds (V 19) w2 := HH.2.1
      obtain ⟨X19, k19, e19, hc19, hr19⟩ := bRow_form h19
      have tb33 : (Rg.putUse V [(9, 23), (19, 33)] fr).eval (.tmp 33) = .slice X19 (Sh.sum (1 :: (a1 ++ b1))).length k19 := (Rg.use_eval V fr 33 [(9, 23), (19, 33)] (by simp only [hz]; decide)).trans e19
      show Rg.Does1 _ _ V (Rg.putUse V [(9, 23), (19, 33)] fr) w2 _
      exact step_str (Sh.sum (1 :: (a1 ++ b1))) rfl tb33 (by first | rfl | rw [Sh.sum_length]) (hr19) rfl rfl h9
    · intro V w2 HL HH
      have HL : Later w w2 := HL
      have h9 : V 9 = .bool false := HH.1
      have h13 : V 13 = .string (strOf (Sh.sum (1 :: (a1 ++ b1)))) := HH.2.1
      have h20 : V 20 = .string (strOf (Sh.sum (1 :: (a1 ++ b1)))) := HH.2.2.1
      have tb27 : (Rg.putUse V [(9, 23), (13, 27), (20, 34)] fr).eval (.tmp 27) = .string (strOf (Sh.sum (1 :: (a1 ++ b1)))) := (Rg.use_eval V fr 27 [(9, 23), (13, 27), (20, 34)] (by simp only [hz]; decide)).trans h13
      have tb34 : (Rg.putUse V [(9, 23), (13, 27), (20, 34)] fr).eval (.tmp 34) = .string (strOf (Sh.sum (1 :: (a1 ++ b1)))) := (Rg.use_eval V fr 34 [(9, 23), (13, 27), (20, 34)] (by simp only [hz]; decide)).trans h20
      show Rg.Does1 _ _ V (Rg.putUse V [(9, 23), (13, 27), (20, 34)] fr) w2 _
      exact step_mv (.bool false) (by simp only [execOp, tb27, tb34]; go_simp) rfl rfl h9
    · intro V w2 HL HH
      have HL : Later w w2 := HL
      have h9 : V 9 = .bool false := HH.1
      have h21 : V 21 = .bool false := HH.2.1
      have tb23 : (Rg.putUse V [(9, 23), (21, 35)] fr).eval (.tmp 23) = .bool false := (Rg.use_eval V fr 23 [(9, 23), (21, 35)] (by simp only [hz]; decide)).trans h9
      have tb35 : (Rg.putUse V [(9, 23), (21, 35)] fr).eval (.tmp 35) = .bool false := (Rg.use_eval V fr 35 [(9, 23), (21, 35)] (by simp only [hz]; decide)).trans h21
      show Rg.Does1 _ _ V (Rg.putUse V [(9, 23), (21, 35)] fr) w2 _
      exact step_mv (.bool false) (by simp only [execOp, tb23, tb35]; go_simp) rfl rfl True.intro
  · intro V w2 HI
    have h22 : V 22 = .bool false := HI.get 22 (by decide) (by rfl)
    simp only [Rg.putList, Act.put, List.setIfInBounds_toArray, List.set_cons_zero, List.set_cons_succ, Nat.zero_add, Nat.reduceAdd]
    rw [h22]
    have HL2 : Hid (Later w w2) := later_drew HI.later
    clear HI
    go_wp2_with fail
    refine (new_any w2).mono ?_
    rintro e w3 ⟨B, rfl, hB, hst, hb⟩
    have HS3 : Hid (St w3 B []) := hst
    have HL3 : Hid (Later w w3) := HL2.out.trans hb
    have hBw : w.heap.size ≤ B := Nat.le_trans HL2.out.size hB
    have HGB : Hid (0 < B) := Nat.lt_of_lt_of_le HK.out.pos hBw
    clear hst hb HL2 hB
    go_wp2_with fail
    refine (write_any w3 B [] a1 A1 c1 HS3.out (HL3.out.kat HK.out) HGB.out (HRa.out.far hBw) (HL3.out.rd HRa.out) hca (by simp; omega)).mono ?_
    rintro e w4 ⟨rfl, hst, hk⟩
    have HS4 : Hid (St w4 B a1) := hst
    have HL4 : Hid (Later w w4) := HL3.out.keeps hk hBw
    clear hst hk HS3 HL3
    go_wp2_with fail
    refine (streamSum_any w4 B a1 HS4.out (HL4.out.kat HK.out) (by omega)).mono ?_
    rintro e w5 ⟨v5, rfl, hown, hb⟩
    obtain ⟨g5, k5, rfl, hk5, hg5, _, _, hrd⟩ := rd_own hown (by omega)
    have HS5 : Hid (St w5 B a1) := HS4.out.below hb
    have HL5 : Hid (Later w w5) := HL4.out.trans hb
    have HX5 : Hid (XAt g5 w5 w5) := XAt.start hown
    have hgw : w.heap.size ≤ g5 := Nat.le_trans HL4.out.size hg5
    have HBG : Hid (B ≠ g5) := fun e => by have := HS4.out.lt; omega
    have hs := str_any w5 (some ⟨g5, 0, none⟩) (Sh.sum a1) k5 hrd
    rw [Sh.sum_length] at hs
    have hk5 := Lib.hid hk5
    clear hown hb hrd hg5 HS4 HL4
    go_upto_region 11 with (fail)
    clear hs
    go_wp2_with fail
    go_loopw [8] (fun t8 wr => ∃ k : Nat, k ≤ 32 ∧ t8 = .int .i64 k ∧ Hid (XAt g5 w5 wr)) (fun t8 _ => 32 - (intOf t8).toNat)
    case atStart => exact ⟨0, by omega, rfl, HX5⟩
    case round =>
      obtain ⟨k, hk, rfl, HX⟩ := hrel
      by_cases hlt : k < 32
      · obtain ⟨v, hv, hf⟩ := HX.out.cell k hlt
        go_wp2_with fail
        go_roundw
        case rel => exact ⟨k + 1, by omega, by go_num, HX.out.set k _⟩
        case measure => simp [intOf]; omega
      · obtain rfl : k = 32 := by omega
        have HS6 : Hid (St wr B a1) := HS5.out.keeps HX.out.2 HBG.out
        have HL6 : Hid (Later w wr) := HL5.out.keeps HX.out.2 hgw
        clear HX HX5 HS5 HL5
        go_wp2_with fail
        refine (streamSum_any _ B a1 HS6.out (HL6.out.kat HK.out) (by omega)).mono ?_
        rintro e w7 ⟨v7, rfl, hown, hb⟩
        obtain ⟨g7, k7, rfl, hk7, hg7, _, _, hrd⟩ := rd_own hown (by omega)
        have HS7 : Hid (St w7 B a1) := HS6.out.below hb
        have HL7 : Hid (Later w w7) := HL6.out.trans hb
        have HY7 : Hid (Rd w7 (some ⟨g7, 0, none⟩) (Sh.sum a1)) := hrd
        have HBG7 : Hid (g7 ≠ B) := fun e => by have := HS6.out.lt; omega
        clear hown hb hrd hg7 HS6 HL6
        go_wp2_with fail
        refine (write_any w7 B a1 b1 A2 c2 HS7.out (HL7.out.kat HK.out) HGB.out (HRb.out.far hBw) (HL7.out.rd HRb.out) hcb (by omega)).mono ?_
        rintro e w8 ⟨rfl, hst, hk⟩
        have HS8 : Hid (St w8 B (a1 ++ b1)) := hst
        have HL8 : Hid (Later w w8) := HL7.out.keeps hk hBw
        have HK8 : Hid (KAt w8) := HL8.out.kat HK.out
        have HRa8 : Hid (Rd w8 A1 a1) := HL8.out.rd HRa.out
        have HRb8 : Hid (Rd w8 A2 b1) := HL8.out.rd HRb.out
        have HY8 : Hid (Rd w8 (some ⟨g7, 0, none⟩) (Sh.sum a1)) := HY7.out.keeps hk (fun _ e => HBG7.out (by simpa using e))
        clear hst hk HS7 HL7 HY7
        go_upto_region 17 with (fail)
        refine Rg.wp_region_facts (by kernel_rfl) (fun j => List.getD [Rg.val (.slice (some ⟨g5, 0, none⟩) 32 k5), Rg.val (.int .i64 32), Rg.val (.bool true), Rg.val (.bool true), Rg.val (.slice (some ⟨g7, 0, none⟩) 32 k7), Rg.val (.string (strOf (Sh.sum a1))), Rg.val (.string (strOf (Sh.sum a1))), Rg.val (.bool true), Rg.val (.bool true), Rg.val (.bool true), Rg.val (.pointer (some ⟨B, 0, none⟩)), bRow (Sh.sum (a1 ++ b1)), Rg.val (.string (strOf (Sh.sum (a1 ++ b1)))), bRow ([]), Rg.val (.slice A1 a1.length c1), bRow (a1), Rg.val (.slice A2 b1.length c2), bRow (a1 ++ b1), bRow (Sh.sum (a1 ++ b1)), Rg.val (.string (strOf (Sh.sum (a1 ++ b1)))), Rg.val (.bool true), Rg.val (.bool true), Rg.val (.bool true), Rg.val (.bool true), Rg.val (.bool true), Rg.val (.bool true)] j Rg.any) [[], [(0, 64)], [(1, 65)], [(2, 66)], [(3, 67)], [(3, 67), (4, 68)], [(3, 67)], [(3, 67), (5, 69), (6, 70)], [(3, 67), (7, 71)], [(8, 72)], [(9, 73)], [(9, 73), (10, 74)], [(9, 73), (11, 75)], [(9, 73)], [(9, 73)], [(9, 73), (13, 77), (14, 78)], [(9, 73)], [(9, 73), (15, 79), (16, 80)], [(9, 73), (17, 81)], [(9, 73), (18, 82)], [(9, 73), (12, 76), (19, 83)], [(9, 73), (20, 84)], [(21, 85)], [(22, 86)], [(22, 86), (23, 87)], [(24, 88)]] [(15, 13), (17, 15)] (by kernel_rfl) (by kernel_rfl) ?_ ?_
        · intro fr ha
          have hz : fr.tmps.size = 89 := by rw [ha]; rfl
          have y0 : fr.eval (.tmp 0) = .slice A1 a1.length c1 := by rw [ha]; rfl
          have y1 : fr.eval (.tmp 1) = .slice A2 b1.length c2 := by rw [ha]; rfl
          have y5 : fr.eval (.tmp 5) = .pointer (some ⟨B, 0, none⟩) := by rw [ha]; rfl
          have y6 : fr.eval (.tmp 6) = .slice (some ⟨g5, 0, none⟩) 32 k5 := by rw [ha]; rfl
          have y7 : fr.eval (.tmp 7) = .string (strOf (Sh.sum a1)) := by rw [ha]; rfl
          have y9 : fr.eval (.tmp 9) = .slice (some ⟨g7, 0, none⟩) 32 k7 := by rw [ha]; rfl
          clear ha
          refine .cons ?_ (.cons ?_ (.cons ?_ (.cons ?_ (.cons ?_ (.cons ?_ (.cons ?_ (.cons ?_ (.cons ?_ (.cons ?_ (.cons ?_ (.cons ?_ (.cons ?_ (.cons ?_ (.cons ?_ (.cons ?_ (.cons ?_ (.cons ?_ (.cons ?_ (.cons ?_ (.cons ?_ (.cons ?_ (.cons ?_ (.cons ?_ (.cons ?_ (.cons ?_ (.nil))))))))))))))))))))))))))
          · intro V w2 HL HH
            have HL : Later w8 w2 := HL
            have tb6 : (Rg.putUse V [] fr).eval (.tmp 6) = .slice (some ⟨g5, 0, none⟩) 32 k5 := (Rg.use_eval V fr 6 [] (by simp only [hz]; decide)).trans y6
            show Rg.Does1 _ _ V (Rg.putUse V [] fr) w2 _
            exact step_mv (.slice (some ⟨g5, 0, none⟩) 32 k5) (by simp only [execOp, tb6]; go_simp) rfl rfl True.intro
          · intro V w2 HL HH
            have HL : Later w8 w2 := HL
            have h0 : V 0 = .slice (some ⟨g5, 0, none⟩) 32 k5 := HH.1
            have tb64 : (Rg.putUse V [(0, 64)] fr).eval (.tmp 64) = .slice (some ⟨g5, 0, none⟩) 32 k5 := (Rg.use_eval V fr 64 [(0, 64)] (by simp only [hz]; decide)).trans h0
            show Rg.Does1 _ _ V (Rg.putUse V [(0, 64)] fr) w2 _
            exact step_mv (.int .i64 32) (by simp only [execOp, resolve, List.map_toArray, List.map_cons, List.map_nil, tb64]; go_simp) rfl rfl True.intro
          · intro V w2 HL HH
            have HL : Later w8 w2 := HL
            have h1 : V 1 = .int .i64 32 := HH.1
            have tb65 : (Rg.putUse V [(1, 65)] fr).eval (.tmp 65) = .int .i64 32 := (Rg.use_eval V fr 65 [(1, 65)] (by simp only [hz]; decide)).trans h1
            show Rg.Does1 _ _ V (Rg.putUse V [(1, 65)] fr) w2 _
            exact step_mv (.bool true) (by simp only [execOp, tb65]; go_simp) rfl rfl True.intro
          · intro V w2 HL HH
            have HL : Later w8 w2 := HL
            have h2 : V 2 = .bool true := HH.1
            have tb66 : (Rg.putUse V [(2, 66)] fr).eval (.tmp 66) = .bool true := (Rg.use_eval V fr 66 [(2, 66)] (by simp only [hz]; decide)).trans h2
            show Rg.Does1 _ _ V (Rg.putUse V [(2, 66)] fr) w2 _
            exact step_mv (.bool true) (by simp only [execOp, tb66]; go_simp) rfl rfl True.intro
          · intro V w2 HL HH
            have HL : Later w8 w2 := HL
            have h3 : V 3 = .bool true := HH.1
            have tb9 : (Rg.putUse V [(3, 67)] fr).eval (.tmp 9) = .slice (some ⟨g7, 0, none⟩) 32 k7 := (Rg.use_eval V fr 9 [(3, 67)] (by simp only [hz]; decide)).trans y9
            show Rg.Does1 _ _ V (Rg.putUse V [(3, 67)] fr) w2 _
            exact step_mv (.slice (some ⟨g7, 0, none⟩) 32 k7) (by simp only [execOp, tb9]; go_simp) rfl rfl h3
          · intro V w2 HL HH
            have HL : Later w8 w2 := HL
            have h3 : V 3 = .bool true := HH.1
            have h4 : V 4 = .slice (some ⟨g7, 0, none⟩) 32 k7 := HH.2.1
            have tb68 : (Rg.putUse V [(3, 67), (4, 68)] fr).eval (.tmp 68) = .slice (some ⟨g7, 0, none⟩) 32 k7 := (Rg.use_eval V fr 68 [(3, 67), (4, 68)] (by simp only [hz]; decide)).trans h4
            show Rg.Does1 _ _ V (Rg.putUse V [(3, 67), (4, 68)] fr) w2 _
            exact step_str (Sh.sum a1) rfl tb68 (by first | rfl | rw [Sh.sum_length]) (HL.rd HY8.out) rfl rfl h3
          · intro V w2 HL HH
            have HL : Later w8 w2 := HL
            have h3 : V 3 = .bool true := HH.1
            have tb7 : (Rg.putUse V [(3, 67)] fr).eval (.tmp 7) = .string (strOf (Sh.sum a1)) := (Rg.use_eval V fr 7 [(3, 67)] (by simp only [hz]; decide)).trans y7
            show Rg.Does1 _ _ V (Rg.putUse V [(3, 67)] fr) w2 _
            exact step_mv (.string (strOf (Sh.sum a1))) (by simp only [execOp, tb7]; go_simp) rfl rfl h3
          · intro V w2 HL HH
            have HL : Later w8 w2 := HL
            have h3 : V 3 = .bool true := HH.1
            have h5 : V 5 = .string (strOf (Sh.sum a1)) := HH.2.1
            have h6 : V 6 = .string (strOf (Sh.sum a1)) := HH.2.2.1
            have tb69 : (Rg.putUse V [(3, 67), (5, 69), (6, 70)] fr).eval (.tmp 69) = .string (strOf (Sh.sum a1)) := (Rg.use_eval V fr 69 [(3, 67), (5, 69), (6, 70)] (by simp only [hz]; decide)).trans h5
            have tb70 : (Rg.putUse V [(3, 67), (5, 69), (6, 70)] fr).eval (.tmp 70) = .string (strOf (Sh.sum a1)) := (Rg.use_eval V fr 70 [(3, 67), (5, 69), (6, 70)] (by simp only [hz]; decide)).trans h6
            show Rg.Does1 _ _ V (Rg.putUse V [(3, 67), (5, 69), (6, 70)] fr) w2 _
            exact step_mv (.bool true) (by simp only [execOp, tb69, tb70]; go_simp) rfl rfl h3
          · intro V w2 HL HH
            have HL : Later w8 w2 := HL
            have h3 : V 3 = .bool true := HH.1
            have h7 : V 7 = .bool true := HH.2.1
            have tb67 : (Rg.putUse V [(3, 67), (7, 71)] fr).eval (.tmp 67) = .bool true := (Rg.use_eval V fr 67 [(3, 67), (7, 71)] (by simp only [hz]; decide)).trans h3
            have tb71 : (Rg.putUse V [(3, 67), (7, 71)] fr).eval (.tmp 71) = .bool true := (Rg.use_eval V fr 71 [(3, 67), (7, 71)] (by simp only [hz]; decide)).trans h7
            show Rg.Does1 _ _ V (Rg.putUse V [(3, 67), (7, 71)] fr) w2 _
            exact step_mv (.bool true) (by simp only [execOp, tb67, tb71]; go_simp) rfl rfl True.intro
          · intro V w2 HL HH
            have HL : Later w8 w2 := HL
            have h8 : V 8 = .bool true := HH.1
            have tb72 : (Rg.putUse V [(8, 72)] fr).eval (.tmp 72) = .bool true := (Rg.use_eval V fr 72 [(8, 72)] (by simp only [hz]; decide)).trans h8
            show Rg.Does1 _ _ V (Rg.putUse V [(8, 72)] fr) w2 _
            exact step_mv (.bool true) (by simp only [execOp, tb72]; go_simp) rfl rfl True.intro
          · intro V w2 HL HH
            have HL : Later w8 w2 := HL
            have h9 : V 9 = .bool true := HH.1
            have tb5 : (Rg.putUse V [(9, 73)] fr).eval (.tmp 5) = .pointer (some ⟨B, 0, none⟩) := (Rg.use_eval V fr 5 [(9, 73)] (by simp only [hz]; decide)).trans y5
            show Rg.Does1 _ _ V (Rg.putUse V [(9, 73)] fr) w2 _
            exact step_mv (.pointer (some ⟨B, 0, none⟩)) (by simp only [execOp, tb5]; go_simp) rfl rfl h9
          · intro V w2 HL HH
            have HL : Later w8 w2 := HL
            have h9 : V 9 = .bool true := HH.1
            have h10 : V 10 = .pointer (some ⟨B, 0, none⟩) := HH.2.1
            have tb74 : (Rg.putUse V [(9, 73), (10, 74)] fr).eval (.tmp 74) = .pointer (some ⟨B, 0, none⟩) := (Rg.use_eval V fr 74 [(9, 73), (10, 74)] (by simp only [hz]; decide)).trans h10
            show Rg.Does1 _ _ V (Rg.putUse V [(9, 73), (10, 74)] fr) w2 _
            exact step_row #[.pointer (some ⟨B, 0, none⟩)] (Sh.sum (a1 ++ b1)) (fun args w => Rg.call_enter Tryd.func15 (by kernel_rfl) (by kernel_rfl) args w) rfl (by simp only [List.map_toArray, List.map_cons, List.map_nil, tb74]) (by rw [Sh.sum_length]) rfl rfl h9 (streamSum_any _ B (a1 ++ b1) (HL.st HS8.out) (HL.kat HK8.out) (by first | omega | (simp; done) | (simp; omega)))
          · intro V w2 HL HH
            have HL : Later w8 w2 := HL
            have h9 : V 9 = .bool true := HH.1
            have h11 : (bRow (Sh.sum (a1 ++ b1))).holds (V 11) w2 := HH.2.1
            obtain ⟨X11, k11, e11, hc11, hr11⟩ := bRow_form h11
            have tb75 : (Rg.putUse V [(9, 73), (11, 75)] fr).eval (.tmp 75) = .slice X11 (Sh.sum (a1 ++ b1)).length k11 := (Rg.use_eval V fr 75 [(9, 73), (11, 75)] (by simp only [hz]; decide)).trans e11
            show Rg.Does1 _ _ V (Rg.putUse V [(9, 73), (11, 75)] fr) w2 _
            exact step_str (Sh.sum (a1 ++ b1)) rfl tb75 (by first | rfl | rw [Sh.sum_length]) (hr11) rfl rfl h9
          · intro V w2 HL HH
            have HL : Later w8 w2 := HL
            have h9 : V 9 = .bool true := HH.1
            show Rg.Does1 _ _ V (Rg.putUse V [(9, 73)] fr) w2 _
            exact step_none rfl rfl rfl h9
          · intro V w2 HL HH
            have HL : Later w8 w2 := HL
            have h9 : V 9 = .bool true := HH.1
            have tb0 : (Rg.putUse V [(9, 73)] fr).eval (.tmp 0) = .slice A1 a1.length c1 := (Rg.use_eval V fr 0 [(9, 73)] (by simp only [hz]; decide)).trans y0
            show Rg.Does1 _ _ V (Rg.putUse V [(9, 73)] fr) w2 _
            exact step_mv (.slice A1 a1.length c1) (by simp only [execOp, tb0]; go_simp) rfl rfl h9
          · intro V w2 HL HH
            have HL : Later w8 w2 := HL
            have h9 : V 9 = .bool true := HH.1
            have h13 : (bRow ([])).holds (V 13) w2 := HH.2.1
            obtain ⟨X13, k13, e13, hc13, hr13⟩ := bRow_form h13
            have h14 : V 14 = .slice A1 a1.length c1 := HH.2.2.1
            have tb77 : (Rg.putUse V [(9, 73), (13, 77), (14, 78)] fr).eval (.tmp 77) = .slice X13 ([]).length k13 := (Rg.use_eval V fr 77 [(9, 73), (13, 77), (14, 78)] (by simp only [hz]; decide)).trans e13
            have tb78 : (Rg.putUse V [(9, 73), (13, 77), (14, 78)] fr).eval (.tmp 78) = .slice A1 a1.length c1 := (Rg.use_eval V fr 78 [(9, 73), (13, 77), (14, 78)] (by simp only [hz]; decide)).trans h14
            show Rg.Does1 _ _ V (Rg.putUse V [(9, 73), (13, 77), (14, 78)] fr) w2 _
            have bs : (Rg.putUse V [(9, 73), (13, 77), (14, 78)] fr).eval (.tmp 77) = V 13 := Rg.use_eval V fr 77 [(9, 73), (13, 77), (14, 78)] (by simp only [hz]; decide)
            exact step_app (i := 13) ([]) (a1) (a1) (by simp) rfl bs tb78 rfl h13 (HL.rd HRa8.out) (by first | omega | (simp; omega)) rfl rfl rfl h9
          · intro V w2 HL HH
            have HL : Later w8 w2 := HL
            have h9 : V 9 = .bool true := HH.1
            have tb1 : (Rg.putUse V [(9, 73)] fr).eval (.tmp 1) = .slice A2 b1.length c2 := (Rg.use_eval V fr 1 [(9, 73)] (by simp only [hz]; decide)).trans y1
            show Rg.Does1 _ _ V (Rg.putUse V [(9, 73)] fr) w2 _
            exact step_mv (.slice A2 b1.length c2) (by simp only [execOp, tb1]; go_simp) rfl rfl h9
          · intro V w2 HL HH
            have HL : Later w8 w2 := HL
            have h9 : V 9 = .bool true := HH.1
            have h15 : (bRow (a1)).holds (V 15) w2 := HH.2.1
            obtain ⟨X15, k15, e15, hc15, hr15⟩ := bRow_form h15
            have h16 : V 16 = .slice A2 b1.length c2 := HH.2.2.1
            have tb79 : (Rg.putUse V [(9, 73), (15, 79), (16, 80)] fr).eval (.tmp 79) = .slice X15 (a1).length k15 := (Rg.use_eval V fr 79 [(9, 73), (15, 79), (16, 80)] (by simp only [hz]; decide)).trans e15
            have tb80 : (Rg.putUse V [(9, 73), (15, 79), (16, 80)] fr).eval (.tmp 80) = .slice A2 b1.length c2 := (Rg.use_eval V fr 80 [(9, 73), (15, 79), (16, 80)] (by simp only [hz]; decide)).trans h16
            show Rg.Does1 _ _ V (Rg.putUse V [(9, 73), (15, 79), (16, 80)] fr) w2 _
            have bs : (Rg.putUse V [(9, 73), (15, 79), (16, 80)] fr).eval (.tmp 79) = V 15 := Rg.use_eval V fr 79 [(9, 73), (15, 79), (16, 80)] (by simp only [hz]; decide)
            exact step_app (i := 15) (a1) (b1) (a1 ++ b1) (by simp) rfl bs tb80 rfl h15 (HL.rd HRb8.out) (by first | omega | (simp; omega)) rfl rfl rfl h9
          · intro V w2 HL HH
            have HL : Later w8 w2 := HL
            have h9 : V 9 = .bool true := HH.1
            have h17 : (bRow (a1 ++ b1)).holds (V 17) w2 := HH.2.1
            obtain ⟨X17, k17, e17, hc17, hr17⟩ := bRow_form h17
            have tb81 : (Rg.putUse V [(9, 73), (17, 81)] fr).eval (.tmp 81) = .slice X17 (a1 ++ b1).length k17 := (Rg.use_eval V fr 81 [(9, 73), (17, 81)] (by simp only [hz]; decide)).trans e17
            show Rg.Does1 _ _ V (Rg.putUse V [(9, 73), (17, 81)] fr) w2 _
            exact step_row #[.slice X17 (a1 ++ b1).length k17] (Sh.sum (a1 ++ b1)) (fun args w => Rg.call_enter Tryd.func7 (by kernel_rfl) (by kernel_rfl) args w) rfl (by simp only [List.map_toArray, List.map_cons, List.map_nil, tb81]) (by rw [Sh.sum_length]) rfl rfl h9 (sum_any _ (a1 ++ b1) X17 k17 (hr17) (hc17) (HL.kat HK8.out) (by first | omega | (simp; done) | (simp; omega)))
          · intro V w2 HL HH
            have HL : Later w8 w2 := HL
            have h9 : V 9 = .bool true := HH.1
            have h18 : (bRow (Sh.sum (a1 ++ b1))).holds (V 18) w2 := HH.2.1
            obtain ⟨X18, k18, e18, hc18, hr18⟩ := bRow_form h18
            have tb82 : (Rg.putUse V [(9, 73), (18, 82)] fr).eval (.tmp 82) = .slice X18 (Sh.sum (a1 ++ b1)).length k18 := (Rg.use_eval V fr 82 [(9, 73), (18, 82)] (by simp only [hz]; decide)).trans e18
            show Rg.Does1 _ _ V (Rg.putUse V [(9, 73), (18, 82)] fr) w2 _
            exact step_str (Sh.sum (a1 ++ b1)) rfl tb82 (by first | rfl | rw [Sh.sum_length]) (hr18) rfl rfl h9
          · intro V w2 HL HH
            have HL : Later w8 w2 := HL
            have h9 : V 9 = .bool true := HH.1
            have h12 : V 12 = .string (strOf (Sh.sum (a1 ++ b1))) := HH.2.1
            have h19 : V 19 = .string (strOf (Sh.sum (a1 ++ b1))) := HH.2.2.1
            have tb76 : (Rg.putUse V [(9, 73), (12, 76), (19, 83)] fr).eval (.tmp 76) = .string (strOf (Sh.sum (a1 ++ b1))) := (Rg.use_eval V fr 76 [(9, 73), (12, 76), (19, 83)] (by simp only [hz]; decide)).trans h12
            have tb83 : (Rg.putUse V [(9, 73), (12, 76), (19, 83)] fr).eval (.tmp 83) = .string (strOf (Sh.sum (a1 ++ b1))) := (Rg.use_eval V fr 83 [(9, 73), (12, 76), (19, 83)] (by simp only [hz]; decide)).trans h19
            show Rg.Does1 _ _ V (Rg.putUse V [(9, 73), (12, 76), (19, 83)] fr) w2 _
            exact step_mv (.bool true) (by simp only [execOp, tb76, tb83]; go_simp) rfl rfl h9
          · intro V w2 HL HH
            have HL : Later w8 w2 := HL
            have h9 : V 9 = .bool true := HH.1
            have h20 : V 20 = .bool true := HH.2.1
            have tb73 : (Rg.putUse V [(9, 73), (20, 84)] fr).eval (.tmp 73) = .bool true := (Rg.use_eval V fr 73 [(9, 73), (20, 84)] (by simp only [hz]; decide)).trans h9
            have tb84 : (Rg.putUse V [(9, 73), (20, 84)] fr).eval (.tmp 84) = .bool true := (Rg.use_eval V fr 84 [(9, 73), (20, 84)] (by simp only [hz]; decide)).trans h20
            show Rg.Does1 _ _ V (Rg.putUse V [(9, 73), (20, 84)] fr) w2 _
            exact step_mv (.bool true) (by simp only [execOp, tb73, tb84]; go_simp) rfl rfl True.intro
          · intro V w2 HL HH
            have HL : Later w8 w2 := HL
            have h21 : V 21 = .bool true := HH.1
            have tb85 : (Rg.putUse V [(21, 85)] fr).eval (.tmp 85) = .bool true := (Rg.use_eval V fr 85 [(21, 85)] (by simp only [hz]; decide)).trans h21
            show Rg.Does1 _ _ V (Rg.putUse V [(21, 85)] fr) w2 _
            exact step_mv (.bool true) (by simp only [execOp, tb85]; go_simp) rfl rfl True.intro
          · intro V w2 HL HH
            have HL : Later w8 w2 := HL
            have h22 : V 22 = .bool true := HH.1
            show Rg.Does1 _ _ V (Rg.putUse V [(22, 86)] fr) w2 _
            exact step_num #[] (.bool true) (fun args w => Rg.call_enter Tryd.func16 (by kernel_rfl) (by kernel_rfl) args w) rfl (by simp only [List.map_toArray, List.map_nil]) rfl rfl h22 (known_any _ (HL.kat HK8.out))
          · intro V w2 HL HH
            have HL : Later w8 w2 := HL
            have h22 : V 22 = .bool true := HH.1
            have h23 : V 23 = .bool true := HH.2.1
            have tb86 : (Rg.putUse V [(22, 86), (23, 87)] fr).eval (.tmp 86) = .bool true := (Rg.use_eval V fr 86 [(22, 86), (23, 87)] (by simp only [hz]; decide)).trans h22
            have tb87 : (Rg.putUse V [(22, 86), (23, 87)] fr).eval (.tmp 87) = .bool true := (Rg.use_eval V fr 87 [(22, 86), (23, 87)] (by simp only [hz]; decide)).trans h23
            show Rg.Does1 _ _ V (Rg.putUse V [(22, 86), (23, 87)] fr) w2 _
            exact step_mv (.bool true) (by simp only [execOp, tb86, tb87]; go_simp) rfl rfl True.intro
          · intro V w2 HL HH
            have HL : Later w8 w2 := HL
            have h24 : V 24 = .bool true := HH.1
            have tb88 : (Rg.putUse V [(24, 88)] fr).eval (.tmp 88) = .bool true := (Rg.use_eval V fr 88 [(24, 88)] (by simp only [hz]; decide)).trans h24
            show Rg.Does1 _ _ V (Rg.putUse V [(24, 88)] fr) w2 _
            exact step_mv (.bool true) (by simp only [execOp, tb88]; go_simp) rfl rfl True.intro
        · intro V w2 HI
          have h25 : V 25 = .bool true := HI.get 25 (by decide) (by rfl)
          simp only [Rg.putList, Act.put, List.setIfInBounds_toArray, List.set_cons_zero, List.set_cons_succ, Nat.zero_add, Nat.reduceAdd]
          rw [h25]
          have HL9 : Hid (Later w w2) := HL8.out.trans (later_drew HI.later)
          clear HI
          go_wp2_with fail
          go_ret
          exact ⟨rfl, HL9.out⟩
end Go.Proofs.YtbdbccdkimkhbaaDoor
