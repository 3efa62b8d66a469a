/-
  OWN WORK. The law ShaStreams, walked.
-/
import Derived.Test.YtbdbccdkimkhbaaDoorShCut
namespace Go.Proofs.YtbdbccdkimkhbaaDoor
open Go.RowKit Sh

set_option maxHeartbeats 8000000 in
set_option maxRecDepth 100000 in
theorem streams_any (w : World) (a m : List UInt8) (cs os : List Int) (A1 A2 A3 A4 : Option Addr) (c1 c2 c3 c4 : Nat) (hra : Rd w A1 a) (hca : a.length ≤ c1) (hrc : RdI w A2 cs) (hro : RdI w A3 os) (hrm : Rd w A4 m) (hcm : m.length ≤ c4) (hK : KAt w)
    (hla : a.length ≤ 9223372036854775807) (_hlc : cs.length ≤ 9223372036854775807) (_hlo : os.length ≤ 9223372036854775807) (hlm : m.length ≤ 9223372036854775807) :
    Calls Tryd.prog 6 #[.slice A1 a.length c1, .slice A2 cs.length c2, .slice A3 os.length c3, .slice A4 m.length c4] w fun e w' => e = .returned (.bool true) ∧ Below w.heap.size w w' := by
  have HK : Hid (KAt w) := hK
  have HA : Hid (Rd w A1 a) := hra
  have HM : Hid (Rd w A4 m) := hrm
  have HC : Hid (RdI w A2 cs) := hrc
  have HO : Hid (RdI w A3 os) := hro
  have HL1 := Lib.hid hca
  have HL2 := Lib.hid hcm
  have HL3 := Lib.hid hla
  have HL4 := Lib.hid hlm
  clear hra hrm hrc hro hK hca hcm hla hlm
  go_enter Tryd.func6, Tryd.ntmps6
  go_wp2_with fail
  refine (cut_to A1 a c1 400 _ HA.out HL1.out (by omega) HL3.out).mono ?_
  clear HL1 HL3 HA
  rintro e w' ⟨b, rfl, rfl, hb2, hcb, HRb⟩
  go_wp2_with fail
  refine (new_any w).mono ?_
  rintro e w2 ⟨B1, rfl, hB1, hst1, hb⟩
  have HLA : Hid (Later w w2) := hb
  have HSA : Hid (St w2 B1 []) := hst1
  clear hst1 hb
  go_wp2_with fail
  refine (new_any w2).mono ?_
  rintro e w3 ⟨B2, rfl, hB2, hst2, hb⟩
  have HT : Hid (Two w B1 B2 [] [] w3) := ⟨HLA.out.trans hb, HSA.out.below hb, hst2⟩
  have hB2w : w.heap.size ≤ B2 := Nat.le_trans HLA.out.size hB2
  have HNE : Hid (B2 ≠ B1) := fun e => by have := HSA.out.lt; omega
  have HG1 : Hid (0 < B1) := Nat.lt_of_lt_of_le HK.out.pos hB1
  have HG2 : Hid (0 < B2) := Nat.lt_of_lt_of_le HK.out.pos hB2w
  clear HLA HSA hst2 hb hB2
  go_upto_region 7 with (fail)
  go_wp2_with fail
  go_loopw [11, 12] (fun t11 t12 wr => ∃ p i : Nat, p ≤ b.length ∧ i ≤ 20 ∧ t11 = .int .i64 p ∧ t12 = .int .i64 i ∧ Hid (Two w B1 B2 (b.take p) [] wr)) (fun _ t12 _ => 20 - (intOf t12).toNat)
  case atStart => exact ⟨0, 0, by omega, by omega, rfl, rfl, HT⟩
  case round =>
    obtain ⟨p, i, hp, hi, rfl, rfl, HTW⟩ := hrel
    by_cases hlt : i < cs.length ∧ i < 20
    · obtain ⟨h1, h2⟩ := hlt
      obtain ⟨x, bc, oc, rfl, hcell, hx0, hx1⟩ := (HTW.out.1.rdi HC.out).at_ h1
      go_wp2_with fail
      refine (within_to x _ (b.length - p) _ (by omega) (by omega) hx0 hx1).mono ?_
      rintro e w' ⟨d, hd, rfl, rfl⟩
      obtain ⟨q, hq⟩ : ∃ q : Nat, q = p + d := ⟨_, rfl⟩
      have hpd : ((p : Int) + (d : Int)) = (q : Int) := by omega
      have hqb : q ≤ b.length := by omega
      obtain ⟨A', r, c', hsl, hrc', HRD, HFAR, HEQ, hrl, hqp⟩ := part_lh A1 b c1 p q (by omega) hqb hcb
      have hsl := hsl.out
      clear hq hcell
      go_wp2_with fail
      refine (write_any _ B1 (b.take p) r A' c' HTW.out.2.1 (HTW.out.1.kat HK.out) HG1.out (HFAR.out B1 (HRb.out.far hB1)) (HRD.out _ (HTW.out.1.rd HRb.out)) hrc' (by rw [List.length_take]; omega)).mono ?_
      rintro e w4 ⟨rfl, hst, hk⟩
      rw [← HEQ.out] at hst
      have HTW4 : Hid (Two w B1 B2 (b.take q) [] w4) := HTW.out.one hst hk HNE.out hB1
      clear hst hk hsl HTW
      go_wp2_with fail
      go_roundw
      case rel => exact ⟨q, i + 1, hqb, by omega, rfl, by go_num, HTW4⟩
      case measure => simp [intOf]; omega
    · obtain ⟨A', r, c', hsl, hrc', HRD, HFAR, HEQ, hrl⟩ := part_l A1 b c1 p hp hcb
      have hsl := hsl.out
      by_cases h1 : i < cs.length
      case' pos => have h2 : ¬ i < 20 := fun h => hlt ⟨h1, h⟩
      all_goals
        clear hlt
        go_wp2_with fail
        refine (write_any _ B1 (b.take p) r A' c' HTW.out.2.1 (HTW.out.1.kat HK.out) HG1.out (HFAR.out B1 (HRb.out.far hB1)) (HRD.out _ (HTW.out.1.rd HRb.out)) hrc' (by rw [List.length_take]; omega)).mono ?_
        rintro e w4 ⟨rfl, hst, hk⟩
        rw [← HEQ.out] at hst
        have HT4 : Hid (Two w B1 B2 b [] w4) := HTW.out.one hst hk HNE.out hB1
        clear hst hk hsl HTW HRD HFAR HEQ hrl hrc' hp hi
        go_upto_region 15 with (fail)
        go_wp2_with fail
        go_loopw [11, 14] (fun t11 t14 wr => ∃ p i : Nat, p ≤ b.length ∧ i ≤ 20 ∧ t11 = .int .i64 p ∧ t14 = .int .i64 i ∧ Hid (Two w B1 B2 b (b.take p) wr)) (fun _ t14 _ => 20 - (intOf t14).toNat)
        case atStart => exact ⟨0, 0, by omega, by omega, rfl, rfl, HT4⟩
        case round =>
          obtain ⟨p, i, hp, hi, rfl, rfl, HTW⟩ := hrel
          by_cases hlt : i < os.length ∧ i < 20
          · obtain ⟨h1, h2⟩ := hlt
            obtain ⟨x, bc, oc, rfl, hcell, hx0, hx1⟩ := (HTW.out.1.rdi HO.out).at_ h1
            go_wp2_with fail
            refine (within_to x _ (b.length - p) _ (by omega) (by omega) hx0 hx1).mono ?_
            rintro e w' ⟨d, hd, rfl, rfl⟩
            obtain ⟨q, hq⟩ : ∃ q : Nat, q = p + d := ⟨_, rfl⟩
            have hpd : ((p : Int) + (d : Int)) = (q : Int) := by omega
            have hqb : q ≤ b.length := by omega
            obtain ⟨A', r, c', hsl, hrc', HRD, HFAR, HEQ, hrl, hqp⟩ := part_lh A1 b c1 p q (by omega) hqb hcb
            have hsl := hsl.out
            clear hq hcell
            go_wp2_with fail
            refine (write_any _ B2 (b.take p) r A' c' HTW.out.2.2 (HTW.out.1.kat HK.out) HG2.out (HFAR.out B2 (HRb.out.far hB2w)) (HRD.out _ (HTW.out.1.rd HRb.out)) hrc' (by rw [List.length_take]; omega)).mono ?_
            rintro e w5 ⟨rfl, hst, hk⟩
            rw [← HEQ.out] at hst
            have HTW5 : Hid (Two w B1 B2 b (b.take q) w5) := HTW.out.two hst hk (Ne.symm HNE.out) hB2w
            clear hst hk hsl HTW
            go_wp2_with fail
            refine (write_any _ B2 (b.take q) [] none 0 HTW5.out.2.2 (HTW5.out.1.kat HK.out) HG2.out nil_far (Rd.nil _ _) (by simp) (by rw [List.length_take, List.length_nil]; omega)).mono ?_
            rintro e w6 ⟨rfl, hst, hk⟩
            rw [List.append_nil] at hst
            have HTW6 : Hid (Two w B1 B2 b (b.take q) w6) := HTW5.out.two hst hk (Ne.symm HNE.out) hB2w
            clear hst hk HTW5
            go_wp2_with fail
            go_roundw
            case rel => exact ⟨q, i + 1, hqb, by omega, rfl, by go_num, HTW6⟩
            case measure => simp [intOf]; omega
          · obtain ⟨A', r, c', hsl, hrc', HRD, HFAR, HEQ, hrl⟩ := part_l A1 b c1 p hp hcb
            have hsl := hsl.out
            by_cases h1 : i < os.length
            case' pos => have h2 : ¬ i < 20 := fun h => hlt ⟨h1, h⟩
            all_goals
              clear hlt
              go_wp2_with fail
              refine (write_any _ B2 (b.take p) r A' c' HTW.out.2.2 (HTW.out.1.kat HK.out) HG2.out (HFAR.out B2 (HRb.out.far hB2w)) (HRD.out _ (HTW.out.1.rd HRb.out)) hrc' (by rw [List.length_take]; omega)).mono ?_
              rintro e w6 ⟨rfl, hst, hk⟩
              rw [← HEQ.out] at hst
              have HT6 : Hid (Two w B1 B2 b b w6) := HTW.out.two hst hk (Ne.symm HNE.out) hB2w
              have HS1 : Hid (St w6 B1 b) := HT6.out.2.1
              have HS2 : Hid (St w6 B2 b) := HT6.out.2.2
              have HL6 : Hid (Later w w6) := HT6.out.1
              have HK6 : Hid (KAt w6) := HL6.out.kat HK.out
              clear hst hk hsl HTW HRD HFAR HEQ hrl hrc' hp hi
              go_upto_region 22 with (fail)
              refine Rg.wp_region_facts (by kernel_rfl) (fun j => List.getD [Rg.val (.pointer (some ⟨B1, 0, none⟩)), bRow (Sh.sum (b)), Rg.val (.string (strOf (Sh.sum (b)))), Rg.val (.pointer (some ⟨B2, 0, none⟩)), bRow (Sh.sum (b)), Rg.val (.string (strOf (Sh.sum (b)))), Rg.val (.bool false), Rg.val (.bool false), Rg.val (.pointer (some ⟨B1, 0, none⟩)), Rg.val (.int .i64 (b.length : Nat)), Rg.val (.pointer (some ⟨B2, 0, none⟩)), Rg.val (.int .i64 (b.length : Nat)), Rg.val (.bool false), Rg.val (.bool false), Rg.val (.bool false), Rg.val (.pointer (some ⟨B1, 0, none⟩)), Rg.val (.int .i64 (b.length : Nat)), Rg.val (.slice A1 b.length c1), Rg.val (.int .i64 ((b).length : Nat)), Rg.val (.bool false), Rg.val (.bool false)] j Rg.any) [[], [(0, 94)], [(1, 95)], [], [(3, 97)], [(4, 98)], [(2, 96), (5, 99)], [(6, 100)], [(7, 101)], [(7, 101), (8, 102)], [(7, 101)], [(7, 101), (10, 104)], [(7, 101), (9, 103), (11, 105)], [(7, 101), (12, 106)], [(13, 107)], [(14, 108)], [(14, 108), (15, 109)], [(14, 108)], [(14, 108), (17, 111)], [(14, 108), (16, 110), (18, 112)], [(14, 108), (19, 113)]] [] (by kernel_rfl) (by kernel_rfl) ?_ ?_
              · intro fr ha
                have hz : fr.tmps.size = 146 := by rw [ha]; rfl
                have y0 : fr.eval (.tmp 0) = .slice A1 b.length c1 := by rw [ha]; rfl
                have y9 : fr.eval (.tmp 9) = .pointer (some ⟨B1, 0, none⟩) := by rw [ha]; rfl
                have y10 : fr.eval (.tmp 10) = .pointer (some ⟨B2, 0, none⟩) := by rw [ha]; rfl
                clear ha
                refine .cons ?_ (.cons ?_ (.cons ?_ (.cons ?_ (.cons ?_ (.cons ?_ (.cons ?_ (.cons ?_ (.cons ?_ (.cons ?_ (.cons ?_ (.cons ?_ (.cons ?_ (.cons ?_ (.cons ?_ (.cons ?_ (.cons ?_ (.cons ?_ (.cons ?_ (.cons ?_ (.cons ?_ (.nil)))))))))))))))))))))
                · intro V w2 HL HH
                  have HL : Later w6 w2 := HL
                  have tb9 : (Rg.putUse V [] fr).eval (.tmp 9) = .pointer (some ⟨B1, 0, none⟩) := (Rg.use_eval V fr 9 [] (by simp only [hz]; decide)).trans y9
                  show Rg.Does1 _ _ V (Rg.putUse V [] fr) w2 _
                  exact step_mv (.pointer (some ⟨B1, 0, none⟩)) (by simp only [execOp, tb9]; go_simp) rfl rfl True.intro
                · intro V w2 HL HH
                  have HL : Later w6 w2 := HL
                  have h0 : V 0 = .pointer (some ⟨B1, 0, none⟩) := HH.1
                  have tb94 : (Rg.putUse V [(0, 94)] fr).eval (.tmp 94) = .pointer (some ⟨B1, 0, none⟩) := (Rg.use_eval V fr 94 [(0, 94)] (by simp only [hz]; decide)).trans h0
                  show Rg.Does1 _ _ V (Rg.putUse V [(0, 94)] fr) w2 _
                  exact step_row #[.pointer (some ⟨B1, 0, none⟩)] (Sh.sum (b)) (fun args w => Rg.call_enter Tryd.func15 (by kernel_rfl) (by kernel_rfl) args w) rfl (by simp only [List.map_toArray, List.map_cons, List.map_nil, tb94]) (by rw [Sh.sum_length]) rfl rfl True.intro (streamSum_any _ B1 (b) (HL.st HS1.out) (HL.kat HK6.out) (by first | omega | (simp; done) | (simp; omega)))
                · intro V w2 HL HH
                  have HL : Later w6 w2 := HL
                  have h1 : (bRow (Sh.sum (b))).holds (V 1) w2 := HH.1
                  obtain ⟨X1, k1, e1, hc1, hr1⟩ := bRow_form h1
                  have tb95 : (Rg.putUse V [(1, 95)] fr).eval (.tmp 95) = .slice X1 (Sh.sum (b)).length k1 := (Rg.use_eval V fr 95 [(1, 95)] (by simp only [hz]; decide)).trans e1
                  show Rg.Does1 _ _ V (Rg.putUse V [(1, 95)] fr) w2 _
                  exact step_str (Sh.sum (b)) rfl tb95 (by first | rfl | rw [Sh.sum_length]) (hr1) rfl rfl True.intro
                · intro V w2 HL HH
                  have HL : Later w6 w2 := HL
                  have tb10 : (Rg.putUse V [] fr).eval (.tmp 10) = .pointer (some ⟨B2, 0, none⟩) := (Rg.use_eval V fr 10 [] (by simp only [hz]; decide)).trans y10
                  show Rg.Does1 _ _ V (Rg.putUse V [] fr) w2 _
                  exact step_mv (.pointer (some ⟨B2, 0, none⟩)) (by simp only [execOp, tb10]; go_simp) rfl rfl True.intro
                · intro V w2 HL HH
                  have HL : Later w6 w2 := HL
                  have h3 : V 3 = .pointer (some ⟨B2, 0, none⟩) := HH.1
                  have tb97 : (Rg.putUse V [(3, 97)] fr).eval (.tmp 97) = .pointer (some ⟨B2, 0, none⟩) := (Rg.use_eval V fr 97 [(3, 97)] (by simp only [hz]; decide)).trans h3
                  show Rg.Does1 _ _ V (Rg.putUse V [(3, 97)] fr) w2 _
                  exact step_row #[.pointer (some ⟨B2, 0, none⟩)] (Sh.sum (b)) (fun args w => Rg.call_enter Tryd.func15 (by kernel_rfl) (by kernel_rfl) args w) rfl (by simp only [List.map_toArray, List.map_cons, List.map_nil, tb97]) (by rw [Sh.sum_length]) rfl rfl True.intro (streamSum_any _ B2 (b) (HL.st HS2.out) (HL.kat HK6.out) (by first | omega | (simp; done) | (simp; omega)))
                · intro V w2 HL HH
                  have HL : Later w6 w2 := HL
                  have h4 : (bRow (Sh.sum (b))).holds (V 4) w2 := HH.1
                  obtain ⟨X4, k4, e4, hc4, hr4⟩ := bRow_form h4
                  have tb98 : (Rg.putUse V [(4, 98)] fr).eval (.tmp 98) = .slice X4 (Sh.sum (b)).length k4 := (Rg.use_eval V fr 98 [(4, 98)] (by simp only [hz]; decide)).trans e4
                  show Rg.Does1 _ _ V (Rg.putUse V [(4, 98)] fr) w2 _
                  exact step_str (Sh.sum (b)) rfl tb98 (by first | rfl | rw [Sh.sum_length]) (hr4) rfl rfl True.intro
                · intro V w2 HL HH
                  have HL : Later w6 w2 := HL
                  have h2 : V 2 = .string (strOf (Sh.sum (b))) := HH.1
                  have h5 : V 5 = .string (strOf (Sh.sum (b))) := HH.2.1
                  have tb96 : (Rg.putUse V [(2, 96), (5, 99)] fr).eval (.tmp 96) = .string (strOf (Sh.sum (b))) := (Rg.use_eval V fr 96 [(2, 96), (5, 99)] (by simp only [hz]; decide)).trans h2
                  have tb99 : (Rg.putUse V [(2, 96), (5, 99)] fr).eval (.tmp 99) = .string (strOf (Sh.sum (b))) := (Rg.use_eval V fr 99 [(2, 96), (5, 99)] (by simp only [hz]; decide)).trans h5
                  show Rg.Does1 _ _ V (Rg.putUse V [(2, 96), (5, 99)] fr) w2 _
                  exact step_mv (.bool false) (by simp only [execOp, tb96, tb99]; go_simp) rfl rfl True.intro
                · intro V w2 HL HH
                  have HL : Later w6 w2 := HL
                  have h6 : V 6 = .bool false := HH.1
                  have tb100 : (Rg.putUse V [(6, 100)] fr).eval (.tmp 100) = .bool false := (Rg.use_eval V fr 100 [(6, 100)] (by simp only [hz]; decide)).trans h6
                  show Rg.Does1 _ _ V (Rg.putUse V [(6, 100)] fr) w2 _
                  exact step_mv (.bool false) (by simp only [execOp, tb100]; go_simp) rfl rfl True.intro
                · intro V w2 HL HH
                  have HL : Later w6 w2 := HL
                  have h7 : V 7 = .bool false := HH.1
                  have tb9 : (Rg.putUse V [(7, 101)] fr).eval (.tmp 9) = .pointer (some ⟨B1, 0, none⟩) := (Rg.use_eval V fr 9 [(7, 101)] (by simp only [hz]; decide)).trans y9
                  show Rg.Does1 _ _ V (Rg.putUse V [(7, 101)] fr) w2 _
                  exact step_mv (.pointer (some ⟨B1, 0, none⟩)) (by simp only [execOp, tb9]; go_simp) rfl rfl h7
                · intro V w2 HL HH
                  have HL : Later w6 w2 := HL
                  have h7 : V 7 = .bool false := HH.1
                  have h8 : V 8 = .pointer (some ⟨B1, 0, none⟩) := HH.2.1
                  have tb102 : (Rg.putUse V [(7, 101), (8, 102)] fr).eval (.tmp 102) = .pointer (some ⟨B1, 0, none⟩) := (Rg.use_eval V fr 102 [(7, 101), (8, 102)] (by simp only [hz]; decide)).trans h8
                  show Rg.Does1 _ _ V (Rg.putUse V [(7, 101), (8, 102)] fr) w2 _
                  exact step_num #[.pointer (some ⟨B1, 0, none⟩)] (.int .i64 (b.length : Nat)) (fun args w => Rg.call_enter Tryd.func14 (by kernel_rfl) (by kernel_rfl) args w) rfl (by simp only [List.map_toArray, List.map_cons, List.map_nil, tb102]) rfl rfl h7 ((len_any _ B1 b (HL.st HS1.out) (by omega)).mono (fun e w3 ⟨h1, h2⟩ => ⟨h1, h2 ▸ Below.refl _ _⟩))
                · intro V w2 HL HH
                  have HL : Later w6 w2 := HL
                  have h7 : V 7 = .bool false := HH.1
                  have tb10 : (Rg.putUse V [(7, 101)] fr).eval (.tmp 10) = .pointer (some ⟨B2, 0, none⟩) := (Rg.use_eval V fr 10 [(7, 101)] (by simp only [hz]; decide)).trans y10
                  show Rg.Does1 _ _ V (Rg.putUse V [(7, 101)] fr) w2 _
                  exact step_mv (.pointer (some ⟨B2, 0, none⟩)) (by simp only [execOp, tb10]; go_simp) rfl rfl h7
                · intro V w2 HL HH
                  have HL : Later w6 w2 := HL
                  have h7 : V 7 = .bool false := HH.1
                  have h10 : V 10 = .pointer (some ⟨B2, 0, none⟩) := HH.2.1
                  have tb104 : (Rg.putUse V [(7, 101), (10, 104)] fr).eval (.tmp 104) = .pointer (some ⟨B2, 0, none⟩) := (Rg.use_eval V fr 104 [(7, 101), (10, 104)] (by simp only [hz]; decide)).trans h10
                  show Rg.Does1 _ _ V (Rg.putUse V [(7, 101), (10, 104)] fr) w2 _
                  exact step_num #[.pointer (some ⟨B2, 0, none⟩)] (.int .i64 (b.length : Nat)) (fun args w => Rg.call_enter Tryd.func14 (by kernel_rfl) (by kernel_rfl) args w) rfl (by simp only [List.map_toArray, List.map_cons, List.map_nil, tb104]) rfl rfl h7 ((len_any _ B2 b (HL.st HS2.out) (by omega)).mono (fun e w3 ⟨h1, h2⟩ => ⟨h1, h2 ▸ Below.refl _ _⟩))
                · intro V w2 HL HH
                  have HL : Later w6 w2 := HL
                  have h7 : V 7 = .bool false := HH.1
                  have h9 : V 9 = .int .i64 (b.length : Nat) := HH.2.1
                  have h11 : V 11 = .int .i64 (b.length : Nat) := HH.2.2.1
                  have tb103 : (Rg.putUse V [(7, 101), (9, 103), (11, 105)] fr).eval (.tmp 103) = .int .i64 (b.length : Nat) := (Rg.use_eval V fr 103 [(7, 101), (9, 103), (11, 105)] (by simp only [hz]; decide)).trans h9
                  have tb105 : (Rg.putUse V [(7, 101), (9, 103), (11, 105)] fr).eval (.tmp 105) = .int .i64 (b.length : Nat) := (Rg.use_eval V fr 105 [(7, 101), (9, 103), (11, 105)] (by simp only [hz]; decide)).trans h11
                  show Rg.Does1 _ _ V (Rg.putUse V [(7, 101), (9, 103), (11, 105)] fr) w2 _
                  exact step_mv (.bool false) (by simp only [execOp, tb103, tb105]; go_simp) rfl rfl h7
                · intro V w2 HL HH
                  have HL : Later w6 w2 := HL
                  have h7 : V 7 = .bool false := HH.1
                  have h12 : V 12 = .bool false := HH.2.1
                  have tb101 : (Rg.putUse V [(7, 101), (12, 106)] fr).eval (.tmp 101) = .bool false := (Rg.use_eval V fr 101 [(7, 101), (12, 106)] (by simp only [hz]; decide)).trans h7
                  have tb106 : (Rg.putUse V [(7, 101), (12, 106)] fr).eval (.tmp 106) = .bool false := (Rg.use_eval V fr 106 [(7, 101), (12, 106)] (by simp only [hz]; decide)).trans h12
                  show Rg.Does1 _ _ V (Rg.putUse V [(7, 101), (12, 106)] fr) w2 _
                  exact step_mv (.bool false) (by simp only [execOp, tb101, tb106]; go_simp) rfl rfl True.intro
                · intro V w2 HL HH
                  have HL : Later w6 w2 := HL
                  have h13 : V 13 = .bool false := HH.1
                  have tb107 : (Rg.putUse V [(13, 107)] fr).eval (.tmp 107) = .bool false := (Rg.use_eval V fr 107 [(13, 107)] (by simp only [hz]; decide)).trans h13
                  show Rg.Does1 _ _ V (Rg.putUse V [(13, 107)] fr) w2 _
                  exact step_mv (.bool false) (by simp only [execOp, tb107]; go_simp) rfl rfl True.intro
                · intro V w2 HL HH
                  have HL : Later w6 w2 := HL
                  have h14 : V 14 = .bool false := HH.1
                  have tb9 : (Rg.putUse V [(14, 108)] fr).eval (.tmp 9) = .pointer (some ⟨B1, 0, none⟩) := (Rg.use_eval V fr 9 [(14, 108)] (by simp only [hz]; decide)).trans y9
                  show Rg.Does1 _ _ V (Rg.putUse V [(14, 108)] fr) w2 _
                  exact step_mv (.pointer (some ⟨B1, 0, none⟩)) (by simp only [execOp, tb9]; go_simp) rfl rfl h14
                · intro V w2 HL HH
                  have HL : Later w6 w2 := HL
                  have h14 : V 14 = .bool false := HH.1
                  have h15 : V 15 = .pointer (some ⟨B1, 0, none⟩) := HH.2.1
                  have tb109 : (Rg.putUse V [(14, 108), (15, 109)] fr).eval (.tmp 109) = .pointer (some ⟨B1, 0, none⟩) := (Rg.use_eval V fr 109 [(14, 108), (15, 109)] (by simp only [hz]; decide)).trans h15
                  show Rg.Does1 _ _ V (Rg.putUse V [(14, 108), (15, 109)] fr) w2 _
                  exact step_num #[.pointer (some ⟨B1, 0, none⟩)] (.int .i64 (b.length : Nat)) (fun args w => Rg.call_enter Tryd.func14 (by kernel_rfl) (by kernel_rfl) args w) rfl (by simp only [List.map_toArray, List.map_cons, List.map_nil, tb109]) rfl rfl h14 ((len_any _ B1 b (HL.st HS1.out) (by omega)).mono (fun e w3 ⟨h1, h2⟩ => ⟨h1, h2 ▸ Below.refl _ _⟩))
                · intro V w2 HL HH
                  have HL : Later w6 w2 := HL
                  have h14 : V 14 = .bool false := HH.1
                  have tb0 : (Rg.putUse V [(14, 108)] fr).eval (.tmp 0) = .slice A1 b.length c1 := (Rg.use_eval V fr 0 [(14, 108)] (by simp only [hz]; decide)).trans y0
                  show Rg.Does1 _ _ V (Rg.putUse V [(14, 108)] fr) w2 _
                  exact step_mv (.slice A1 b.length c1) (by simp only [execOp, tb0]; go_simp) rfl rfl h14
                · intro V w2 HL HH
                  have HL : Later w6 w2 := HL
                  have h14 : V 14 = .bool false := HH.1
                  have h17 : V 17 = .slice A1 b.length c1 := HH.2.1
                  have tb111 : (Rg.putUse V [(14, 108), (17, 111)] fr).eval (.tmp 111) = .slice A1 b.length c1 := (Rg.use_eval V fr 111 [(14, 108), (17, 111)] (by simp only [hz]; decide)).trans h17
                  show Rg.Does1 _ _ V (Rg.putUse V [(14, 108), (17, 111)] fr) w2 _
                  exact step_mv (.int .i64 ((b).length : Nat)) (by simp only [execOp, resolve, List.map_toArray, List.map_cons, List.map_nil, tb111]; go_simp) rfl rfl h14
                · intro V w2 HL HH
                  have HL : Later w6 w2 := HL
                  have h14 : V 14 = .bool false := HH.1
                  have h16 : V 16 = .int .i64 (b.length : Nat) := HH.2.1
                  have h18 : V 18 = .int .i64 ((b).length : Nat) := HH.2.2.1
                  have tb110 : (Rg.putUse V [(14, 108), (16, 110), (18, 112)] fr).eval (.tmp 110) = .int .i64 (b.length : Nat) := (Rg.use_eval V fr 110 [(14, 108), (16, 110), (18, 112)] (by simp only [hz]; decide)).trans h16
                  have tb112 : (Rg.putUse V [(14, 108), (16, 110), (18, 112)] fr).eval (.tmp 112) = .int .i64 ((b).length : Nat) := (Rg.use_eval V fr 112 [(14, 108), (16, 110), (18, 112)] (by simp only [hz]; decide)).trans h18
                  show Rg.Does1 _ _ V (Rg.putUse V [(14, 108), (16, 110), (18, 112)] fr) w2 _
                  exact step_mv (.bool false) (by simp only [execOp, tb110, tb112]; go_simp) rfl rfl h14
                · intro V w2 HL HH
                  have HL : Later w6 w2 := HL
                  have h14 : V 14 = .bool false := HH.1
                  have h19 : V 19 = .bool false := HH.2.1
                  have tb108 : (Rg.putUse V [(14, 108), (19, 113)] fr).eval (.tmp 108) = .bool false := (Rg.use_eval V fr 108 [(14, 108), (19, 113)] (by simp only [hz]; decide)).trans h14
                  have tb113 : (Rg.putUse V [(14, 108), (19, 113)] fr).eval (.tmp 113) = .bool false := (Rg.use_eval V fr 113 [(14, 108), (19, 113)] (by simp only [hz]; decide)).trans h19
                  show Rg.Does1 _ _ V (Rg.putUse V [(14, 108), (19, 113)] fr) w2 _
                  exact step_mv (.bool false) (by simp only [execOp, tb108, tb113]; go_simp) rfl rfl True.intro
              · intro V w2 HI
                have h20 : V 20 = .bool false := HI.get 20 (by decide) (by rfl)
                simp only [Rg.putList, Act.put, List.setIfInBounds_toArray, List.set_cons_zero, List.set_cons_succ, Nat.zero_add, Nat.reduceAdd]
                rw [h20]
                have HT7 : Hid (Two w B1 B2 b b w2) := HT6.out.later (later_drew HI.later)
                clear HI
                go_wp2_with fail
                refine (cut_all A4 m c4 100 _ HL2.out (by omega) HL4.out).mono ?_
                rintro e w' ⟨m1, rfl, rfl, hm2, hcm, HRm0⟩
                have HRm : Hid (Rd w A4 m1) := HRm0.out w HM.out
                clear HRm0
                go_wp2_with fail
                refine (write_any _ B1 b m1 A4 c4 HT7.out.2.1 (HT7.out.1.kat HK.out) HG1.out (HRm.out.far hB1) (HT7.out.1.rd HRm.out) hcm (by omega)).mono ?_
                rintro e w8 ⟨rfl, hst, hk⟩
                have HT8 : Hid (Two w B1 B2 (b ++ m1) b w8) := HT7.out.one hst hk HNE.out hB1
                clear hst hk HT7
                go_wp2_with fail
                refine (write_any _ B2 b m1 A4 c4 HT8.out.2.2 (HT8.out.1.kat HK.out) HG2.out (HRm.out.far hB2w) (HT8.out.1.rd HRm.out) hcm (by omega)).mono ?_
                rintro e w9 ⟨rfl, hst, hk⟩
                have HT9 : Hid (Two w B1 B2 (b ++ m1) (b ++ m1) w9) := HT8.out.two hst hk (Ne.symm HNE.out) hB2w
                have HS91 : Hid (St w9 B1 (b ++ m1)) := HT9.out.2.1
                have HS92 : Hid (St w9 B2 (b ++ m1)) := HT9.out.2.2
                have HL9 : Hid (Later w w9) := HT9.out.1
                have HK9 : Hid (KAt w9) := HL9.out.kat HK.out
                clear hst hk HT8
                go_upto_region 27 with (fail)
                refine Rg.wp_region_facts (by kernel_rfl) (fun j => List.getD [Rg.val (.pointer (some ⟨B1, 0, none⟩)), bRow (Sh.sum (b ++ m1)), Rg.val (.string (strOf (Sh.sum (b ++ m1)))), Rg.val (.pointer (some ⟨B2, 0, none⟩)), bRow (Sh.sum (b ++ m1)), Rg.val (.string (strOf (Sh.sum (b ++ m1)))), Rg.val (.bool true), Rg.val (.bool true), Rg.val (.pointer (some ⟨B1, 0, none⟩)), bRow (Sh.sum (b ++ m1)), Rg.val (.string (strOf (Sh.sum (b ++ m1)))), bRow ([]), Rg.val (.slice A1 b.length c1), bRow (b), Rg.val (.slice A4 m1.length c4), bRow (b ++ m1), bRow (Sh.sum (b ++ m1)), Rg.val (.string (strOf (Sh.sum (b ++ m1)))), Rg.val (.bool true), Rg.val (.bool true), Rg.val (.bool true), Rg.val (.bool true), Rg.val (.bool true), Rg.val (.bool true)] j Rg.any) [[], [(0, 123)], [(1, 124)], [], [(3, 126)], [(4, 127)], [(2, 125), (5, 128)], [(6, 129)], [(7, 130)], [(7, 130), (8, 131)], [(7, 130), (9, 132)], [(7, 130)], [(7, 130)], [(7, 130), (11, 134), (12, 135)], [(7, 130)], [(7, 130), (13, 136), (14, 137)], [(7, 130), (15, 138)], [(7, 130), (16, 139)], [(7, 130), (10, 133), (17, 140)], [(7, 130), (18, 141)], [(19, 142)], [(20, 143)], [(20, 143), (21, 144)], [(22, 145)]] [(13, 11), (15, 13)] (by kernel_rfl) (by kernel_rfl) ?_ ?_
                · intro fr ha
                  have hz : fr.tmps.size = 146 := by rw [ha]; rfl
                  have y0 : fr.eval (.tmp 0) = .slice A1 b.length c1 := by rw [ha]; rfl
                  have y3 : fr.eval (.tmp 3) = .slice A4 m1.length c4 := by rw [ha]; rfl
                  have y9 : fr.eval (.tmp 9) = .pointer (some ⟨B1, 0, none⟩) := by rw [ha]; rfl
                  have y10 : fr.eval (.tmp 10) = .pointer (some ⟨B2, 0, none⟩) := by rw [ha]; rfl
                  clear ha
                  refine .cons ?_ (.cons ?_ (.cons ?_ (.cons ?_ (.cons ?_ (.cons ?_ (.cons ?_ (.cons ?_ (.cons ?_ (.cons ?_ (.cons ?_ (.cons ?_ (.cons ?_ (.cons ?_ (.cons ?_ (.cons ?_ (.cons ?_ (.cons ?_ (.cons ?_ (.cons ?_ (.cons ?_ (.cons ?_ (.cons ?_ (.cons ?_ (.nil))))))))))))))))))))))))
                  · intro V w2 HL HH
                    have HL : Later w9 w2 := HL
                    have tb9 : (Rg.putUse V [] fr).eval (.tmp 9) = .pointer (some ⟨B1, 0, none⟩) := (Rg.use_eval V fr 9 [] (by simp only [hz]; decide)).trans y9
                    show Rg.Does1 _ _ V (Rg.putUse V [] fr) w2 _
                    exact step_mv (.pointer (some ⟨B1, 0, none⟩)) (by simp only [execOp, tb9]; go_simp) rfl rfl True.intro
                  · intro V w2 HL HH
                    have HL : Later w9 w2 := HL
                    have h0 : V 0 = .pointer (some ⟨B1, 0, none⟩) := HH.1
                    have tb123 : (Rg.putUse V [(0, 123)] fr).eval (.tmp 123) = .pointer (some ⟨B1, 0, none⟩) := (Rg.use_eval V fr 123 [(0, 123)] (by simp only [hz]; decide)).trans h0
                    show Rg.Does1 _ _ V (Rg.putUse V [(0, 123)] fr) w2 _
                    exact step_row #[.pointer (some ⟨B1, 0, none⟩)] (Sh.sum (b ++ m1)) (fun args w => Rg.call_enter Tryd.func15 (by kernel_rfl) (by kernel_rfl) args w) rfl (by simp only [List.map_toArray, List.map_cons, List.map_nil, tb123]) (by rw [Sh.sum_length]) rfl rfl True.intro (streamSum_any _ B1 (b ++ m1) (HL.st HS91.out) (HL.kat HK9.out) (by first | omega | (simp; done) | (simp; omega)))
                  · intro V w2 HL HH
                    have HL : Later w9 w2 := HL
                    have h1 : (bRow (Sh.sum (b ++ m1))).holds (V 1) w2 := HH.1
                    obtain ⟨X1, k1, e1, hc1, hr1⟩ := bRow_form h1
                    have tb124 : (Rg.putUse V [(1, 124)] fr).eval (.tmp 124) = .slice X1 (Sh.sum (b ++ m1)).length k1 := (Rg.use_eval V fr 124 [(1, 124)] (by simp only [hz]; decide)).trans e1
                    show Rg.Does1 _ _ V (Rg.putUse V [(1, 124)] fr) w2 _
                    exact step_str (Sh.sum (b ++ m1)) rfl tb124 (by first | rfl | rw [Sh.sum_length]) (hr1) rfl rfl True.intro
                  · intro V w2 HL HH
                    have HL : Later w9 w2 := HL
                    have tb10 : (Rg.putUse V [] fr).eval (.tmp 10) = .pointer (some ⟨B2, 0, none⟩) := (Rg.use_eval V fr 10 [] (by simp only [hz]; decide)).trans y10
                    show Rg.Does1 _ _ V (Rg.putUse V [] fr) w2 _
                    exact step_mv (.pointer (some ⟨B2, 0, none⟩)) (by simp only [execOp, tb10]; go_simp) rfl rfl True.intro
                  · intro V w2 HL HH
                    have HL : Later w9 w2 := HL
                    have h3 : V 3 = .pointer (some ⟨B2, 0, none⟩) := HH.1
                    have tb126 : (Rg.putUse V [(3, 126)] fr).eval (.tmp 126) = .pointer (some ⟨B2, 0, none⟩) := (Rg.use_eval V fr 126 [(3, 126)] (by simp only [hz]; decide)).trans h3
                    show Rg.Does1 _ _ V (Rg.putUse V [(3, 126)] fr) w2 _
                    exact step_row #[.pointer (some ⟨B2, 0, none⟩)] (Sh.sum (b ++ m1)) (fun args w => Rg.call_enter Tryd.func15 (by kernel_rfl) (by kernel_rfl) args w) rfl (by simp only [List.map_toArray, List.map_cons, List.map_nil, tb126]) (by rw [Sh.sum_length]) rfl rfl True.intro (streamSum_any _ B2 (b ++ m1) (HL.st HS92.out) (HL.kat HK9.out) (by first | omega | (simp; done) | (simp; omega)))
                  · intro V w2 HL HH
                    have HL : Later w9 w2 := HL
                    have h4 : (bRow (Sh.sum (b ++ m1))).holds (V 4) w2 := HH.1
                    obtain ⟨X4, k4, e4, hc4, hr4⟩ := bRow_form h4
                    have tb127 : (Rg.putUse V [(4, 127)] fr).eval (.tmp 127) = .slice X4 (Sh.sum (b ++ m1)).length k4 := (Rg.use_eval V fr 127 [(4, 127)] (by simp only [hz]; decide)).trans e4
                    show Rg.Does1 _ _ V (Rg.putUse V [(4, 127)] fr) w2 _
                    exact step_str (Sh.sum (b ++ m1)) rfl tb127 (by first | rfl | rw [Sh.sum_length]) (hr4) rfl rfl True.intro
                  · intro V w2 HL HH
                    have HL : Later w9 w2 := HL
                    have h2 : V 2 = .string (strOf (Sh.sum (b ++ m1))) := HH.1
                    have h5 : V 5 = .string (strOf (Sh.sum (b ++ m1))) := HH.2.1
                    have tb125 : (Rg.putUse V [(2, 125), (5, 128)] fr).eval (.tmp 125) = .string (strOf (Sh.sum (b ++ m1))) := (Rg.use_eval V fr 125 [(2, 125), (5, 128)] (by simp only [hz]; decide)).trans h2
                    have tb128 : (Rg.putUse V [(2, 125), (5, 128)] fr).eval (.tmp 128) = .string (strOf (Sh.sum (b ++ m1))) := (Rg.use_eval V fr 128 [(2, 125), (5, 128)] (by simp only [hz]; decide)).trans h5
                    show Rg.Does1 _ _ V (Rg.putUse V [(2, 125), (5, 128)] fr) w2 _
                    exact step_mv (.bool true) (by simp only [execOp, tb125, tb128]; go_simp) rfl rfl True.intro
                  · intro V w2 HL HH
                    have HL : Later w9 w2 := HL
                    have h6 : V 6 = .bool true := HH.1
                    have tb129 : (Rg.putUse V [(6, 129)] fr).eval (.tmp 129) = .bool true := (Rg.use_eval V fr 129 [(6, 129)] (by simp only [hz]; decide)).trans h6
                    show Rg.Does1 _ _ V (Rg.putUse V [(6, 129)] fr) w2 _
                    exact step_mv (.bool true) (by simp only [execOp, tb129]; go_simp) rfl rfl True.intro
                  · intro V w2 HL HH
                    have HL : Later w9 w2 := HL
                    have h7 : V 7 = .bool true := HH.1
                    have tb9 : (Rg.putUse V [(7, 130)] fr).eval (.tmp 9) = .pointer (some ⟨B1, 0, none⟩) := (Rg.use_eval V fr 9 [(7, 130)] (by simp only [hz]; decide)).trans y9
                    show Rg.Does1 _ _ V (Rg.putUse V [(7, 130)] fr) w2 _
                    exact step_mv (.pointer (some ⟨B1, 0, none⟩)) (by simp only [execOp, tb9]; go_simp) rfl rfl h7
                  · intro V w2 HL HH
                    have HL : Later w9 w2 := HL
                    have h7 : V 7 = .bool true := HH.1
                    have h8 : V 8 = .pointer (some ⟨B1, 0, none⟩) := HH.2.1
                    have tb131 : (Rg.putUse V [(7, 130), (8, 131)] fr).eval (.tmp 131) = .pointer (some ⟨B1, 0, none⟩) := (Rg.use_eval V fr 131 [(7, 130), (8, 131)] (by simp only [hz]; decide)).trans h8
                    show Rg.Does1 _ _ V (Rg.putUse V [(7, 130), (8, 131)] fr) w2 _
                    exact step_row #[.pointer (some ⟨B1, 0, none⟩)] (Sh.sum (b ++ m1)) (fun args w => Rg.call_enter Tryd.func15 (by kernel_rfl) (by kernel_rfl) args w) rfl (by simp only [List.map_toArray, List.map_cons, List.map_nil, tb131]) (by rw [Sh.sum_length]) rfl rfl h7 (streamSum_any _ B1 (b ++ m1) (HL.st HS91.out) (HL.kat HK9.out) (by first | omega | (simp; done) | (simp; omega)))
                  · intro V w2 HL HH
                    have HL : Later w9 w2 := HL
                    have h7 : V 7 = .bool true := HH.1
                    have h9 : (bRow (Sh.sum (b ++ m1))).holds (V 9) w2 := HH.2.1
                    obtain ⟨X9, k9, e9, hc9, hr9⟩ := bRow_form h9
                    have tb132 : (Rg.putUse V [(7, 130), (9, 132)] fr).eval (.tmp 132) = .slice X9 (Sh.sum (b ++ m1)).length k9 := (Rg.use_eval V fr 132 [(7, 130), (9, 132)] (by simp only [hz]; decide)).trans e9
                    show Rg.Does1 _ _ V (Rg.putUse V [(7, 130), (9, 132)] fr) w2 _
                    exact step_str (Sh.sum (b ++ m1)) rfl tb132 (by first | rfl | rw [Sh.sum_length]) (hr9) rfl rfl h7
                  · intro V w2 HL HH
                    have HL : Later w9 w2 := HL
                    have h7 : V 7 = .bool true := HH.1
                    show Rg.Does1 _ _ V (Rg.putUse V [(7, 130)] fr) w2 _
                    exact step_none rfl rfl rfl h7
                  · intro V w2 HL HH
                    have HL : Later w9 w2 := HL
                    have h7 : V 7 = .bool true := HH.1
                    have tb0 : (Rg.putUse V [(7, 130)] fr).eval (.tmp 0) = .slice A1 b.length c1 := (Rg.use_eval V fr 0 [(7, 130)] (by simp only [hz]; decide)).trans y0
                    show Rg.Does1 _ _ V (Rg.putUse V [(7, 130)] fr) w2 _
                    exact step_mv (.slice A1 b.length c1) (by simp only [execOp, tb0]; go_simp) rfl rfl h7
                  · intro V w2 HL HH
                    have HL : Later w9 w2 := HL
                    have h7 : V 7 = .bool true := HH.1
                    have h11 : (bRow ([])).holds (V 11) w2 := HH.2.1
                    obtain ⟨X11, k11, e11, hc11, hr11⟩ := bRow_form h11
                    have h12 : V 12 = .slice A1 b.length c1 := HH.2.2.1
                    have tb134 : (Rg.putUse V [(7, 130), (11, 134), (12, 135)] fr).eval (.tmp 134) = .slice X11 ([]).length k11 := (Rg.use_eval V fr 134 [(7, 130), (11, 134), (12, 135)] (by simp only [hz]; decide)).trans e11
                    have tb135 : (Rg.putUse V [(7, 130), (11, 134), (12, 135)] fr).eval (.tmp 135) = .slice A1 b.length c1 := (Rg.use_eval V fr 135 [(7, 130), (11, 134), (12, 135)] (by simp only [hz]; decide)).trans h12
                    show Rg.Does1 _ _ V (Rg.putUse V [(7, 130), (11, 134), (12, 135)] fr) w2 _
                    have bs : (Rg.putUse V [(7, 130), (11, 134), (12, 135)] fr).eval (.tmp 134) = V 11 := Rg.use_eval V fr 134 [(7, 130), (11, 134), (12, 135)] (by simp only [hz]; decide)
                    exact step_app (i := 11) ([]) (b) (b) (by simp) rfl bs tb135 rfl h11 ((HL9.out.trans HL).rd HRb.out) (by first | omega | (simp; omega)) rfl rfl rfl h7
                  · intro V w2 HL HH
                    have HL : Later w9 w2 := HL
                    have h7 : V 7 = .bool true := HH.1
                    have tb3 : (Rg.putUse V [(7, 130)] fr).eval (.tmp 3) = .slice A4 m1.length c4 := (Rg.use_eval V fr 3 [(7, 130)] (by simp only [hz]; decide)).trans y3
                    show Rg.Does1 _ _ V (Rg.putUse V [(7, 130)] fr) w2 _
                    exact step_mv (.slice A4 m1.length c4) (by simp only [execOp, tb3]; go_simp) rfl rfl h7
                  · intro V w2 HL HH
                    have HL : Later w9 w2 := HL
                    have h7 : V 7 = .bool true := HH.1
                    have h13 : (bRow (b)).holds (V 13) w2 := HH.2.1
                    obtain ⟨X13, k13, e13, hc13, hr13⟩ := bRow_form h13
                    have h14 : V 14 = .slice A4 m1.length c4 := HH.2.2.1
                    have tb136 : (Rg.putUse V [(7, 130), (13, 136), (14, 137)] fr).eval (.tmp 136) = .slice X13 (b).length k13 := (Rg.use_eval V fr 136 [(7, 130), (13, 136), (14, 137)] (by simp only [hz]; decide)).trans e13
                    have tb137 : (Rg.putUse V [(7, 130), (13, 136), (14, 137)] fr).eval (.tmp 137) = .slice A4 m1.length c4 := (Rg.use_eval V fr 137 [(7, 130), (13, 136), (14, 137)] (by simp only [hz]; decide)).trans h14
                    show Rg.Does1 _ _ V (Rg.putUse V [(7, 130), (13, 136), (14, 137)] fr) w2 _
                    have bs : (Rg.putUse V [(7, 130), (13, 136), (14, 137)] fr).eval (.tmp 136) = V 13 := Rg.use_eval V fr 136 [(7, 130), (13, 136), (14, 137)] (by simp only [hz]; decide)
                    exact step_app (i := 13) (b) (m1) (b ++ m1) (by simp) rfl bs tb137 rfl h13 ((HL9.out.trans HL).rd HRm.out) (by first | omega | (simp; omega)) rfl rfl rfl h7
                  · intro V w2 HL HH
                    have HL : Later w9 w2 := HL
                    have h7 : V 7 = .bool true := HH.1
                    have h15 : (bRow (b ++ m1)).holds (V 15) w2 := HH.2.1
                    obtain ⟨X15, k15, e15, hc15, hr15⟩ := bRow_form h15
                    have tb138 : (Rg.putUse V [(7, 130), (15, 138)] fr).eval (.tmp 138) = .slice X15 (b ++ m1).length k15 := (Rg.use_eval V fr 138 [(7, 130), (15, 138)] (by simp only [hz]; decide)).trans e15
                    show Rg.Does1 _ _ V (Rg.putUse V [(7, 130), (15, 138)] fr) w2 _
                    exact step_row #[.slice X15 (b ++ m1).length k15] (Sh.sum (b ++ m1)) (fun args w => Rg.call_enter Tryd.func7 (by kernel_rfl) (by kernel_rfl) args w) rfl (by simp only [List.map_toArray, List.map_cons, List.map_nil, tb138]) (by rw [Sh.sum_length]) rfl rfl h7 (sum_any _ (b ++ m1) X15 k15 (hr15) (hc15) (HL.kat HK9.out) (by first | omega | (simp; done) | (simp; omega)))
                  · intro V w2 HL HH
                    have HL : Later w9 w2 := HL
                    have h7 : V 7 = .bool true := HH.1
                    have h16 : (bRow (Sh.sum (b ++ m1))).holds (V 16) w2 := HH.2.1
                    obtain ⟨X16, k16, e16, hc16, hr16⟩ := bRow_form h16
                    have tb139 : (Rg.putUse V [(7, 130), (16, 139)] fr).eval (.tmp 139) = .slice X16 (Sh.sum (b ++ m1)).length k16 := (Rg.use_eval V fr 139 [(7, 130), (16, 139)] (by simp only [hz]; decide)).trans e16
                    show Rg.Does1 _ _ V (Rg.putUse V [(7, 130), (16, 139)] fr) w2 _
                    exact step_str (Sh.sum (b ++ m1)) rfl tb139 (by first | rfl | rw [Sh.sum_length]) (hr16) rfl rfl h7
                  · intro V w2 HL HH
                    have HL : Later w9 w2 := HL
                    have h7 : V 7 = .bool true := HH.1
                    have h10 : V 10 = .string (strOf (Sh.sum (b ++ m1))) := HH.2.1
                    have h17 : V 17 = .string (strOf (Sh.sum (b ++ m1))) := HH.2.2.1
                    have tb133 : (Rg.putUse V [(7, 130), (10, 133), (17, 140)] fr).eval (.tmp 133) = .string (strOf (Sh.sum (b ++ m1))) := (Rg.use_eval V fr 133 [(7, 130), (10, 133), (17, 140)] (by simp only [hz]; decide)).trans h10
                    have tb140 : (Rg.putUse V [(7, 130), (10, 133), (17, 140)] fr).eval (.tmp 140) = .string (strOf (Sh.sum (b ++ m1))) := (Rg.use_eval V fr 140 [(7, 130), (10, 133), (17, 140)] (by simp only [hz]; decide)).trans h17
                    show Rg.Does1 _ _ V (Rg.putUse V [(7, 130), (10, 133), (17, 140)] fr) w2 _
                    exact step_mv (.bool true) (by simp only [execOp, tb133, tb140]; go_simp) rfl rfl h7
                  · intro V w2 HL HH
                    have HL : Later w9 w2 := HL
                    have h7 : V 7 = .bool true := HH.1
                    have h18 : V 18 = .bool true := HH.2.1
                    have tb130 : (Rg.putUse V [(7, 130), (18, 141)] fr).eval (.tmp 130) = .bool true := (Rg.use_eval V fr 130 [(7, 130), (18, 141)] (by simp only [hz]; decide)).trans h7
                    have tb141 : (Rg.putUse V [(7, 130), (18, 141)] fr).eval (.tmp 141) = .bool true := (Rg.use_eval V fr 141 [(7, 130), (18, 141)] (by simp only [hz]; decide)).trans h18
                    show Rg.Does1 _ _ V (Rg.putUse V [(7, 130), (18, 141)] fr) w2 _
                    exact step_mv (.bool true) (by simp only [execOp, tb130, tb141]; go_simp) rfl rfl True.intro
                  · intro V w2 HL HH
                    have HL : Later w9 w2 := HL
                    have h19 : V 19 = .bool true := HH.1
                    have tb142 : (Rg.putUse V [(19, 142)] fr).eval (.tmp 142) = .bool true := (Rg.use_eval V fr 142 [(19, 142)] (by simp only [hz]; decide)).trans h19
                    show Rg.Does1 _ _ V (Rg.putUse V [(19, 142)] fr) w2 _
                    exact step_mv (.bool true) (by simp only [execOp, tb142]; go_simp) rfl rfl True.intro
                  · intro V w2 HL HH
                    have HL : Later w9 w2 := HL
                    have h20 : V 20 = .bool true := HH.1
                    show Rg.Does1 _ _ V (Rg.putUse V [(20, 143)] fr) w2 _
                    exact step_num #[] (.bool true) (fun args w => Rg.call_enter Tryd.func16 (by kernel_rfl) (by kernel_rfl) args w) rfl (by simp only [List.map_toArray, List.map_nil]) rfl rfl h20 (known_any _ (HL.kat HK9.out))
                  · intro V w2 HL HH
                    have HL : Later w9 w2 := HL
                    have h20 : V 20 = .bool true := HH.1
                    have h21 : V 21 = .bool true := HH.2.1
                    have tb143 : (Rg.putUse V [(20, 143), (21, 144)] fr).eval (.tmp 143) = .bool true := (Rg.use_eval V fr 143 [(20, 143), (21, 144)] (by simp only [hz]; decide)).trans h20
                    have tb144 : (Rg.putUse V [(20, 143), (21, 144)] fr).eval (.tmp 144) = .bool true := (Rg.use_eval V fr 144 [(20, 143), (21, 144)] (by simp only [hz]; decide)).trans h21
                    show Rg.Does1 _ _ V (Rg.putUse V [(20, 143), (21, 144)] fr) w2 _
                    exact step_mv (.bool true) (by simp only [execOp, tb143, tb144]; go_simp) rfl rfl True.intro
                  · intro V w2 HL HH
                    have HL : Later w9 w2 := HL
                    have h22 : V 22 = .bool true := HH.1
                    have tb145 : (Rg.putUse V [(22, 145)] fr).eval (.tmp 145) = .bool true := (Rg.use_eval V fr 145 [(22, 145)] (by simp only [hz]; decide)).trans h22
                    show Rg.Does1 _ _ V (Rg.putUse V [(22, 145)] fr) w2 _
                    exact step_mv (.bool true) (by simp only [execOp, tb145]; go_simp) rfl rfl True.intro
                · intro V w2 HI
                  have h23 : V 23 = .bool true := HI.get 23 (by decide) (by rfl)
                  simp only [Rg.putList, Act.put, List.setIfInBounds_toArray, List.set_cons_zero, List.set_cons_succ, Nat.zero_add, Nat.reduceAdd]
                  rw [h23]
                  have HLE : Hid (Later w w2) := HL9.out.trans (later_drew HI.later)
                  clear HI
                  go_wp2_with fail
                  go_ret
                  exact ⟨rfl, HLE.out⟩
end Go.Proofs.YtbdbccdkimkhbaaDoor
