/-
  OWN WORK. The law BmapGlues, walked.
-/
import Derived.Test.YtkjkmdhbodjeeaaBmPieces
import Derived.Test.YtkjkmdhbodjeeaaBmCutP
import Derived.Test.YtkjkmdhbodjeeaaBmRef
import Derived.Test.YtkjkmdhbodjeeaaBaWithin
import Derived.Test.YtkjkmdhbodjeeaaBaCut
namespace Go.Proofs.Ytkjkmdhbodjeeaa
open Go.RowKit Rc

set_option maxHeartbeats 16000000 in
set_option maxRecDepth 100000 in
theorem glues_any (w : World) (l0 l2 : List UInt8) (A0 A2 : Option Addr) (c0 c2 : Nat) (n : Int) (hr0 : Rd w A0 l0) (hr2 : Rd w A2 l2) (hc0 : l0.length ≤ c0) (hc2 : l2.length ≤ c2) (hb0 : l0.length ≤ 9223372036854775807) (hb2 : l2.length ≤ 9223372036854775807) (hn0 : -9223372036854775808 ≤ n) (hn1 : n ≤ 9223372036854775807) :
    Calls Try.prog 5 #[.slice A0 l0.length c0, .int .i64 n, .slice A2 l2.length c2] w fun e w' => e = .returned (.bool true) ∧ Below w.heap.size w w' := by
  have HR0 := Lib.hid hr0
  have HR2 := Lib.hid hr2
  have HC2 := Lib.hid hc2
  have HB2 := Lib.hid hb2
  have HN0 := Lib.hid hn0
  have HN1 := Lib.hid hn1
  clear hr0 hr2 hc2 hb2 hn0 hn1
  go_enter Try.func5, Try.ntmps5
  go_wp2_with fail
  refine (cut_to A0 l0 c0 1000 w HR0.out hc0 (by omega) hb0).mono ?_
  rintro e wx ⟨b, rfl, rfl, hb1, hb3, HB⟩
  clear hc0 hb0 HR0
  go_wp2_with fail
  refine (cutP_any w A0 b c0 HB.out hb3 (by omega)).mono ?_
  rintro e w1 ⟨X, c, rfl, hc, hrd, hbel⟩
  have HHO := Lib.hid (Bm.pieces_holds b)
  have HFL := Lib.hid (Bm.pieces_flat b)
  have HEA : Hid (∀ (j : Nat) (y : List UInt8), (Bm.pieces b)[j]? = some y → 1 ≤ y.length ∧ y.length ≤ 128 ∧ (j + 1 < (Bm.pieces b).length → y.length = 128)) := fun j y h => Bm.pieces_each h
  have HNM : Hid (∀ m, Bm.holds (Bm.pieces b ++ [m]) (b.length : Int) = false) := Bm.no_more b
  have HNL := Lib.hid (Bm.no_long b)
  have HNE : Hid (∀ k, k < (Bm.pieces b).length → Bm.holds ((Bm.pieces b).take k ++ (Bm.pieces b).drop (k + 1)) (b.length : Int) = false) := Bm.no_less b
  have HNS : Hid (∀ k y, (Bm.pieces b)[k]? = some y → Bm.holds ((Bm.pieces b).set k (y.drop 1)) (b.length : Int) = false) := Bm.no_short b
  have hln : (Bm.bl (b.length : Int)) = ((Bm.pieces b).length : Nat) := by rw [Bm.pieces_len]; exact Bm.bl_nb _
  have hl8 : (Bm.pieces b).length ≤ 8 := by rw [Bm.pieces_len]; unfold Bm.nb; omega
  obtain ⟨L, hL⟩ : ∃ L, L = Bm.pieces b := ⟨_, rfl⟩
  rw [← hL] at HHO HFL HEA HNM HNL HNE HNS hln hl8 hc hrd
  rw [← hL]
  have HR1 := Lib.hid hrd
  have HB1 := Lib.hid hbel
  have HRB1 : Hid (Rd w1 A0 b) := HB.out.below hbel
  have HLN := Lib.hid hln
  clear hL hrd hbel hln HB
  go_wp2_with fail
  refine (blocks_any w1 (b.length : Int) (by omega)).mono ?_
  rintro e w' ⟨rfl, hw⟩
  obtain rfl := hw.symm
  rw [HLN.out]
  clear hw HLN
  go_wp2_with fail
  go_loopw [8] (fun t8 wr => ∃ i : Nat, i ≤ L.length ∧ t8 = .int .i64 i ∧ wr = w1) (fun t8 _ => L.length - (match t8 with | .int _ k => k.toNat | _ => 0))
  case atStart => exact ⟨0, Nat.zero_le _, rfl, rfl⟩
  case round =>
    obtain ⟨i, hi, rfl, rfl⟩ := hrel
    by_cases hlt : i < L.length
    · obtain ⟨xb, off, y, A', cy, hA, hy, hcell, _, _⟩ := HR1.out.at_ i hlt
      obtain ⟨hy1, hy2, hy3⟩ := HEA.out i y hy
      obtain ⟨m, hm⟩ : ∃ m, m = y.length := ⟨_, rfl⟩
      rw [← hm] at hcell hy1 hy2 hy3
      subst hA
      have HY3 := Lib.hid hy3
      clear hy hm hy3
      by_cases hlast : i + 1 < L.length
      · have h128 : m = 128 := HY3.out hlast
        subst h128
        clear hy1 hy2
        go_wp2_with fail
        go_roundw
        case rel => exact ⟨i + 1, by omega, by simp, by first | rfl | trivial⟩
        case measure => simp; omega
      · go_wp2_with fail
        go_roundw
        case rel => exact ⟨i + 1, by omega, by simp, by first | rfl | trivial⟩
        case measure => simp; omega
    · obtain rfl : i = L.length := by omega
      clear hi hlt
      go_wp2_with fail
      refine (glue_yes HR1.out hc (by omega) (by omega) HHO.out HFL.out).mono ?_
      rintro e wg ⟨⟨X2, k2, rfl, hk2, HG2⟩, hbel⟩
      have HRG : Hid (RdL wg X L) := HR1.out.below hbel
      have HRBG : Hid (Rd wg A0 b) := HRB1.out.below hbel
      have HRMG : Hid (Rd wg A2 l2) := (HR2.out.below HB1.out).below hbel
      have HBG : Hid (Below w.heap.size w wg) := HB1.out.trans (hbel.mono HB1.out.size)
      have hs1 := str_any wg X2 b k2 HG2.out
      have hs2 := str_any wg A0 b c0 HRBG.out
      have H0 : Hid (OR wg wg.heap.size (.slice (some ⟨wg.heap.size, 0, none⟩) 0 0) [] (wg.alloc (.cells #[] 36))) := OR.none_new wg wg
      have HS0 : Hid (Src wg (wg.alloc (.cells #[] 36)) X L) := Src.of_rd HRG.out (below_new wg _)
      have HS1 : Hid (wg.heap.size ≤ (wg.alloc (.cells #[] 36)).heap.size) := by show _ ≤ _; rw [World.size_alloc]; omega
      have HLEN0 : Hid (([] : List (List UInt8)).length + L.length ≤ 1000000) := by show _ ≤ _; simp; omega
      clear hbel HR1 HRB1 HB1 HG2 HR2 HHO HFL
      go_wp2_with (at_builtin; refine wpList_rows rfl (.tmp 83) (.tmp 84) rfl (L3 := L) rfl rfl rfl H0.out HS0.out HLEN0.out HS1.out ?_; intro v1 w3 HO1 HG1)
      have HW3 : Hid (Below wg.heap.size wg w3) := (below_new wg (.cells #[] 36)).grown HG1.out HS1.out (fun k e => (H0.out.lt k e).1)
      clear hs1 hs2 H0 HS0 HS1 HLEN0 HG1
      refine (cut_all A2 l2 c2 128 w3 HC2.out (by omega) HB2.out).mono ?_
      rintro e wx ⟨m, rfl, rfl, hm1, hm2, HM⟩
      have HMR : Hid (Rd wg A2 m) := HM.out wg HRMG.out
      have HO2 : Hid (OR wg wg.heap.size v1 L (w3.alloc (.cells #[.slice A2 m.length c2] 36))) := HO1.out.below (below_new w3 _)
      have HS2 : Hid (Src wg (w3.alloc (.cells #[.slice A2 m.length c2] 36)) (some ⟨w3.heap.size, 0, none⟩) [m]) := Src.one HMR.out hm2
      have HS3 : Hid (wg.heap.size ≤ (w3.alloc (.cells #[.slice A2 m.length c2] 36)).heap.size) := by show _ ≤ _; rw [World.size_alloc]; have := HW3.out.size; omega
      have HLEN2 : Hid (L.length + [m].length ≤ 1000000) := by show _ ≤ _; simp; omega
      clear HM HO1
      go_wp2_with (at_builtin; refine wpList_rows rfl (.tmp 85) (.tmp 88) rfl (L3 := L ++ [m]) rfl rfl rfl HO2.out HS2.out HLEN2.out HS3.out ?_; intro v2 w4 HO3 HG3)
      have HW4 : Hid (Below wg.heap.size wg w4) := (HW3.out.trans ((below_new w3 (.cells #[.slice A2 m.length c2] 36)).mono HW3.out.size)).grown HG3.out HS3.out (fun k e => (HO2.out.lt k e).1)
      refine (glue_no HO3.out HW4.out (by simp; omega) (by omega) (HNM.out m)).mono ?_
      rintro e w5 ⟨rfl, hbel⟩
      have HB5 : Hid (Below wg.heap.size wg w5) := HW4.out.trans (hbel.mono HW4.out.size)
      have HR5 : Hid (RdL w5 X L) := HRG.out.below HB5.out
      clear hbel HO2 HS2 HS3 HLEN2 HO3 HG3 HW3 HW4 HMR HNM HRMG HC2 HB2 hm1 hm2
      go_wp2_with fail
      refine (glue_not HR5.out hc (by omega) (by omega) HNL.out).mono ?_
      rintro e w6 ⟨rfl, hbel⟩
      have HR6 : Hid (RdL w6 X L) := HR5.out.below hbel
      have HB6 : Hid (Below w.heap.size w w6) := (HBG.out.trans (HB5.out.mono HBG.out.size)).trans (hbel.mono (Nat.le_trans HBG.out.size HB5.out.size))
      clear hbel HR5 HB5 HNL HRG HBG HRBG
      by_cases h0 : L.length = 0
      · clear hl8
        go_wp2_with fail
        refine (known_any _).mono ?_
        rintro e wk ⟨rfl, hk⟩
        obtain rfl := hk.symm
        go_wp2_with fail
        go_ret
        exact ⟨rfl, HB6.out⟩
      · have hpos : 0 < L.length := by omega
        clear h0
        go_wp2_with fail
        refine (within_to n _ (L.length - 1) w6 (by omega) (by omega) HN0.out HN1.out).mono ?_
        rintro e wx ⟨k, hk, rfl, rfl⟩
        have hk2 : k < L.length := by omega
        clear hk HN0 HN1
        have H0 : Hid (OR w6 w6.heap.size (.slice (some ⟨w6.heap.size, 0, none⟩) 0 0) [] (w6.alloc (.cells #[] 36))) := OR.none_new w6 w6
        have HS0 : Hid (Src w6 (w6.alloc (.cells #[] 36)) X L) := Src.of_rd HR6.out (below_new w6 _)
        have HS1 : Hid (w6.heap.size ≤ (w6.alloc (.cells #[] 36)).heap.size) := by show _ ≤ _; rw [World.size_alloc]; omega
        have HLEN0 : Hid (([] : List (List UInt8)).length + L.length ≤ 1000000) := by show _ ≤ _; simp; omega
        have HONE : Hid (∀ y, L[k]? = some y → 1 ≤ y.length) := fun y hy => (HEA.out k y hy).1
        clear HEA
        go_wp2_with (at_builtin; refine wpList_rows rfl (.tmp 117) (.tmp 118) rfl (L3 := L) rfl rfl rfl H0.out HS0.out HLEN0.out HS1.out ?_; intro v3 w7 HO7 HG7; obtain ⟨g, cap, c7, c8, y, r, A7, A8, rfl, hcell, hfroz, hsl, HY⟩ := HO7.out.pick hk2 HONE.out)
        have HW7 : Hid (Below w6.heap.size w6 w7) := (below_new w6 (.cells #[] 36)).grown HG7.out HS1.out (fun k e => (H0.out.lt k e).1)
        have HO8 : Hid (OR w6 w6.heap.size (.slice (some ⟨g, 0, none⟩) L.length cap) (L.set k r) (w7.setCell ⟨g, k, none⟩ (.slice A8 r.length c8))) := HO7.out.set_ hk2 HY.out.2.2.2.1 HY.out.2.2.1
        have HW8 : Hid (Below w6.heap.size w6 (w7.setCell ⟨g, k, none⟩ (.slice A8 r.length c8))) := HW7.out.setCell (p := ⟨g, k, none⟩) HY.out.2.2.2.2 _
        have HNO8 : Hid (Bm.holds (L.set k r) (b.length : Int) = false) := by show _ = _; rw [HY.out.2.1]; exact HNS.out k y HY.out.1
        clear hcell hfroz hsl H0 HS0 HS1 HLEN0 HONE HO7 HG7 HW7 HNS HY
        refine (glue_no HO8.out HW8.out (by simp; omega) (by omega) HNO8.out).mono ?_
        rintro e w9 ⟨rfl, hbel⟩
        have HB9 : Hid (Below w.heap.size w w9) := HB6.out.trans ((HW8.out.trans (hbel.mono HW8.out.size)).mono HB6.out.size)
        have HR9 : Hid (RdL w9 X L) := HR6.out.below (HW8.out.trans (hbel.mono HW8.out.size))
        have S1 : ∀ W, (Instr.sliceAt 38 (.slice X L.length c) none (some (.int .i64 ((k : Nat) : Int))) none).run Try.prog W = .ok (.slice X (L.take k).length c) W := fun W => rows_h W X L c k (by omega) hc
        have S2 : ∀ W, (Instr.sliceAt 38 (.slice X L.length c) (some (.int .i64 ((k : Int) + 1))) none none).run Try.prog W = .ok (.slice (cutA X (k + 1) c) (L.drop (k + 1)).length (c - (k + 1))) W := fun W => rows_l W X L c (k + 1) (by omega)
        have Q1 : Hid (RdL w9 X (L.take k)) := HR9.out.take k
        have Q2 : Hid (RdL w9 (cutA X (k + 1) c) (L.drop (k + 1))) := HR9.out.cut (k + 1) c hc
        have HNO : Hid (Bm.holds (L.take k ++ L.drop (k + 1)) (b.length : Int) = false) := HNE.out k hk2
        have hq1 : (L.take k).length ≤ 8 := by rw [List.length_take]; omega
        have hq2 : (L.drop (k + 1)).length ≤ 8 := by rw [List.length_drop]; omega
        obtain ⟨L1, hL1⟩ : ∃ q, q = L.take k := ⟨_, rfl⟩
        obtain ⟨L2, hL2⟩ : ∃ q, q = L.drop (k + 1) := ⟨_, rfl⟩
        obtain ⟨A3, hA3⟩ : ∃ q, q = cutA X (k + 1) c := ⟨_, rfl⟩
        obtain ⟨c3, hc3⟩ : ∃ q, q = c - (k + 1) := ⟨_, rfl⟩
        rw [← hL1] at S1 Q1 HNO hq1
        rw [← hL2] at S2 Q2 HNO hq2
        rw [← hA3, ← hc3] at S2
        rw [← hA3] at Q2
        clear hbel HO8 HW8 HNO8 HR6 HB6 HNE hL1 hL2 hA3 hc3 HR9
        go_upto_region 22 with (fail)
        refine Rc.wp_region (by kernel_rfl) (fun opn => List.getD [orow w9 ([]), Rc.val (.slice X L.length c), Rc.val (.int .i64 ((k : Nat) : Int)), Rc.val (.slice X L1.length c), orow w9 (L1), Rc.val (.slice X L.length c), Rc.val (.int .i64 ((k : Nat) : Int)), Rc.val (.int .i64 ((k : Int) + 1)), Rc.val (.slice A3 L2.length c3), orow w9 (L1 ++ L2), Rc.val (.slice A0 b.length c0), Rc.val (.int .i64 ((b.length : Nat) : Int)), Rc.val (.tuple #[.slice none 0 0, .int .i64 12]), Rc.val (.tuple #[.slice none 0 0, .int .i64 12]), Rc.val (.slice none 0 0), Rc.val (.int .i64 12), Rc.val (.slice none 0 0), Rc.val (.int .i64 12)] opn Rc.any) 0 [] [[], [], [], [(1, 137), (2, 138)], [(0, 136), (3, 139)], [], [], [(6, 142)], [(5, 141), (7, 143)], [(4, 140), (8, 144)], [], [(10, 146)], [(9, 145), (11, 147)], [(12, 148)], [(13, 135)], [(13, 135)], [(14, 149)], [(15, 150)]] [[], [], [], [1, 2], [0, 3], [], [], [6], [5, 7], [4, 8], [], [10], [9, 11], [12], [13], [13], [14], [15]] [[], [], [], [1, 2], [0, 3], [], [], [6], [5, 7], [4, 8], [], [10], [9, 11], [12], [13], [13], [14], [15]] [(4, 0), (9, 4)] (by kernel_rfl) (by rfl) (by kernel_rfl) (fun _ => False) (fun _ _ => False) Rc.Inv.none ?_ ?_
        · intro fr ha
          have hz : fr.tmps.size = 158 := by rw [ha]; rfl
          have y7 : fr.eval (.tmp 7) = .slice X L.length c := by rw [ha]; rfl
          have y15 : fr.eval (.tmp 15) = .int .i64 ((k : Nat) : Int) := by rw [ha]; rfl
          have y0 : fr.eval (.tmp 0) = .slice A0 b.length c0 := by rw [ha]; rfl
          clear ha
          refine .cons ?_ (.cons ?_ (.cons ?_ (.cons ?_ (.cons ?_ (.cons ?_ (.cons ?_ (.cons ?_ (.cons ?_ (.cons ?_ (.cons ?_ (.cons ?_ (.cons ?_ (.cons ?_ (.cons ?_ (.cons ?_ (.cons ?_ (.cons ?_ (.nil))))))))))))))))))
          · intro V S w2 HM HU HE
            have lw : Below w9.heap.size w9 w2 := Rc.Mod.below HM (fun _ h => h.elim)
            show Rg.Does1 _ _ V (Rg.putUse V [] fr) w2 _
            exact step_onil rfl rfl (fun x => Rg.alias_none rfl V x) True.intro
          · intro V S w2 HM HU HE
            have lw : Below w9.heap.size w9 w2 := Rc.Mod.below HM (fun _ h => h.elim)
            have tb7 : (Rg.putUse V [] fr).eval (.tmp 7) = .slice X L.length c := (Rg.use_eval V fr 7 [] (by simp only [hz]; decide)).trans y7
            show Rg.Does1 _ _ V (Rg.putUse V [] fr) w2 _
            exact Ob.rc_mv (.slice X L.length c) (by simp only [execOp, tb7]; go_simp) rfl rfl True.intro
          · intro V S w2 HM HU HE
            have lw : Below w9.heap.size w9 w2 := Rc.Mod.below HM (fun _ h => h.elim)
            have tb15 : (Rg.putUse V [] fr).eval (.tmp 15) = .int .i64 ((k : Nat) : Int) := (Rg.use_eval V fr 15 [] (by simp only [hz]; decide)).trans y15
            show Rg.Does1 _ _ V (Rg.putUse V [] fr) w2 _
            exact Ob.rc_mv (.int .i64 ((k : Nat) : Int)) (by simp only [execOp, tb15]; go_simp) rfl rfl True.intro
          · intro V S w2 HM HU HE
            have lw : Below w9.heap.size w9 w2 := Rc.Mod.below HM (fun _ h => h.elim)
            have h1 : V 1 = .slice X L.length c := HU.holds 1 (by decide)
            have tb137 : (Rg.putUse V [(1, 137), (2, 138)] fr).eval (.tmp 137) = .slice X L.length c := (Rg.use_eval V fr 137 [(1, 137), (2, 138)] (by simp only [hz]; decide)).trans h1
            have h2 : V 2 = .int .i64 ((k : Nat) : Int) := HU.holds 2 (by decide)
            have tb138 : (Rg.putUse V [(1, 137), (2, 138)] fr).eval (.tmp 138) = .int .i64 ((k : Nat) : Int) := (Rg.use_eval V fr 138 [(1, 137), (2, 138)] (by simp only [hz]; decide)).trans h2
            show Rg.Does1 _ _ V (Rg.putUse V [(1, 137), (2, 138)] fr) w2 _
            exact Ob.rc_slh rfl tb137 tb138 (S1 w2) rfl rfl True.intro
          · intro V S w2 HM HU HE
            have lw : Below w9.heap.size w9 w2 := Rc.Mod.below HM (fun _ h => h.elim)
            have tb136 : (Rg.putUse V [(0, 136), (3, 139)] fr).eval (.tmp 136) = V 0 := (Rg.use_eval V fr 136 [(0, 136), (3, 139)] (by simp only [hz]; decide)).trans rfl
            have h3 : V 3 = .slice X L1.length c := HU.holds 3 (by decide)
            have tb139 : (Rg.putUse V [(0, 136), (3, 139)] fr).eval (.tmp 139) = .slice X L1.length c := (Rg.use_eval V fr 139 [(0, 136), (3, 139)] (by simp only [hz]; decide)).trans h3
            show Rg.Does1 _ _ V (Rg.putUse V [(0, 136), (3, 139)] fr) w2 _
            exact step_rapp (i := 0) ([]) (L1) (L1) rfl rfl tb136 tb139 rfl (by decide) (HU.holds 0 (by decide)) (Src.of_rd Q1.out lw) (HU.lt 0 (by decide)) (by simp only [List.length_nil]; omega) (fun x => Rg.alias_none rfl V x) True.intro
          · intro V S w2 HM HU HE
            have lw : Below w9.heap.size w9 w2 := Rc.Mod.below HM (fun _ h => h.elim)
            have tb7 : (Rg.putUse V [] fr).eval (.tmp 7) = .slice X L.length c := (Rg.use_eval V fr 7 [] (by simp only [hz]; decide)).trans y7
            show Rg.Does1 _ _ V (Rg.putUse V [] fr) w2 _
            exact Ob.rc_mv (.slice X L.length c) (by simp only [execOp, tb7]; go_simp) rfl rfl True.intro
          · intro V S w2 HM HU HE
            have lw : Below w9.heap.size w9 w2 := Rc.Mod.below HM (fun _ h => h.elim)
            have tb15 : (Rg.putUse V [] fr).eval (.tmp 15) = .int .i64 ((k : Nat) : Int) := (Rg.use_eval V fr 15 [] (by simp only [hz]; decide)).trans y15
            show Rg.Does1 _ _ V (Rg.putUse V [] fr) w2 _
            exact Ob.rc_mv (.int .i64 ((k : Nat) : Int)) (by simp only [execOp, tb15]; go_simp) rfl rfl True.intro
          · intro V S w2 HM HU HE
            have lw : Below w9.heap.size w9 w2 := Rc.Mod.below HM (fun _ h => h.elim)
            have h6 : V 6 = .int .i64 ((k : Nat) : Int) := HU.holds 6 (by decide)
            have tb142 : (Rg.putUse V [(6, 142)] fr).eval (.tmp 142) = .int .i64 ((k : Nat) : Int) := (Rg.use_eval V fr 142 [(6, 142)] (by simp only [hz]; decide)).trans h6
            show Rg.Does1 _ _ V (Rg.putUse V [(6, 142)] fr) w2 _
            exact Ob.rc_mv (.int .i64 ((k : Int) + 1)) (by simp only [execOp, tb142]; go_simp; rw [IntWalk.i64_in _ (by omega)]) rfl rfl True.intro
          · intro V S w2 HM HU HE
            have lw : Below w9.heap.size w9 w2 := Rc.Mod.below HM (fun _ h => h.elim)
            have h5 : V 5 = .slice X L.length c := HU.holds 5 (by decide)
            have tb141 : (Rg.putUse V [(5, 141), (7, 143)] fr).eval (.tmp 141) = .slice X L.length c := (Rg.use_eval V fr 141 [(5, 141), (7, 143)] (by simp only [hz]; decide)).trans h5
            have h7 : V 7 = .int .i64 ((k : Int) + 1) := HU.holds 7 (by decide)
            have tb143 : (Rg.putUse V [(5, 141), (7, 143)] fr).eval (.tmp 143) = .int .i64 ((k : Int) + 1) := (Rg.use_eval V fr 143 [(5, 141), (7, 143)] (by simp only [hz]; decide)).trans h7
            show Rg.Does1 _ _ V (Rg.putUse V [(5, 141), (7, 143)] fr) w2 _
            exact Ob.rc_sll rfl tb141 tb143 (S2 w2) rfl rfl True.intro
          · intro V S w2 HM HU HE
            have lw : Below w9.heap.size w9 w2 := Rc.Mod.below HM (fun _ h => h.elim)
            have tb140 : (Rg.putUse V [(4, 140), (8, 144)] fr).eval (.tmp 140) = V 4 := (Rg.use_eval V fr 140 [(4, 140), (8, 144)] (by simp only [hz]; decide)).trans rfl
            have h8 : V 8 = .slice A3 L2.length c3 := HU.holds 8 (by decide)
            have tb144 : (Rg.putUse V [(4, 140), (8, 144)] fr).eval (.tmp 144) = .slice A3 L2.length c3 := (Rg.use_eval V fr 144 [(4, 140), (8, 144)] (by simp only [hz]; decide)).trans h8
            show Rg.Does1 _ _ V (Rg.putUse V [(4, 140), (8, 144)] fr) w2 _
            exact step_rapp (i := 4) (L1) (L2) (L1 ++ L2) rfl rfl tb140 tb144 rfl (by decide) (HU.holds 4 (by decide)) (Src.of_rd Q2.out lw) (HU.lt 4 (by decide)) (by omega) (fun x => Rg.alias_none rfl V x) True.intro
          · intro V S w2 HM HU HE
            have lw : Below w9.heap.size w9 w2 := Rc.Mod.below HM (fun _ h => h.elim)
            have tb0 : (Rg.putUse V [] fr).eval (.tmp 0) = .slice A0 b.length c0 := (Rg.use_eval V fr 0 [] (by simp only [hz]; decide)).trans y0
            show Rg.Does1 _ _ V (Rg.putUse V [] fr) w2 _
            exact Ob.rc_mv (.slice A0 b.length c0) (by simp only [execOp, tb0]; go_simp) rfl rfl True.intro
          · intro V S w2 HM HU HE
            have lw : Below w9.heap.size w9 w2 := Rc.Mod.below HM (fun _ h => h.elim)
            have h10 : V 10 = .slice A0 b.length c0 := HU.holds 10 (by decide)
            have tb146 : (Rg.putUse V [(10, 146)] fr).eval (.tmp 146) = .slice A0 b.length c0 := (Rg.use_eval V fr 146 [(10, 146)] (by simp only [hz]; decide)).trans h10
            show Rg.Does1 _ _ V (Rg.putUse V [(10, 146)] fr) w2 _
            exact Ob.rc_mv (.int .i64 ((b.length : Nat) : Int)) (by simp only [execOp, resolve, List.map_toArray, List.map_cons, List.map_nil, tb146]; go_simp) rfl rfl True.intro
          · intro V S w2 HM HU HE
            have lw : Below w9.heap.size w9 w2 := Rc.Mod.below HM (fun _ h => h.elim)
            have tb145 : (Rg.putUse V [(9, 145), (11, 147)] fr).eval (.tmp 145) = V 9 := (Rg.use_eval V fr 145 [(9, 145), (11, 147)] (by simp only [hz]; decide)).trans rfl
            have h11 : V 11 = .int .i64 ((b.length : Nat) : Int) := HU.holds 11 (by decide)
            have tb147 : (Rg.putUse V [(9, 145), (11, 147)] fr).eval (.tmp 147) = .int .i64 ((b.length : Nat) : Int) := (Rg.use_eval V fr 147 [(9, 145), (11, 147)] (by simp only [hz]; decide)).trans h11
            show Rg.Does1 _ _ V (Rg.putUse V [(9, 145), (11, 147)] fr) w2 _
            exact Ob.step_tell (.tuple #[.slice none 0 0, .int .i64 12]) #[V 9, .int .i64 ((b.length : Nat) : Int)] (fun args w => Rg.call_enter Try.func20 (by kernel_rfl) (by kernel_rfl) args w) rfl (by simp only [List.map_toArray, List.map_cons, List.map_nil, tb145, tb147]) rfl (fun x => Rg.alias_none rfl V x) True.intro (glue_no (HU.holds 9 (by decide)).1 lw (by rw [List.length_append]; omega) (by omega) HNO.out)
          · intro V S w2 HM HU HE
            have lw : Below w9.heap.size w9 w2 := Rc.Mod.below HM (fun _ h => h.elim)
            have h12 : V 12 = .tuple #[.slice none 0 0, .int .i64 12] := HU.holds 12 (by decide)
            have tb148 : (Rg.putUse V [(12, 148)] fr).eval (.tmp 148) = .tuple #[.slice none 0 0, .int .i64 12] := (Rg.use_eval V fr 148 [(12, 148)] (by simp only [hz]; decide)).trans h12
            show Rg.Does1 _ _ V (Rg.putUse V [(12, 148)] fr) w2 _
            exact Ob.rc_mv (.tuple #[.slice none 0 0, .int .i64 12]) (by simp only [execOp, tb148]; go_simp) rfl rfl True.intro
          · intro V S w2 HM HU HE
            have lw : Below w9.heap.size w9 w2 := Rc.Mod.below HM (fun _ h => h.elim)
            have h13 : V 13 = .tuple #[.slice none 0 0, .int .i64 12] := HU.holds 13 (by decide)
            have tb135 : (Rg.putUse V [(13, 135)] fr).eval (.tmp 135) = .tuple #[.slice none 0 0, .int .i64 12] := (Rg.use_eval V fr 135 [(13, 135)] (by simp only [hz]; decide)).trans h13
            show Rg.Does1 _ _ V (Rg.putUse V [(13, 135)] fr) w2 _
            exact Ob.rc_mv (.slice none 0 0) (by simp only [execOp, tb135]; go_simp) rfl rfl True.intro
          · intro V S w2 HM HU HE
            have lw : Below w9.heap.size w9 w2 := Rc.Mod.below HM (fun _ h => h.elim)
            have h13 : V 13 = .tuple #[.slice none 0 0, .int .i64 12] := HU.holds 13 (by decide)
            have tb135 : (Rg.putUse V [(13, 135)] fr).eval (.tmp 135) = .tuple #[.slice none 0 0, .int .i64 12] := (Rg.use_eval V fr 135 [(13, 135)] (by simp only [hz]; decide)).trans h13
            show Rg.Does1 _ _ V (Rg.putUse V [(13, 135)] fr) w2 _
            exact Ob.rc_mv (.int .i64 12) (by simp only [execOp, tb135]; go_simp) rfl rfl True.intro
          · intro V S w2 HM HU HE
            have lw : Below w9.heap.size w9 w2 := Rc.Mod.below HM (fun _ h => h.elim)
            have h14 : V 14 = .slice none 0 0 := HU.holds 14 (by decide)
            have tb149 : (Rg.putUse V [(14, 149)] fr).eval (.tmp 149) = .slice none 0 0 := (Rg.use_eval V fr 149 [(14, 149)] (by simp only [hz]; decide)).trans h14
            show Rg.Does1 _ _ V (Rg.putUse V [(14, 149)] fr) w2 _
            exact Ob.rc_mv (.slice none 0 0) (by simp only [execOp, tb149]; go_simp) rfl rfl True.intro
          · intro V S w2 HM HU HE
            have lw : Below w9.heap.size w9 w2 := Rc.Mod.below HM (fun _ h => h.elim)
            have h15 : V 15 = .int .i64 12 := HU.holds 15 (by decide)
            have tb150 : (Rg.putUse V [(15, 150)] fr).eval (.tmp 150) = .int .i64 12 := (Rg.use_eval V fr 150 [(15, 150)] (by simp only [hz]; decide)).trans h15
            show Rg.Does1 _ _ V (Rg.putUse V [(15, 150)] fr) w2 _
            exact Ob.rc_mv (.int .i64 12) (by simp only [execOp, tb150]; go_simp) rfl rfl True.intro
        · intro V S w2 HI
          have HL2 : Hid (Below w9.heap.size w9 w2) := Rc.Mod.below HI.mod.undrew (fun _ h => h.elim)
          have hw17 : V 17 = .int .i64 12 := HI.get 17 (by decide) (by rfl)
          simp only [Rg.putList, Act.put, List.setIfInBounds_toArray, List.set_cons_zero, List.set_cons_succ, Nat.zero_add, Nat.reduceAdd]
          rw [hw17]
          clear HI hw17
          have HBE : Hid (Below w.heap.size w w2) := HB9.out.trans (HL2.out.mono HB9.out.size)
          clear HL2 HB9
          go_wp2_with fail
          refine (known_any _).mono ?_
          rintro e wk ⟨rfl, hk⟩
          obtain rfl := hk.symm
          go_wp2_with fail
          go_ret
          exact ⟨rfl, HBE.out⟩
end Go.Proofs.Ytkjkmdhbodjeeaa
