/-
  OWN WORK. The law MerkleChain, walked.
-/
import Derived.Test.YtjeclmbableacaaDoorMkKnown
import Derived.Test.YtjeclmbableacaaDoorMkCheckR
import Derived.Test.YtjeclmbableacaaDoorMkPathR
import Derived.Test.YtjeclmbableacaaDoorMkLen
import Derived.Test.YtjeclmbableacaaDoorBaWithin
namespace Go.Proofs.YtjeclmbableacaaDoor
open Go.RowKit Rc

set_option maxHeartbeats 8000000 in
set_option maxRecDepth 100000 in
theorem chain_any (w : World) (L0 : List (List UInt8)) (A0 : Option Addr) (c0 : Nat) (hr0 : RdL w A0 L0) (hl0 : ∀ y, y ∈ L0 → y.length ≤ 9223372036854775807) (hn0 : L0.length ≤ 9223372036854775807) (hk0 : KP w) :
    Calls Tryd.prog 7 #[.slice A0 L0.length c0] w fun e w' => e = .returned (.bool true) ∧ Below w.heap.size w w' := by
  have HK0 := Lib.hid hk0
  have HR0 := Lib.hid hr0
  have HL0 := Lib.hid hl0
  have HN0 := Lib.hid hn0
  clear hk0 hr0 hl0 hn0
  go_enter Tryd.func7, Tryd.ntmps7
  go_wp2_with fail
  refine (few_any w L0 A0 c0 HR0.out HL0.out HN0.out).mono ?_
  rintro e w1 ⟨v, R, rfl, hf, h40, hrow, hb⟩
  obtain ⟨A, c, rfl, hc, hrd⟩ := hf.form hb
  have HR1 := Lib.hid hrd
  have HB1 := Lib.hid hb
  have HROW := Lib.hid hrow
  have HS : Hid (Small R) := ⟨by omega, fun y hy => by have := hrow y hy; omega⟩
  have HK1 : Hid (KP w1) := HK0.out.later HB1.out
  clear hf hrd hb hrow HR0 HL0 HN0
  go_wp2_with fail
  refine (pRoot _ w1 R A c rfl HR1.out hc HS.out HK1.out).mono ?_
  rintro e w3 ⟨v, rfl, ⟨RA, rc, rfl, hrc, hrr, _⟩, hb⟩
  have HR3 : Hid (RdL w3 A R) := HR1.out.below hb
  have HB3 : Hid (Below w.heap.size w w3) := HB1.out.trans (hb.mono HB1.out.size)
  have HK3 : Hid (KP w3) := HK1.out.later hb
  have HRR3 := Lib.hid hrr
  clear hb hrr HR1 HB1 HK1
  go_wp2_with fail
  go_loopw [5] (fun t5 wr => ∃ m : Nat, t5 = .int .i64 (m : Nat) ∧ 1 ≤ m ∧ m ≤ R.length + 1 ∧ Hid (Below w3.heap.size w3 wr)) (fun t5 _ => R.length + 1 - (intOf t5).toNat)
  case atStart => exact ⟨1, rfl, Nat.le_refl _, by omega, Below.refl _ _⟩
  case round =>
    obtain ⟨m, rfl, hm1, hm2, HW⟩ := hrel
    have HR4 : Hid (RdL wr A R) := HR3.out.below HW.out
    have HK4 : Hid (KP wr) := HK3.out.later HW.out
    have HRR4 : Hid (Rd wr RA (Mk.root Sh.sum R)) := HRR3.out.below HW.out
    have HB4 : Hid (Below w.heap.size w wr) := HB3.out.trans (HW.out.mono HB3.out.size)
    by_cases hle : m ≤ R.length
    · have S1 := fun W => rows_h W A R c m hle hc
      have hT1 : (R.take m).length ≤ c := by rw [List.length_take]; omega
      have QT1 : Hid (∀ W, RdL W A R → RdL W A (R.take m)) := fun W h => h.take m
      have MT1 := Lib.hid (HS.out.take m)
      have HCG : Hid (∀ G, G = Mk.sub Sh.sum R m true → chkg (Mk.root Sh.sum (R.take m)) (Mk.root Sh.sum R) m R.length G = true) := fun G hG => by
        rw [hG]
        refine decide_eq_true ⟨by omega, by omega, ?_⟩
        rw [Int.toNat_natCast, Int.toNat_natCast]
        exact Mk.both_sub Sh.sum R.length R m true _ (Nat.le_refl _) hm1 hle (fun _ => rfl)
      have HT2 : Hid (m < R.length → ∀ G, G = Mk.sub Sh.sum (R.take (m + 1)) m true → chkg (Mk.root Sh.sum (R.take m)) (Mk.root Sh.sum (R.take (m + 1))) m (m + 1) G = true) := fun hlt G hG => by
        rw [hG]
        have hl : (R.take (m + 1)).length = m + 1 := by rw [List.length_take]; omega
        have ht : (R.take (m + 1)).take m = R.take m := by rw [List.take_take, Nat.min_eq_left (by omega)]
        refine decide_eq_true ⟨by omega, by omega, ?_⟩
        have := Mk.both_sub Sh.sum (m + 1) (R.take (m + 1)) m true (Mk.root Sh.sum ((R.take (m + 1)).take m)) (by omega) hm1 (by omega) (fun _ => rfl)
        rw [hl, ht] at this
        rw [show ((m : Int) + 1).toNat = m + 1 by omega, Int.toNat_natCast]
        exact this
      obtain ⟨T1, hT⟩ : ∃ T1, T1 = R.take m := ⟨_, rfl⟩
      rw [← hT] at S1 hT1 QT1 MT1 HCG HT2
      clear hT
      go_wp2_with fail
      refine (pGrown wr R A c m HR4.out hc HS.out HK4.out hm1 hle).mono ?_
      rintro e w5 ⟨x, rfl, hx, hb⟩
      obtain ⟨GA, gc, rfl, hgc, hgr⟩ := hx.form
      have HR5 : Hid (RdL w5 A R) := HR4.out.below hb
      have HK5 : Hid (KP w5) := HK4.out.later hb
      have HRR5 : Hid (Rd w5 RA (Mk.root Sh.sum R)) := HRR4.out.below hb
      have HB5 : Hid (Below w.heap.size w w5) := HB4.out.trans (hb.mono HB4.out.size)
      have HW5 : Hid (Below w3.heap.size w3 w5) := HW.out.trans (hb.mono HW.out.size)
      obtain ⟨G, hG⟩ : ∃ G, G = Mk.sub Sh.sum R m true := ⟨_, rfl⟩
      rw [← hG] at hgr hgc
      rw [← hG]
      have HG5 := Lib.hid hgr
      have HGC := Lib.hid (HCG.out G hG)
      have hgl : G.length ≤ 7 := by rw [hG]; exact Mk.sub_length Sh.sum 6 R m true (by omega)
      have HSG : Hid (∀ y, y ∈ G → y.length = 32) := fun y hy => sub_mem R m true y (hG ▸ hy)
      clear hx hb hgr hG HCG HR4 HRR4 HB4 HW
      go_wp2_with fail
      refine (pRoot _ w5 T1 A c rfl (QT1.out w5 HR5.out) hT1 MT1.out HK5.out).mono ?_
      rintro e w8 ⟨v, rfl, ⟨OA, oc, rfl, hoc, hor, _⟩, hb⟩
      have HO8 := Lib.hid hor
      have HR8 : Hid (RdL w8 A R) := HR5.out.below hb
      have HK8 : Hid (KP w8) := HK5.out.later hb
      have HRR8 : Hid (Rd w8 RA (Mk.root Sh.sum R)) := HRR5.out.below hb
      have HG8 : Hid (RdL w8 GA G) := HG5.out.below hb
      have HB8 : Hid (Below w.heap.size w w8) := HB5.out.trans (hb.mono HB5.out.size)
      have HW8 : Hid (Below w3.heap.size w3 w8) := HW5.out.trans (hb.mono HW5.out.size)
      clear hb hor HR5 HK5 HRR5 HG5 HB5 HW5
      go_wp2_with fail
      refine (pCheckGrown w8 (Mk.root Sh.sum T1) (Mk.root Sh.sum R) OA RA oc rc m R.length G GA gc (by omega) (by omega) HRR8.out HO8.out hoc (.inl (root_length _)) HG8.out hgc HSG.out (by omega) HK8.out).mono ?_
      rintro e w6 ⟨rfl, hb⟩
      rw [HGC.out]
      have HR6 : Hid (RdL w6 A R) := HR8.out.below hb
      have HK6 : Hid (KP w6) := HK8.out.later hb
      have HB6 : Hid (Below w.heap.size w w6) := HB8.out.trans (hb.mono HB8.out.size)
      have HW6 : Hid (Below w3.heap.size w3 w6) := HW8.out.trans (hb.mono HW8.out.size)
      clear hb HR8 HK8 HRR8 HG8 HB8 HW8 HO8
      by_cases hme : m = R.length
      · subst hme
        go_wp2_with fail
        refine (known_any _ HK6.out).mono ?_
        rintro e wk ⟨rfl, hb⟩
        have HBK : Hid (Below w.heap.size w wk) := HB6.out.trans (hb.mono HB6.out.size)
        clear hb
        go_wp2_with fail
        go_ret
        exact ⟨rfl, HBK.out⟩
      · have hlt : m < R.length := by omega
        have hcg2 := HT2.out hlt
        have S2 : ∀ W, (Instr.sliceAt 22 (.slice A R.length c) none (some (.int .i64 ((m : Int) + 1))) none).run Tryd.prog W = .ok (.slice A (R.take (m + 1)).length c) W := fun W => rows_h W A R c (m + 1) hlt hc
        have hT2 : (R.take (m + 1)).length ≤ c := by rw [List.length_take]; omega
        have hT2l : (R.take (m + 1)).length = m + 1 := by rw [List.length_take]; omega
        have QT2 : Hid (∀ W, RdL W A R → RdL W A (R.take (m + 1))) := fun W h => h.take _
        have MT2 := Lib.hid (HS.out.take (m + 1))
        obtain ⟨T2, hTe⟩ : ∃ T2, T2 = R.take (m + 1) := ⟨_, rfl⟩
        rw [← hTe] at S2 hT2 hT2l QT2 MT2 hcg2
        have HT2L := Lib.hid hT2l
        have HC2 := Lib.hid hcg2
        clear hTe hT2l hcg2 HT2
        go_wp2_with fail
        refine (pGrown w6 T2 A c m (QT2.out w6 HR6.out) hT2 MT2.out HK6.out hm1 (by have := HT2L.out; omega)).mono ?_
        rintro e w7 ⟨x, rfl, hx, hb⟩
        obtain ⟨FA, fc, rfl, hfc, hfr⟩ := hx.form
        have HR7 : Hid (RdL w7 A R) := HR6.out.below hb
        have HK7 : Hid (KP w7) := HK6.out.later hb
        have HB7 : Hid (Below w.heap.size w w7) := HB6.out.trans (hb.mono HB6.out.size)
        have HW7 : Hid (Below w3.heap.size w3 w7) := HW6.out.trans (hb.mono HW6.out.size)
        obtain ⟨F, hF⟩ : ∃ F, F = Mk.sub Sh.sum T2 m true := ⟨_, rfl⟩
        rw [← hF] at hfr hfc
        rw [← hF]
        have HF7 := Lib.hid hfr
        have HFC := Lib.hid (HC2.out F hF)
        have hfl : F.length ≤ 7 := by rw [hF]; exact Mk.sub_length Sh.sum 6 T2 m true (by have := HT2L.out; omega)
        have HSF : Hid (∀ y, y ∈ F → y.length = 32) := fun y hy => sub_mem T2 m true y (hF ▸ hy)
        clear hx hb hfr hF HC2 HR6 HK6 HB6 HW6
        go_wp2_with fail
        go_upto_region 11 with (fail)
        refine Rc.wp_region (by kernel_rfl) (fun opn => List.getD [Rc.val (.int .i64 0), Rc.val (.bool false), Rc.val (.bool false), Rc.val (.slice A R.length c), Rc.val (.int .i64 ((m : Nat) : Int)), Rc.val (.slice A T1.length c), Ob.frow (Mk.root Sh.sum T1), Rc.val (.slice A R.length c), Rc.val (.int .i64 ((m : Nat) : Int)), Rc.val (.int .i64 ((m : Int) + 1)), Rc.val (.slice A T2.length c), Ob.frow (Mk.root Sh.sum T2), Rc.val (.int .i64 ((m : Nat) : Int)), Rc.val (.int .i64 ((m : Nat) : Int)), Rc.val (.int .i64 ((m : Int) + 1)), Rc.val (.slice FA F.length fc), Rc.val (.bool true), Rc.val (.bool false), Rc.val (.bool false)] opn Rc.any) 0 [] [[], [(0, 54)], [(1, 55)], [(2, 56)], [(2, 56)], [(2, 56), (3, 57), (4, 58)], [(2, 56), (5, 59)], [(2, 56)], [(2, 56)], [(2, 56), (8, 62)], [(2, 56), (7, 61), (9, 63)], [(2, 56), (10, 64)], [(2, 56)], [(2, 56)], [(2, 56), (13, 67)], [(2, 56)], [(2, 56), (6, 60), (11, 65), (12, 66), (14, 68), (15, 69)], [(2, 56), (16, 70)], [(2, 56), (17, 71)]] [[], [0], [0, 1], [0, 1, 2], [0, 1, 2], [0, 1, 2, 3, 4], [0, 1, 2, 3, 4, 5], [0, 1, 2], [0, 1, 2], [0, 1, 2, 8], [0, 1, 2, 7, 8, 9], [0, 1, 2, 3, 4, 5, 6, 7, 8, 9, 10], [0, 1, 2], [0, 1, 2], [0, 1, 2, 13], [0, 1, 2], [0, 1, 2, 3, 4, 5, 6, 7, 8, 9, 10, 11, 12, 13, 14, 15], [0, 1, 2, 3, 4, 5, 6, 7, 8, 9, 10, 11, 12, 13, 14, 15, 16], [0, 1, 2, 3, 4, 5, 6, 7, 8, 9, 10, 11, 12, 13, 14, 15, 16, 17]] [[], [0], [1], [2], [2], [2, 3, 4], [2, 5], [2], [2], [2, 8], [2, 7, 9], [2, 10], [2], [2], [2, 13], [2], [2, 6, 11, 12, 14, 15], [2, 16], [2, 17]] [] (by kernel_rfl) (by rfl) (by kernel_rfl) (fun _ => False) (fun _ _ => False) Rc.Inv.none ?_ ?_
        · intro fr ha
          have hz : fr.tmps.size = 74 := by rw [ha]; rfl
          have y3 : fr.eval (.tmp 3) = .slice A R.length c := by rw [ha]; rfl
          have y5 : fr.eval (.tmp 5) = .int .i64 ((m : Nat) : Int) := by rw [ha]; rfl
          have y8 : fr.eval (.tmp 8) = .slice FA F.length fc := by rw [ha]; rfl
          have y9 : fr.eval (.tmp 9) = .int .i64 0 := by rw [ha]; rfl
          clear ha
          refine .cons ?_ (.cons ?_ (.cons ?_ (.cons ?_ (.cons ?_ (.cons ?_ (.cons ?_ (.cons ?_ (.cons ?_ (.cons ?_ (.cons ?_ (.cons ?_ (.cons ?_ (.cons ?_ (.cons ?_ (.cons ?_ (.cons ?_ (.cons ?_ (.cons ?_ (.nil)))))))))))))))))))
          · intro V S w2 HM HU HE
            have lw : Below w7.heap.size w7 w2 := Rc.Mod.below HM (fun _ h => h.elim)
            have tb9 : (Rg.putUse V [] fr).eval (.tmp 9) = .int .i64 0 := (Rg.use_eval V fr 9 [] (by simp only [hz]; decide)).trans y9
            show Rg.Does1 _ _ V (Rg.putUse V [] fr) w2 _
            exact Ob.rc_mv (.int .i64 0) (by simp only [execOp, tb9]; go_simp) rfl rfl True.intro
          · intro V S w2 HM HU HE
            have lw : Below w7.heap.size w7 w2 := Rc.Mod.below HM (fun _ h => h.elim)
            have h0 : V 0 = .int .i64 0 := HU.holds 0 (by decide)
            have tb54 : (Rg.putUse V [(0, 54)] fr).eval (.tmp 54) = .int .i64 0 := (Rg.use_eval V fr 54 [(0, 54)] (by simp only [hz]; decide)).trans h0
            show Rg.Does1 _ _ V (Rg.putUse V [(0, 54)] fr) w2 _
            exact Ob.rc_mv (.bool false) (by simp only [execOp, tb54]; go_simp) rfl rfl True.intro
          · intro V S w2 HM HU HE
            have lw : Below w7.heap.size w7 w2 := Rc.Mod.below HM (fun _ h => h.elim)
            have h1 : V 1 = .bool false := HU.holds 1 (by decide)
            have tb55 : (Rg.putUse V [(1, 55)] fr).eval (.tmp 55) = .bool false := (Rg.use_eval V fr 55 [(1, 55)] (by simp only [hz]; decide)).trans h1
            show Rg.Does1 _ _ V (Rg.putUse V [(1, 55)] fr) w2 _
            exact Ob.rc_mv (.bool false) (by simp only [execOp, tb55]; go_simp) rfl rfl True.intro
          · intro V S w2 HM HU HE
            have lw : Below w7.heap.size w7 w2 := Rc.Mod.below HM (fun _ h => h.elim)
            have h2 : V 2 = .bool false := HU.holds 2 (by decide)
            have tb3 : (Rg.putUse V [(2, 56)] fr).eval (.tmp 3) = .slice A R.length c := (Rg.use_eval V fr 3 [(2, 56)] (by simp only [hz]; decide)).trans y3
            show Rg.Does1 _ _ V (Rg.putUse V [(2, 56)] fr) w2 _
            exact Ob.rc_mv (.slice A R.length c) (by simp only [execOp, tb3]; go_simp) rfl rfl h2
          · intro V S w2 HM HU HE
            have lw : Below w7.heap.size w7 w2 := Rc.Mod.below HM (fun _ h => h.elim)
            have h2 : V 2 = .bool false := HU.holds 2 (by decide)
            have tb5 : (Rg.putUse V [(2, 56)] fr).eval (.tmp 5) = .int .i64 ((m : Nat) : Int) := (Rg.use_eval V fr 5 [(2, 56)] (by simp only [hz]; decide)).trans y5
            show Rg.Does1 _ _ V (Rg.putUse V [(2, 56)] fr) w2 _
            exact Ob.rc_mv (.int .i64 ((m : Nat) : Int)) (by simp only [execOp, tb5]; go_simp) rfl rfl h2
          · intro V S w2 HM HU HE
            have lw : Below w7.heap.size w7 w2 := Rc.Mod.below HM (fun _ h => h.elim)
            have h2 : V 2 = .bool false := HU.holds 2 (by decide)
            have h3 : V 3 = .slice A R.length c := HU.holds 3 (by decide)
            have tb57 : (Rg.putUse V [(2, 56), (3, 57), (4, 58)] fr).eval (.tmp 57) = .slice A R.length c := (Rg.use_eval V fr 57 [(2, 56), (3, 57), (4, 58)] (by simp only [hz]; decide)).trans h3
            have h4 : V 4 = .int .i64 ((m : Nat) : Int) := HU.holds 4 (by decide)
            have tb58 : (Rg.putUse V [(2, 56), (3, 57), (4, 58)] fr).eval (.tmp 58) = .int .i64 ((m : Nat) : Int) := (Rg.use_eval V fr 58 [(2, 56), (3, 57), (4, 58)] (by simp only [hz]; decide)).trans h4
            show Rg.Does1 _ _ V (Rg.putUse V [(2, 56), (3, 57), (4, 58)] fr) w2 _
            exact Ob.rc_slh rfl tb57 tb58 (S1 w2) rfl rfl h2
          · intro V S w2 HM HU HE
            have lw : Below w7.heap.size w7 w2 := Rc.Mod.below HM (fun _ h => h.elim)
            have h2 : V 2 = .bool false := HU.holds 2 (by decide)
            have h5 : V 5 = .slice A T1.length c := HU.holds 5 (by decide)
            have tb59 : (Rg.putUse V [(2, 56), (5, 59)] fr).eval (.tmp 59) = .slice A T1.length c := (Rg.use_eval V fr 59 [(2, 56), (5, 59)] (by simp only [hz]; decide)).trans h5
            show Rg.Does1 _ _ V (Rg.putUse V [(2, 56), (5, 59)] fr) w2 _
            exact step_hcall (Mk.root Sh.sum T1) #[.slice A T1.length c] (fun args w => Rg.call_enter Tryd.func9 (by kernel_rfl) (by kernel_rfl) args w) rfl (by simp only [List.map_toArray, List.map_cons, List.map_nil, tb59]) rfl (fun x => Rg.alias_none rfl V x) h2 (pRoot _ w2 T1 A c rfl (QT1.out w2 (HR7.out.below lw)) hT1 MT1.out (HK7.out.later lw))
          · intro V S w2 HM HU HE
            have lw : Below w7.heap.size w7 w2 := Rc.Mod.below HM (fun _ h => h.elim)
            have h2 : V 2 = .bool false := HU.holds 2 (by decide)
            have tb3 : (Rg.putUse V [(2, 56)] fr).eval (.tmp 3) = .slice A R.length c := (Rg.use_eval V fr 3 [(2, 56)] (by simp only [hz]; decide)).trans y3
            show Rg.Does1 _ _ V (Rg.putUse V [(2, 56)] fr) w2 _
            exact Ob.rc_mv (.slice A R.length c) (by simp only [execOp, tb3]; go_simp) rfl rfl h2
          · intro V S w2 HM HU HE
            have lw : Below w7.heap.size w7 w2 := Rc.Mod.below HM (fun _ h => h.elim)
            have h2 : V 2 = .bool false := HU.holds 2 (by decide)
            have tb5 : (Rg.putUse V [(2, 56)] fr).eval (.tmp 5) = .int .i64 ((m : Nat) : Int) := (Rg.use_eval V fr 5 [(2, 56)] (by simp only [hz]; decide)).trans y5
            show Rg.Does1 _ _ V (Rg.putUse V [(2, 56)] fr) w2 _
            exact Ob.rc_mv (.int .i64 ((m : Nat) : Int)) (by simp only [execOp, tb5]; go_simp) rfl rfl h2
          · intro V S w2 HM HU HE
            have lw : Below w7.heap.size w7 w2 := Rc.Mod.below HM (fun _ h => h.elim)
            have h2 : V 2 = .bool false := HU.holds 2 (by decide)
            have h8 : V 8 = .int .i64 ((m : Nat) : Int) := HU.holds 8 (by decide)
            have tb62 : (Rg.putUse V [(2, 56), (8, 62)] fr).eval (.tmp 62) = .int .i64 ((m : Nat) : Int) := (Rg.use_eval V fr 62 [(2, 56), (8, 62)] (by simp only [hz]; decide)).trans h8
            show Rg.Does1 _ _ V (Rg.putUse V [(2, 56), (8, 62)] fr) w2 _
            exact Ob.rc_mv (.int .i64 ((m : Int) + 1)) (by simp only [execOp, tb62]; go_simp; rw [IntWalk.i64_in _ (by omega)]) rfl rfl h2
          · intro V S w2 HM HU HE
            have lw : Below w7.heap.size w7 w2 := Rc.Mod.below HM (fun _ h => h.elim)
            have h2 : V 2 = .bool false := HU.holds 2 (by decide)
            have h7 : V 7 = .slice A R.length c := HU.holds 7 (by decide)
            have tb61 : (Rg.putUse V [(2, 56), (7, 61), (9, 63)] fr).eval (.tmp 61) = .slice A R.length c := (Rg.use_eval V fr 61 [(2, 56), (7, 61), (9, 63)] (by simp only [hz]; decide)).trans h7
            have h9 : V 9 = .int .i64 ((m : Int) + 1) := HU.holds 9 (by decide)
            have tb63 : (Rg.putUse V [(2, 56), (7, 61), (9, 63)] fr).eval (.tmp 63) = .int .i64 ((m : Int) + 1) := (Rg.use_eval V fr 63 [(2, 56), (7, 61), (9, 63)] (by simp only [hz]; decide)).trans h9
            show Rg.Does1 _ _ V (Rg.putUse V [(2, 56), (7, 61), (9, 63)] fr) w2 _
            exact Ob.rc_slh rfl tb61 tb63 (S2 w2) rfl rfl h2
          · intro V S w2 HM HU HE
            have lw : Below w7.heap.size w7 w2 := Rc.Mod.below HM (fun _ h => h.elim)
            have h2 : V 2 = .bool false := HU.holds 2 (by decide)
            have h10 : V 10 = .slice A T2.length c := HU.holds 10 (by decide)
            have tb64 : (Rg.putUse V [(2, 56), (10, 64)] fr).eval (.tmp 64) = .slice A T2.length c := (Rg.use_eval V fr 64 [(2, 56), (10, 64)] (by simp only [hz]; decide)).trans h10
            show Rg.Does1 _ _ V (Rg.putUse V [(2, 56), (10, 64)] fr) w2 _
            exact step_hcall (Mk.root Sh.sum T2) #[.slice A T2.length c] (fun args w => Rg.call_enter Tryd.func9 (by kernel_rfl) (by kernel_rfl) args w) rfl (by simp only [List.map_toArray, List.map_cons, List.map_nil, tb64]) rfl (fun x => Rg.alias_none rfl V x) h2 (pRoot _ w2 T2 A c rfl (QT2.out w2 (HR7.out.below lw)) hT2 MT2.out (HK7.out.later lw))
          · intro V S w2 HM HU HE
            have lw : Below w7.heap.size w7 w2 := Rc.Mod.below HM (fun _ h => h.elim)
            have h2 : V 2 = .bool false := HU.holds 2 (by decide)
            have tb5 : (Rg.putUse V [(2, 56)] fr).eval (.tmp 5) = .int .i64 ((m : Nat) : Int) := (Rg.use_eval V fr 5 [(2, 56)] (by simp only [hz]; decide)).trans y5
            show Rg.Does1 _ _ V (Rg.putUse V [(2, 56)] fr) w2 _
            exact Ob.rc_mv (.int .i64 ((m : Nat) : Int)) (by simp only [execOp, tb5]; go_simp) rfl rfl h2
          · intro V S w2 HM HU HE
            have lw : Below w7.heap.size w7 w2 := Rc.Mod.below HM (fun _ h => h.elim)
            have h2 : V 2 = .bool false := HU.holds 2 (by decide)
            have tb5 : (Rg.putUse V [(2, 56)] fr).eval (.tmp 5) = .int .i64 ((m : Nat) : Int) := (Rg.use_eval V fr 5 [(2, 56)] (by simp only [hz]; decide)).trans y5
            show Rg.Does1 _ _ V (Rg.putUse V [(2, 56)] fr) w2 _
            exact Ob.rc_mv (.int .i64 ((m : Nat) : Int)) (by simp only [execOp, tb5]; go_simp) rfl rfl h2
          · intro V S w2 HM HU HE
            have lw : Below w7.heap.size w7 w2 := Rc.Mod.below HM (fun _ h => h.elim)
            have h2 : V 2 = .bool false := HU.holds 2 (by decide)
            have h13 : V 13 = .int .i64 ((m : Nat) : Int) := HU.holds 13 (by decide)
            have tb67 : (Rg.putUse V [(2, 56), (13, 67)] fr).eval (.tmp 67) = .int .i64 ((m : Nat) : Int) := (Rg.use_eval V fr 67 [(2, 56), (13, 67)] (by simp only [hz]; decide)).trans h13
            show Rg.Does1 _ _ V (Rg.putUse V [(2, 56), (13, 67)] fr) w2 _
            exact Ob.rc_mv (.int .i64 ((m : Int) + 1)) (by simp only [execOp, tb67]; go_simp; rw [IntWalk.i64_in _ (by omega)]) rfl rfl h2
          · intro V S w2 HM HU HE
            have lw : Below w7.heap.size w7 w2 := Rc.Mod.below HM (fun _ h => h.elim)
            have h2 : V 2 = .bool false := HU.holds 2 (by decide)
            have tb8 : (Rg.putUse V [(2, 56)] fr).eval (.tmp 8) = .slice FA F.length fc := (Rg.use_eval V fr 8 [(2, 56)] (by simp only [hz]; decide)).trans y8
            show Rg.Does1 _ _ V (Rg.putUse V [(2, 56)] fr) w2 _
            exact Ob.rc_mv (.slice FA F.length fc) (by simp only [execOp, tb8]; go_simp) rfl rfl h2
          · intro V S w2 HM HU HE
            have lw : Below w7.heap.size w7 w2 := Rc.Mod.below HM (fun _ h => h.elim)
            have h2 : V 2 = .bool false := HU.holds 2 (by decide)
            obtain ⟨X6, k6, e6, hc6, hr6, hX6⟩ := HU.holds 6 (by decide)
            have tb60 : (Rg.putUse V [(2, 56), (6, 60), (11, 65), (12, 66), (14, 68), (15, 69)] fr).eval (.tmp 60) = .slice X6 (Mk.root Sh.sum T1).length k6 := (Rg.use_eval V fr 60 [(2, 56), (6, 60), (11, 65), (12, 66), (14, 68), (15, 69)] (by simp only [hz]; decide)).trans e6
            obtain ⟨X11, k11, e11, hc11, hr11, hX11⟩ := HU.holds 11 (by decide)
            have tb65 : (Rg.putUse V [(2, 56), (6, 60), (11, 65), (12, 66), (14, 68), (15, 69)] fr).eval (.tmp 65) = .slice X11 (Mk.root Sh.sum T2).length k11 := (Rg.use_eval V fr 65 [(2, 56), (6, 60), (11, 65), (12, 66), (14, 68), (15, 69)] (by simp only [hz]; decide)).trans e11
            have h12 : V 12 = .int .i64 ((m : Nat) : Int) := HU.holds 12 (by decide)
            have tb66 : (Rg.putUse V [(2, 56), (6, 60), (11, 65), (12, 66), (14, 68), (15, 69)] fr).eval (.tmp 66) = .int .i64 ((m : Nat) : Int) := (Rg.use_eval V fr 66 [(2, 56), (6, 60), (11, 65), (12, 66), (14, 68), (15, 69)] (by simp only [hz]; decide)).trans h12
            have h14 : V 14 = .int .i64 ((m : Int) + 1) := HU.holds 14 (by decide)
            have tb68 : (Rg.putUse V [(2, 56), (6, 60), (11, 65), (12, 66), (14, 68), (15, 69)] fr).eval (.tmp 68) = .int .i64 ((m : Int) + 1) := (Rg.use_eval V fr 68 [(2, 56), (6, 60), (11, 65), (12, 66), (14, 68), (15, 69)] (by simp only [hz]; decide)).trans h14
            have h15 : V 15 = .slice FA F.length fc := HU.holds 15 (by decide)
            have tb69 : (Rg.putUse V [(2, 56), (6, 60), (11, 65), (12, 66), (14, 68), (15, 69)] fr).eval (.tmp 69) = .slice FA F.length fc := (Rg.use_eval V fr 69 [(2, 56), (6, 60), (11, 65), (12, 66), (14, 68), (15, 69)] (by simp only [hz]; decide)).trans h15
            show Rg.Does1 _ _ V (Rg.putUse V [(2, 56), (6, 60), (11, 65), (12, 66), (14, 68), (15, 69)] fr) w2 _
            exact Ob.step_tell (.bool true) #[.slice X6 (Mk.root Sh.sum T1).length k6, .slice X11 (Mk.root Sh.sum T2).length k11, .int .i64 ((m : Nat) : Int), .int .i64 ((m : Int) + 1), .slice FA F.length fc] (fun args w => Rg.call_enter Tryd.func17 (by kernel_rfl) (by kernel_rfl) args w) rfl (by simp only [List.map_toArray, List.map_cons, List.map_nil, tb60, tb65, tb66, tb68, tb69]) rfl (fun x => Rg.alias_none rfl V x) h2 ((pCheckGrown w2 (Mk.root Sh.sum T1) (Mk.root Sh.sum T2) X6 X11 k6 k11 m ((m : Int) + 1) F FA fc (by omega) (by omega) hr11 hr6 hc6 (.inl (root_length _)) (HF7.out.below lw) hfc HSF.out (by omega) (HK7.out.later lw)).mono fun e w' h => ⟨by rw [h.1, HFC.out], h.2⟩)
          · intro V S w2 HM HU HE
            have lw : Below w7.heap.size w7 w2 := Rc.Mod.below HM (fun _ h => h.elim)
            have h2 : V 2 = .bool false := HU.holds 2 (by decide)
            have h16 : V 16 = .bool true := HU.holds 16 (by decide)
            have tb70 : (Rg.putUse V [(2, 56), (16, 70)] fr).eval (.tmp 70) = .bool true := (Rg.use_eval V fr 70 [(2, 56), (16, 70)] (by simp only [hz]; decide)).trans h16
            show Rg.Does1 _ _ V (Rg.putUse V [(2, 56), (16, 70)] fr) w2 _
            exact Ob.rc_mv (.bool false) (by simp only [execOp, tb70]; go_simp) rfl rfl h2
          · intro V S w2 HM HU HE
            have lw : Below w7.heap.size w7 w2 := Rc.Mod.below HM (fun _ h => h.elim)
            have h2 : V 2 = .bool false := HU.holds 2 (by decide)
            have tb56 : (Rg.putUse V [(2, 56), (17, 71)] fr).eval (.tmp 56) = .bool false := (Rg.use_eval V fr 56 [(2, 56), (17, 71)] (by simp only [hz]; decide)).trans h2
            have h17 : V 17 = .bool false := HU.holds 17 (by decide)
            have tb71 : (Rg.putUse V [(2, 56), (17, 71)] fr).eval (.tmp 71) = .bool false := (Rg.use_eval V fr 71 [(2, 56), (17, 71)] (by simp only [hz]; decide)).trans h17
            show Rg.Does1 _ _ V (Rg.putUse V [(2, 56), (17, 71)] fr) w2 _
            exact Ob.rc_mv (.bool false) (by simp only [execOp, tb56, tb71]; go_simp) rfl rfl True.intro
        · intro V S w2 HI
          have HL2 : Hid (Below w7.heap.size w7 w2) := Rc.Mod.below HI.mod.undrew (fun _ h => h.elim)
          have hw18 : V 18 = .bool false := HI.get 18 (by decide) (by rfl)
          simp only [Rg.putList, Act.put, List.setIfInBounds_toArray, List.set_cons_zero, List.set_cons_succ, Nat.zero_add, Nat.reduceAdd]
          rw [hw18]
          clear HI hw18
          have HW8 : Hid (Below w3.heap.size w3 w2) := HW7.out.trans (HL2.out.mono HW7.out.size)
          clear HL2 HW7
          go_wp2_with fail
          go_roundw
          case rel => exact ⟨m + 1, by go_num, by omega, by omega, HW8⟩
          case measure => simp [intOf]; omega
    · have h9 : ¬ (m : Int) ≤ (R.length : Int) := by omega
      go_wp2_with fail
      refine (known_any _ HK4.out).mono ?_
      rintro e wk ⟨rfl, hb⟩
      have HBK : Hid (Below w.heap.size w wk) := HB4.out.trans (hb.mono HB4.out.size)
      clear hb
      go_wp2_with fail
      go_ret
      exact ⟨rfl, HBK.out⟩
end Go.Proofs.YtjeclmbableacaaDoor
