/-
  OWN WORK. The law MerklePaths, walked.
-/
import Derived.Test.YtjeclmbableacaaDoorMkKnown
import Derived.Test.YtjeclmbableacaaDoorMkCheckR
import Derived.Test.YtjeclmbableacaaDoorMkPathR
import Derived.Test.YtjeclmbableacaaDoorMkLen
import Derived.Test.YtjeclmbableacaaDoorBaWithin
namespace Go.Proofs.YtjeclmbableacaaDoor
open Go.RowKit Rc

set_option maxHeartbeats 8000000 in
set_option maxRecDepth 100000 in
theorem paths_any (w : World) (L0 : List (List UInt8)) (A0 : Option Addr) (c0 : Nat) (i : Int) (m : Int) (hr0 : RdL w A0 L0) (hl0 : ∀ y, y ∈ L0 → y.length ≤ 9223372036854775807) (hn0 : L0.length ≤ 9223372036854775807) (hk0 : KP w) (hi : -9223372036854775808 ≤ i ∧ i ≤ 9223372036854775807) (hm : -9223372036854775808 ≤ m ∧ m ≤ 9223372036854775807) :
    Calls Tryd.prog 5 #[.slice A0 L0.length c0, .int .i64 i, .int .i64 m] w fun e w' => e = .returned (.bool true) ∧ Below w.heap.size w w' := by
  have HK0 := Lib.hid hk0
  have HR0 := Lib.hid hr0
  have HL0 := Lib.hid hl0
  have HN0 := Lib.hid hn0
  obtain ⟨i1, i2⟩ := hi
  have HI1 := Lib.hid i1
  have HI2 := Lib.hid i2
  obtain ⟨m1, m2⟩ := hm
  have HM1 := Lib.hid m1
  have HM2 := Lib.hid m2
  clear hk0 hr0 hl0 hn0 i1 i2 m1 m2
  go_enter Tryd.func5, Tryd.ntmps5
  go_wp2_with fail
  refine (few_any w L0 A0 c0 HR0.out HL0.out HN0.out).mono ?_
  rintro e w1 ⟨v, R, rfl, hf, h40, hrow, hb⟩
  obtain ⟨A, c, rfl, hc, hrd⟩ := hf.form hb
  have HR1 := Lib.hid hrd
  have HB1 := Lib.hid hb
  have HROW := Lib.hid hrow
  have HS : Hid (Small R) := ⟨by omega, fun y hy => by have := hrow y hy; omega⟩
  have HK1 : Hid (KP w1) := HK0.out.later HB1.out
  clear hf hrd hb hrow HR0 HL0 HN0
  by_cases h0 : R.length = 0
  · rw [h0]
    clear h0 h40 hc
    go_wp2_with fail
    refine (known_any _ HK1.out).mono ?_
    rintro e wk ⟨rfl, hb⟩
    have HBK : Hid (Below w.heap.size w wk) := HB1.out.trans (hb.mono HB1.out.size)
    clear hb
    go_wp2_with fail
    go_ret
    exact ⟨rfl, HBK.out⟩
  · skip
    go_wp2_with fail
    refine (within_to i _ (R.length - 1) w1 (by omega) (by omega) HI1.out HI2.out).mono ?_
    rintro e w2 ⟨k, hk, rfl, rfl⟩
    have hk2 : k < R.length := by omega
    clear hk
    go_wp2_with fail
    refine (within_nat m _ _ 1 R.length w1 rfl rfl (by omega) (by omega) HM1.out HM2.out).mono ?_
    rintro e w2 ⟨q, hq1, hq2, rfl, rfl⟩
    go_wp2_with fail
    refine (pPath_in w1 R A c k HR1.out hc HS.out HK1.out hk2).mono ?_
    rintro e w2 ⟨x, rfl, hx, hb⟩
    obtain ⟨PA, pc, rfl, hpc, hpr⟩ := hx.form
    have HR2 : Hid (RdL w2 A R) := HR1.out.below hb
    have HB2 : Hid (Below w.heap.size w w2) := HB1.out.trans (hb.mono HB1.out.size)
    have HK2 : Hid (KP w2) := HK1.out.later hb
    obtain ⟨P, hP⟩ : ∃ P, P = Mk.path Sh.sum R k := ⟨_, rfl⟩
    rw [← hP] at hpr hpc
    rw [← hP]
    have HP2 := Lib.hid hpr
    have HPE := Lib.hid hP
    have hpl : P.length ≤ 6 := by rw [hP]; exact Mk.path_length Sh.sum 6 R k (by omega)
    have HSP : Hid (Small P) := ⟨by omega, fun y hy => by rw [path_mem R k y (hP ▸ hy)]; omega⟩
    clear hx hb hpr hP
    go_wp2_with fail
    refine (pGrown w2 R A c q HR2.out hc HS.out HK2.out hq1 hq2).mono ?_
    rintro e w3 ⟨x, rfl, hx, hb⟩
    obtain ⟨GA, gc, rfl, hgc, hgr⟩ := hx.form
    have HR3 : Hid (RdL w3 A R) := HR2.out.below hb
    have HB3 : Hid (Below w.heap.size w w3) := HB2.out.trans (hb.mono HB2.out.size)
    have HK3 : Hid (KP w3) := HK2.out.later hb
    have HP3 : Hid (RdL w3 PA P) := HP2.out.below hb
    obtain ⟨G, hG⟩ : ∃ G, G = Mk.sub Sh.sum R q true := ⟨_, rfl⟩
    rw [← hG] at hgr hgc
    rw [← hG]
    have HG3 := Lib.hid hgr
    have HGE := Lib.hid hG
    have hgl : G.length ≤ 7 := by rw [hG]; exact Mk.sub_length Sh.sum 6 R q true (by omega)
    have HSG : Hid (∀ y, y ∈ G → y.length = 32) := fun y hy => sub_mem R q true y (hG ▸ hy)
    clear hx hb hgr hG
    go_wp2_with fail
    refine (pRoot _ w3 R A c rfl HR3.out hc HS.out HK3.out).mono ?_
    rintro e w4 ⟨v, rfl, ⟨RA, rc, rfl, hrc, hrr, _⟩, hb⟩
    have HR4 : Hid (RdL w4 A R) := HR3.out.below hb
    have HB4 : Hid (Below w.heap.size w w4) := HB3.out.trans (hb.mono HB3.out.size)
    have HK4 : Hid (KP w4) := HK3.out.later hb
    have HP4 : Hid (RdL w4 PA P) := HP3.out.below hb
    have HG4 : Hid (RdL w4 GA G) := HG3.out.below hb
    have HRR4 := Lib.hid hrr
    obtain ⟨b, off, y, YA, yc, rfl, hy, hcell, hyc, hyr⟩ := HR4.out.at_ k hk2
    have HY := Lib.hid hyr
    have hyl : y.length ≤ 40 := HROW.out y (List.mem_of_getElem? hy)
    have HCK : Hid (chk (Mk.root Sh.sum R) y k R.length P = true) := by
      show _ = _
      rw [HPE.out]
      refine decide_eq_true ⟨by omega, by omega, ?_⟩
      rw [Int.toNat_natCast, Int.toNat_natCast]
      exact Mk.climb_path Sh.sum R.length R k y (Nat.le_refl _) hy
    have HCG : Hid (chkg (Mk.root Sh.sum (R.take q)) (Mk.root Sh.sum R) q R.length G = true) := by
      show _ = _
      rw [HGE.out]
      refine decide_eq_true ⟨by omega, by omega, ?_⟩
      rw [Int.toNat_natCast, Int.toNat_natCast]
      exact Mk.both_sub Sh.sum R.length R q true _ (Nat.le_refl _) hq1 hq2 (fun _ => rfl)
    have S1 := fun W => rows_h W (some ⟨b, off, none⟩) R c q hq2 hc
    have hqc : (R.take q).length ≤ c := by rw [List.length_take]; omega
    obtain ⟨T, hT⟩ : ∃ T, T = R.take q := ⟨_, rfl⟩
    have HT : Hid (∀ W, RdL W (some ⟨b, off, none⟩) R → RdL W (some ⟨b, off, none⟩) T) := fun W h => hT ▸ h.take q
    have HST : Hid (Small T) := hT ▸ HS.out.take q
    rw [← hT] at HCG S1 hqc
    have k0 : (0 : Int) ≤ (k : Int) := by omega
    have k1 : (k : Int) < (R.length : Int) := by omega
    clear hb hrr hyr hy hT
    go_wp2_with fail
    refine (pCheck w4 (Mk.root Sh.sum R) y RA YA rc yc k R.length P PA pc (by omega) (by omega) HRR4.out HY.out hyc (by omega) HP4.out hpc HSP.out (by omega) HK4.out).mono ?_
    rintro e w5 ⟨rfl, hb⟩
    rw [HCK.out]
    have HR5 : Hid (RdL w5 (some ⟨b, off, none⟩) R) := HR4.out.below hb
    have HB5 : Hid (Below w.heap.size w w5) := HB4.out.trans (hb.mono HB4.out.size)
    have HK5 : Hid (KP w5) := HK4.out.later hb
    have HG5 : Hid (RdL w5 GA G) := HG4.out.below hb
    have HRR5 : Hid (Rd w5 RA (Mk.root Sh.sum R)) := HRR4.out.below hb
    clear hb hcell
    go_wp2_with fail
    refine (pRoot _ w5 T (some ⟨b, off, none⟩) c rfl (HT.out w5 HR5.out) hqc HST.out HK5.out).mono ?_
    rintro e w6 ⟨v, rfl, ⟨OA, oc, rfl, hoc, hor, _⟩, hb⟩
    have HO6 := Lib.hid hor
    have HB6 : Hid (Below w.heap.size w w6) := HB5.out.trans (hb.mono HB5.out.size)
    have HK6 : Hid (KP w6) := HK5.out.later hb
    have HG6 : Hid (RdL w6 GA G) := HG5.out.below hb
    have HRR6 : Hid (Rd w6 RA (Mk.root Sh.sum R)) := HRR5.out.below hb
    clear hb hor
    go_wp2_with fail
    refine (pCheckGrown w6 (Mk.root Sh.sum T) (Mk.root Sh.sum R) OA RA oc rc q R.length G GA gc (by omega) (by omega) HRR6.out HO6.out hoc (.inl (root_length _)) HG6.out hgc HSG.out (by omega) HK6.out).mono ?_
    rintro e w7 ⟨rfl, hb⟩
    rw [HCG.out]
    have HB7 : Hid (Below w.heap.size w w7) := HB6.out.trans (hb.mono HB6.out.size)
    have HK7 : Hid (KP w7) := HK6.out.later hb
    have hrl := root_length R
    have g6 : (P.length : Int) ≤ 6 := by omega
    have g7 : (G.length : Int) ≤ 7 := by omega
    clear hb
    go_wp2_with fail
    refine (known_any _ HK7.out).mono ?_
    rintro e wk ⟨rfl, hb⟩
    have HBK : Hid (Below w.heap.size w wk) := HB7.out.trans (hb.mono HB7.out.size)
    clear hb
    go_wp2_with fail
    go_ret
    exact ⟨rfl, HBK.out⟩
end Go.Proofs.YtjeclmbableacaaDoor
