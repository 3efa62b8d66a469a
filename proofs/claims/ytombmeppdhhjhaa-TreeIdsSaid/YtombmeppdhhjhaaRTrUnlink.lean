/-
  OWN WORK. The program's tree: Unlink.
-/
import Derived.Test.YtombmeppdhhjhaaRTrLink
import Derived.Test.YtombmeppdhhjhaaR07
namespace Go.Proofs.Ytombmeppdhhjhaa
open Go.RowKit Rc
open Tr (Nm En T)
namespace Tm
variable {p : Nat} {av : Value} {gs : List Nat} {S : Nat → Prop} {t t1 : T} {w w1 : World}
set_option maxHeartbeats 4000000 in
set_option maxRecDepth 100000 in
theorem unlink_any (h : TIn p av gs S t w) (hG : Tr.Good t) (A : Option Addr) (q : List Bs) (cap : Nat) (hr : RdS w A q) (hc : q.length ≤ cap) (hl : q.length ≤ 1000000) (hs : ∀ s ∈ q, s.length ≤ 1000000) :
    Calls Try.prog 51 #[.pointer (some ⟨p, 0, none⟩), .slice A q.length cap] w (TTurn p (Tr.unlink t q).2 (.int .i64 ((Tr.unlink t q).1 : Nat)) (TrS p av S) w) := by
  obtain ⟨wa, hwa⟩ : ∃ wa, wa = w.alloc (.cells #[.slice A q.length cap] 28) := ⟨_, rfl⟩
  have hba : Below w.heap.size w wa := by rw [hwa]; exact below_new w _
  have HFM := Lib.hid (formed_one w A q cap hr hc hl hs)
  rw [← hwa] at HFM
  have HS : Hid (∀ x W, Below w.heap.size w W → TTurn p t x (TrS p av S) w (.returned x) W) := fun x W hW => TTurn.stay h hW
  have HFA := Lib.hid (fileAt_any (h.below hba) hG A q cap (hr.below hba) hl)
  have HPL := Lib.hid (fun W (hW : Below w.heap.size w W) => place_any (h.below hW) hG A q cap (hr.below hW) hc hl)
  have HBA := Lib.hid hba
  have H := Lib.hid h
  have HG := Lib.hid hG
  obtain ⟨R, hR⟩ : ∃ R, R = Tr.unlink t q := ⟨_, rfl⟩
  rw [← hR]
  obtain ⟨fm, hfm⟩ : ∃ fm, fm = Tr.formed q := ⟨_, rfl⟩
  rw [← hfm] at HFM
  have hR1 : R = if fm ≠ 0 then (fm, t) else if (Tr.lookF t 0 q).2 ≠ 0 then ((Tr.lookF t 0 q).2, t)
      else if Tr.kindOf t (Tr.lookF t 0 q).1 = 2 then (22, t)
      else if (Tr.ndOf t (Tr.lookF t 0 q).1).links = 1 ∧ (Tr.ndOf t (Tr.lookF t 0 q).1).shut = true then (0, Tr.remove (Tr.unlinked t q) (Tr.lookF t 0 q).1)
      else (0, Tr.unlinked t q) := by
    rw [hR, hfm]; rfl
  have HR1 := Lib.hid hR1
  have HSM := Lib.hid hs
  clear h hG hr hba hfm hs hR hR1
  go_enter Try.func51, Try.ntmps51
  go_wp2_with fail
  rw [← hwa]
  clear hwa
  refine HFM.out.mono ?_
  rintro e w1 ⟨rfl, rfl⟩
  by_cases hf : fm = 0
  case neg =>
    have hfi : ((fm : Int) == 0) = false := by rw [beq_eq_false_iff_ne]; omega
    have HN : Hid (R = (fm, t)) := by
      have := HR1.out
      rw [if_pos hf] at this
      exact this
    clear hf
    go_wp2_with fail
    go_ret
    rw [HN.out]
    exact HS.out _ _ HBA.out
  subst hf
  have HR2 := Lib.hid HR1.out
  simp only [ne_eq, not_true_eq_false, if_false] at HR2
  clear HR1
  go_wp2_with fail
  refine HFA.out.mono ?_
  rintro e w2 ⟨rfl, hb2⟩
  have HB2 : Hid (Below w.heap.size w w2) := HBA.out.trans (hb2.mono HBA.out.size)
  clear hb2
  by_cases hfa : fileAtN t q = 0
  case neg =>
    obtain ⟨n, hn⟩ : ∃ n, n = fileAtN t q := ⟨_, rfl⟩
    have HN : Hid (R = (n, t)) := by
      have := HR2.out
      unfold fileAtN at hn hfa
      by_cases h1 : (Tr.lookF t 0 q).2 = 0
      · rw [if_neg (by rw [h1]; simp)] at hn hfa this
        split at hfa
        · rename_i h2
          rw [if_pos h2] at hn this
          rw [hn]; exact this
        · exact absurd rfl hfa
      · rw [if_pos h1] at hn this
        rw [hn]; exact this
    unfold fileAtV
    rw [← hn] at hfa ⊢
    rw [if_neg hfa]
    have hni : ((n : Int) == 0) = false := by rw [beq_eq_false_iff_ne]; omega
    clear hfa hn
    go_wp2_with fail
    go_ret
    rw [HN.out]
    exact HS.out _ _ HB2.out
  obtain ⟨h1, h2⟩ : (Tr.lookF t 0 q).2 = 0 ∧ Tr.kindOf t (Tr.lookF t 0 q).1 ≠ 2 := by
    unfold fileAtN at hfa
    split at hfa
    · rename_i h1; exact absurd hfa h1
    · rename_i h1
      split at hfa
      · cases hfa
      · rename_i h2; exact ⟨Decidable.byContradiction h1, h2⟩
  obtain ⟨ef, hef⟩ := Option.isSome_iff_exists.1 (HG.out.look_is h1)
  obtain ⟨i, hi⟩ : ∃ i, i = (Tr.lookF t 0 q).1 := ⟨_, rfl⟩
  have hlk : Tr.lookF t 0 q = (i, 0) := Prod.ext hi.symm h1
  obtain ⟨gf, Sf, hpf, hEf, _, _⟩ := (H.out.below HB2.out).ptr HG.out hef
  have hR3 := HR2.out
  rw [if_neg (by rw [h1]; simp), if_neg h2] at hR3
  rw [← hi] at hef hpf hR3 h2
  rw [Tr.ndOf_of hef] at hR3
  have HV : Hid (fileAtV gs t q (fileAtN t q) = .tuple #[.pointer (some ⟨gf, 0, none⟩), .int .i64 0]) := by
    show _ = _
    unfold fileAtV
    rw [hfa, if_pos rfl, ← hi, hpf]; rfl
  rw [HV.out]
  rw [Tr.kindOf_of hef] at h2
  have hq0 : q ≠ [] := fun e => by
    rw [e] at hlk
    obtain ⟨r0, z1, z2, _⟩ := HG.out.zero
    have e0 : (0 : Int) = i := congrArg Prod.fst (show ((0 : Int), 0) = (i, 0) from hlk)
    rw [← e0, z1] at hef
    injection hef with hef
    exact h2 (by rw [← hef]; exact z2)
  obtain ⟨r1, x, d, en, hq, hlr, hfd, hkd, hg, hpl⟩ := HG.out.looked hlk hq0
  have HEF := Lib.hid hef
  have HPF := Lib.hid hpf
  have HK2 := Lib.hid h2
  have HKD := Lib.hid hkd
  have HFD := Lib.hid hfd
  have HPL2 := Lib.hid hpl
  have hu : Tr.unlinked t q = Tr.more (Tr.cut t d x) i (-1) := by
    unfold Tr.unlinked
    rw [hpl, ← hi]
  rw [hu] at hR3
  have HR3 := Lib.hid hR3
  clear hfa h1 h2 hef hi hpf hEf hR3 HV HR2 hlk hq0 hq hlr hfd hkd hg hpl hu
  go_wp2_with fail
  refine (HPL.out w2 HB2.out).mono ?_
  rintro e w3 ⟨rfl, hb3⟩
  have HB3 : Hid (Below w.heap.size w w3) := HB2.out.trans (hb3.mono HB2.out.size)
  clear hb3
  obtain ⟨gd, Sd, hpd, hEd, _, hnl⟩ := (H.out.below HB3.out).ptr HG.out HFD.out
  have HPV : Hid (placeV gs t q = .tuple #[.pointer (some ⟨gd, 0, none⟩), .string (strOf x), .int .i64 0]) := by
    show _ = _
    unfold placeV
    rw [HPL2.out]
    simp only [if_true, hpd]; rfl
  rw [HPV.out]
  have hW := Went.start H.out HB3.out
  have hid : ef.nd.id = i := (Tr.find_some HEF.out).2
  have HDROP := Lib.hid (hW.drop HG.out.ris HFD.out hpd x (by omega))
  have hdi : i ≠ d := fun e => by
    have h1 := HFD.out
    rw [← e, show Tr.find t i = _ from HEF.out] at h1
    injection h1 with h1
    exact HK2.out (by rw [h1]; exact HKD.out)
  have HDI := Lib.hid hdi
  have HID := Lib.hid hid
  have hlk := (HG.out.each ef (Tr.find_some HEF.out).1).nd
  have hl0 : 0 ≤ ef.nd.links ∧ ef.nd.links ≤ 65535 := ⟨hlk.2.2.1, hlk.2.2.2.1⟩
  obtain ⟨lk, hlk2⟩ : ∃ lk, lk = ef.nd.links := ⟨_, rfl⟩
  obtain ⟨sh, hsh⟩ : ∃ sh, sh = ef.nd.shut := ⟨_, rfl⟩
  obtain ⟨lm, hlm⟩ : ∃ lm, lm = lk - 1 := ⟨_, rfl⟩
  have HLK := Lib.hid hlk2
  have HSH := Lib.hid hsh
  have HR4 := Lib.hid HR3.out
  rw [← hlk2, ← hsh] at HR4
  rw [← hlk2] at hl0
  have wl : IntKind.i64.wrap (lk - 1) = lm := by rw [IntKind.wrap_i64]; omega
  have hll : (lm = 0) = (lk = 1) := by rw [hlm]; apply propext; omega
  have HLL := Lib.hid hll
  have HLM : Hid (lk + -1 = lm) := by show _ = _; omega
  clear hW hid hdi hlk hlk2 hsh hpd hEd hnl hlm hll HPV HR3
  go_wp2_with fail
  refine HDROP.out.mono ?_
  rintro e w5 ⟨rfl, hW5⟩
  have hfid : ∀ e : En, ({ e with names := Tr.del e.names x } : En).nd.id = e.nd.id := fun _ => rfl
  have hr5 : Tr.Ris (Tr.cut t d x) := Tr.upd_ris HG.out.ris hfid
  have hf5 : Tr.find (Tr.cut t d x) i = some ef := by
    unfold Tr.cut
    rw [Tr.find_upd hfid, HEF.out]
    simp only [Option.map_some, if_neg HDI.out]
  have hp5 : ptrOf gs (Tr.cut t d x) i = .pointer (some ⟨gf, 0, none⟩) := by
    unfold Tr.cut
    rw [ptrOf_upd hfid]; exact HPF.out
  obtain ⟨_, c2, _, f2, hmore⟩ := hW5.links hr5 hf5 hp5
  have hmo := hmore (-1)
  rw [show ef.nd.links = lk from HLK.out.symm] at c2 hmo
  rw [HLM.out] at hmo
  have hfid6 : ∀ e : En, ({ e with nd := { e.nd with links := e.nd.links + -1 } } : En).nd.id = e.nd.id := fun _ => rfl
  have hr6 : Tr.Ris (Tr.more (Tr.cut t d x) i (-1)) := Tr.upd_ris hr5 hfid6
  have hf6 : Tr.find (Tr.more (Tr.cut t d x) i (-1)) i = some { ef with nd := { ef.nd with links := ef.nd.links + -1 } } := by
    unfold Tr.more
    rw [Tr.find_upd hfid6, hf5]
    simp only [Option.map_some, if_true]
  have hp6 : ptrOf gs (Tr.more (Tr.cut t d x) i (-1)) i = .pointer (some ⟨gf, 0, none⟩) := by
    unfold Tr.more
    rw [ptrOf_upd hfid6]; exact hp5
  obtain ⟨d0, d2, d5, _, _⟩ := hmo.links hr6 hf6 hp6
  simp only [show ef.nd.links = lk from HLK.out.symm, show ef.nd.id = i from HID.out, show ef.nd.shut = sh from HSH.out.symm] at d0 d2 d5
  rw [HLM.out] at d2
  have hlen : (Tr.more (Tr.cut t d x) i (-1)).length ≤ 1000000 := by
    unfold Tr.more Tr.cut Tr.upd
    rw [List.length_map, List.length_map]
    have := HG.out.few
    omega
  have HRM := Lib.hid (hmo.remove hr6 hlen hf6 (.int .i64 0))
  have HMO := Lib.hid hmo
  clear hW5 hr5 hf5 hp5 hmore hmo hfid hr6 hf6 hp6 hfid6 hlen
  by_cases hz : lm = 0
  · have hl1 : Hid (lk = 1) := HLL.out.mp hz
    clear HLL HLM
    subst hz
    cases sh
    · have HN : Hid (R = (0, Tr.more (Tr.cut t d x) i (-1))) := by
        have := HR4.out
        rw [if_neg (by simp)] at this
        exact this
      go_wp2_with fail
      go_ret
      rw [HN.out]
      exact HMO.out.done _
    · have HN : Hid (R = (0, Tr.remove (Tr.more (Tr.cut t d x) i (-1)) i)) := by
        have := HR4.out
        rw [if_pos ⟨hl1.out, rfl⟩] at this
        exact this
      go_wp2_with fail
      refine HRM.out.mono ?_
      rintro e w7 ⟨rfl, HT7⟩
      have HTH := Lib.hid HT7
      clear HT7
      go_wp2_with fail
      go_ret
      rw [HN.out]
      exact HTH.out
  · have HN : Hid (R = (0, Tr.more (Tr.cut t d x) i (-1))) := by
      have := HR4.out
      rw [if_neg (fun e => hz (HLL.out.mpr e.1))] at this
      exact this
    have hzb : (lm == 0) = false := by rw [beq_eq_false_iff_ne]; exact hz
    clear hz HLL HLM
    go_wp2_with fail
    go_ret
    rw [HN.out]
    exact HMO.out.done _
end Tm
end Go.Proofs.Ytombmeppdhhjhaa
