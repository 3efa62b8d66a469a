/-
  OWN WORK. The program's tree: Rmdir, Look.
-/
import Derived.Test.YtombmeppdhhjhaaRTrLink
import Derived.Test.YtombmeppdhhjhaaR07
namespace Go.Proofs.Ytombmeppdhhjhaa
open Go.RowKit Rc
open Tr (Nm En T)
namespace Tr
theorem lookF_no {t : T} : ∀ (p : List Bs) (i : Int), (lookF t i p).2 ≠ 0 → (lookF t i p).1 = 0
  | [], i, h => absurd rfl h
  | x :: p, i, h => by
    unfold lookF at h ⊢
    by_cases h1 : kindOf t i = 2
    · rw [if_neg (by simp [h1])] at h ⊢
      cases hg : get (kids t i) x with
      | none => rfl
      | some k =>
        rw [hg] at h
        exact lookF_no p k h
    · rw [if_pos h1]
end Tr
namespace Tm
variable {p : Nat} {av : Value} {gs : List Nat} {S : Nat → Prop} {t t1 : T} {w w1 : World}
set_option maxHeartbeats 4000000 in
set_option maxRecDepth 100000 in
theorem rmdir_any (h : TIn p av gs S t w) (hG : Tr.Good t) (A : Option Addr) (q : List Bs) (cap : Nat) (hr : RdS w A q) (hc : q.length ≤ cap) (hl : q.length ≤ 1000000) (hs : ∀ s ∈ q, s.length ≤ 1000000) :
    Calls Try.prog 17 #[.pointer (some ⟨p, 0, none⟩), .slice A q.length cap] w (TTurn p (Tr.rmdir t q).2 (.int .i64 ((Tr.rmdir t q).1 : Nat)) (TrS p av S) w) := by
  obtain ⟨wa, hwa⟩ : ∃ wa, wa = w.alloc (.cells #[.slice A q.length cap] 28) := ⟨_, rfl⟩
  have hba : Below w.heap.size w wa := by rw [hwa]; exact below_new w _
  have HFM := Lib.hid (formed_one w A q cap hr hc hl hs)
  rw [← hwa] at HFM
  have HS : Hid (∀ x W, Below w.heap.size w W → TTurn p t x (TrS p av S) w (.returned x) W) := fun x W hW => TTurn.stay h hW
  have HAT := Lib.hid (at_any (h.below hba) hG A q cap (hr.below hba) hl)
  have HPL := Lib.hid (fun W (hW : Below w.heap.size w W) => place_any (h.below hW) hG A q cap (hr.below hW) hc hl)
  have HBA := Lib.hid hba
  have H := Lib.hid h
  have HG := Lib.hid hG
  obtain ⟨R, hR⟩ : ∃ R, R = Tr.rmdir t q := ⟨_, rfl⟩
  rw [← hR]
  obtain ⟨fm, hfm⟩ : ∃ fm, fm = Tr.formed q := ⟨_, rfl⟩
  rw [← hfm] at HFM
  have hR1 : R = if fm ≠ 0 then (fm, t) else if (Tr.lookF t 0 q).2 ≠ 0 then ((Tr.lookF t 0 q).2, t)
      else if Tr.kindOf t (Tr.lookF t 0 q).1 ≠ 2 then (23, t) else if q = [] then (1, t)
      else if Tr.kids t (Tr.lookF t 0 q).1 ≠ [] then (24, t)
      else (0, Tr.remove (Tr.cut t (Tr.place t q).1 (Tr.place t q).2.1) (Tr.lookF t 0 q).1) := by
    rw [hR, hfm]; rfl
  have HR1 := Lib.hid hR1
  clear h hG hr hba hfm hs hR hR1
  go_enter Try.func17, Try.ntmps17
  go_wp2_with fail
  rw [← hwa]
  clear hwa
  refine HFM.out.mono ?_
  rintro e w1 ⟨rfl, rfl⟩
  by_cases hf : fm = 0
  case neg =>
    have hfi : ((fm : Int) == 0) = false := by rw [beq_eq_false_iff_ne]; omega
    have HN : Hid (R = (fm, t)) := by
      have := HR1.out
      rw [if_pos hf] at this
      exact this
    clear hf
    go_wp2_with fail
    go_ret
    rw [HN.out]
    exact HS.out _ _ HBA.out
  subst hf
  have HR2 := Lib.hid HR1.out
  simp only [ne_eq, not_true_eq_false, if_false] at HR2
  clear HR1
  go_wp2_with fail
  refine HAT.out.mono ?_
  rintro e w2 ⟨rfl, hb2⟩
  have HB2 : Hid (Below w.heap.size w w2) := HBA.out.trans (hb2.mono HBA.out.size)
  clear hb2
  by_cases hfa : (Tr.lookF t 0 q).2 = 0
  case neg =>
    obtain ⟨n, hn⟩ : ∃ n, n = (Tr.lookF t 0 q).2 := ⟨_, rfl⟩
    have HN : Hid (R = (n, t)) := by
      have := HR2.out
      rw [if_pos hfa] at this
      rw [hn]; exact this
    have hpp : ptrAt gs t q = .pointer none := by unfold ptrAt; rw [if_neg hfa]
    rw [← hn] at hfa
    rw [hpp, ← hn]
    have hni : ((n : Int) == 0) = false := by rw [beq_eq_false_iff_ne]; omega
    clear hfa hn hpp
    go_wp2_with fail
    go_ret
    rw [HN.out]
    exact HS.out _ _ HB2.out
  obtain ⟨ef, hef⟩ := Option.isSome_iff_exists.1 (HG.out.look_is hfa)
  obtain ⟨i, hi⟩ : ∃ i, i = (Tr.lookF t 0 q).1 := ⟨_, rfl⟩
  have hlk : Tr.lookF t 0 q = (i, 0) := Prod.ext hi.symm hfa
  have hpp : ptrAt gs t q = ptrOf gs t (Tr.lookF t 0 q).1 := by unfold ptrAt; rw [if_pos hfa]
  have hR3 := HR2.out
  rw [if_neg (by rw [hfa]; simp)] at hR3
  rw [hpp, hfa]
  rw [← hi] at hef hR3 ⊢
  obtain ⟨gf, Sf, hpf, hEf, _, _⟩ := (H.out.below HB2.out).ptr HG.out hef
  have c1 := hEf.cells.2.1
  rw [Tr.kindOf_of hef, Tr.kids_of hef] at hR3
  rw [hpf]
  obtain ⟨ek, hek⟩ : ∃ ek, ek = ef.nd.kind := ⟨_, rfl⟩
  rw [← hek] at c1 hR3
  have HR3 := Lib.hid hR3
  have HEF := Lib.hid hef
  have HPF := Lib.hid hpf
  have HLK := Lib.hid hlk
  clear hfa hef hi hpf hEf hR3 HR2 hlk hpp hek
  by_cases h2 : ek = 2
  case neg =>
    have hk2 : (ek != 2) = true := by rw [bne_iff_ne]; exact h2
    have HN : Hid (R = (23, t)) := by
      have := HR3.out
      rw [if_pos h2] at this
      exact this
    clear h2
    go_wp2_with fail
    go_ret
    rw [HN.out]
    exact HS.out _ _ HB2.out
  subst h2
  have HR4 := Lib.hid HR3.out
  simp only [ne_eq, not_true_eq_false, if_false] at HR4
  clear HR3
  go_wp2_with fail
  refine (HPL.out w2 HB2.out).mono ?_
  rintro e w3 ⟨rfl, hb3⟩
  have HB3 : Hid (Below w.heap.size w w3) := HB2.out.trans (hb3.mono HB2.out.size)
  clear hb3 c1
  by_cases hq0 : q = []
  case pos =>
    subst hq0
    have hpv : placeV gs t [] = .tuple #[.pointer none, .string (strOf []), .int .i64 1] := by
      unfold placeV Tr.place
      rfl
    rw [hpv]
    have HN : Hid (R = (1, t)) := by
      have := HR4.out
      rw [if_pos rfl] at this
      exact this
    clear hpv
    go_wp2_with fail
    go_ret
    rw [HN.out]
    exact HS.out _ _ HB3.out
  obtain ⟨r1, x, d, en, hq, hlr, hfd, hkd, hg, hpl⟩ := HG.out.looked HLK.out hq0
  have hR5 := HR4.out
  rw [if_neg hq0, hpl] at hR5
  simp only at hR5
  obtain ⟨gd, Sd, hpd, hEd, _, hnl⟩ := (H.out.below HB3.out).ptr HG.out hfd
  have hpv : placeV gs t q = .tuple #[.pointer (some ⟨gd, 0, none⟩), .string (strOf x), .int .i64 0] := by
    unfold placeV
    rw [hpl]
    simp only [if_true, hpd]; rfl
  rw [hpv]
  have hW := Went.start H.out HB3.out
  have HDROP := Lib.hid (hW.drop HG.out.ris hfd hpd x (by omega))
  obtain ⟨gf2, Sf2, hpf2, hEf2, _, hnf⟩ := (H.out.below HB3.out).ptr HG.out HEF.out
  obtain rfl : gf2 = gf := ptr_inj (hpf2.symm.trans HPF.out)
  obtain ⟨dv, nv, hE, rfl⟩ := hEf2
  have c7 : w3.cell? ⟨gf2, 7, none⟩ = some nv := hE.box.cell 7
  obtain ⟨A7, k7, hv7, hk7, _⟩ := hE.names.form
  subst hv7
  obtain ⟨nl, hnl2⟩ : ∃ nl, nl = ef.names.length := ⟨_, rfl⟩
  rw [← hnl2] at c7
  have hnil : (ef.names = []) = (nl = 0) := by rw [hnl2, List.length_eq_zero_iff]
  simp only [hnil] at hR5
  have HR5 := Lib.hid hR5
  have hfid : ∀ e : En, ({ e with names := Tr.del e.names x } : En).nd.id = e.nd.id := fun _ => rfl
  have hne : ∃ e5, Tr.find (Tr.cut t d x) i = some e5 ∧ e5.nd.id = i := by
    unfold Tr.cut
    rw [Tr.find_upd hfid, HEF.out]
    refine ⟨_, rfl, ?_⟩
    have := (Tr.find_some HEF.out).2
    dsimp only
    split <;> exact this
  have HNE := Lib.hid hne
  have hr5 : Tr.Ris (Tr.cut t d x) := Tr.upd_ris HG.out.ris hfid
  have HR6 := Lib.hid hr5
  have hp5 : ptrOf gs (Tr.cut t d x) i = .pointer (some ⟨gf2, 0, none⟩) := by
    unfold Tr.cut
    rw [ptrOf_upd hfid]; exact HPF.out
  have HP5 := Lib.hid hp5
  have HLEN : Hid ((Tr.cut t d x).length ≤ 1000000) := by
    have := HG.out.few
    show _ ≤ _
    unfold Tr.cut Tr.upd
    rw [List.length_map]
    omega
  clear hq0 hq hlr hfd hkd hg hpl hpd hEd hnl hpv hW hpf2 hnf hE hk7 hnl2 hnil hR5 hfid hne hr5 hp5 HR4
  by_cases hz : nl = 0
  case neg =>
    have hz2 : (0 : Int) < (nl : Int) := by omega
    have HN : Hid (R = (24, t)) := by
      have := HR5.out
      rw [if_pos hz] at this
      exact this
    clear hz
    go_wp2_with fail
    go_ret
    rw [HN.out]
    exact HS.out _ _ HB3.out
  have HN : Hid (R = (0, Tr.remove (Tr.cut t d x) i)) := by
    have := HR5.out
    rw [if_neg (by simp [hz])] at this
    exact this
  subst hz
  clear HR5
  go_wp2_with fail
  refine HDROP.out.mono ?_
  rintro e w5 ⟨rfl, hW5⟩
  obtain ⟨e5, hf5, hid5⟩ := HNE.out
  obtain ⟨c0, _⟩ := hW5.links HR6.out hf5 HP5.out
  rw [hid5] at c0
  have HRM := Lib.hid (hW5.remove HR6.out HLEN.out hf5 (.int .i64 0))
  clear hW5 hf5 hid5 c7
  go_wp2_with fail
  refine HRM.out.mono ?_
  rintro e w7 ⟨rfl, HT7⟩
  have HTH := Lib.hid HT7
  clear HT7
  go_wp2_with fail
  go_ret
  rw [HN.out]
  exact HTH.out

set_option maxHeartbeats 2000000 in
set_option maxRecDepth 100000 in
theorem look_any (h : TIn p av gs S t w) (hG : Tr.Good t) (A : Option Addr) (q : List Bs) (cap : Nat) (hr : RdS w A q) (hc : q.length ≤ cap) (hl : q.length ≤ 1000000) (hs : ∀ s ∈ q, s.length ≤ 1000000) :
    Calls Try.prog 61 #[.pointer (some ⟨p, 0, none⟩), .slice A q.length cap] w fun e w' => e = .returned (.tuple #[.int .i64 (Tr.look t q).1, .int .i64 ((Tr.look t q).2 : Nat)]) ∧ Below w.heap.size w w' := by
  obtain ⟨wa, hwa⟩ : ∃ wa, wa = w.alloc (.cells #[.slice A q.length cap] 28) := ⟨_, rfl⟩
  have hba : Below w.heap.size w wa := by rw [hwa]; exact below_new w _
  have HFM := Lib.hid (formed_one w A q cap hr hc hl hs)
  rw [← hwa] at HFM
  have HAT := Lib.hid (at_any (h.below hba) hG A q cap (hr.below hba) hl)
  have HBA := Lib.hid hba
  have H := Lib.hid h
  have HG := Lib.hid hG
  obtain ⟨R, hR⟩ : ∃ R, R = Tr.look t q := ⟨_, rfl⟩
  rw [← hR]
  obtain ⟨fm, hfm⟩ : ∃ fm, fm = Tr.formed q := ⟨_, rfl⟩
  rw [← hfm] at HFM
  have hR1 : R = if fm ≠ 0 then (0, fm) else Tr.lookF t 0 q := by rw [hR, hfm]; rfl
  have HR1 := Lib.hid hR1
  clear h hG hr hba hfm hs hR hR1
  go_enter Try.func61, Try.ntmps61
  go_wp2_with fail
  rw [← hwa]
  clear hwa
  refine HFM.out.mono ?_
  rintro e w1 ⟨rfl, rfl⟩
  by_cases hf : fm = 0
  case neg =>
    have hfi : ((fm : Int) == 0) = false := by rw [beq_eq_false_iff_ne]; omega
    have HN : Hid (R = (0, fm)) := by
      have := HR1.out
      rw [if_pos hf] at this
      exact this
    clear hf
    go_wp2_with fail
    go_ret2
    rw [HN.out]
    exact ⟨rfl, HBA.out⟩
  subst hf
  have HR2 := Lib.hid HR1.out
  simp only [ne_eq, not_true_eq_false, if_false] at HR2
  clear HR1
  go_wp2_with fail
  refine HAT.out.mono ?_
  rintro e w2 ⟨rfl, hb2⟩
  have HB2 : Hid (Below w.heap.size w w2) := HBA.out.trans (hb2.mono HBA.out.size)
  clear hb2
  by_cases hfa : (Tr.lookF t 0 q).2 = 0
  case neg =>
    obtain ⟨n, hn⟩ : ∃ n, n = (Tr.lookF t 0 q).2 := ⟨_, rfl⟩
    have HN : Hid (R = (0, n)) := by
      show _ = _
      rw [HR2.out, hn]
      exact Prod.ext (Tr.lookF_no q 0 hfa) rfl
    have hpp : ptrAt gs t q = .pointer none := by unfold ptrAt; rw [if_neg hfa]
    rw [← hn] at hfa
    rw [hpp, ← hn]
    have hni : ((n : Int) == 0) = false := by rw [beq_eq_false_iff_ne]; omega
    clear hfa hn hpp
    go_wp2_with fail
    go_ret2
    rw [HN.out]
    exact ⟨rfl, HB2.out⟩
  obtain ⟨ef, hef⟩ := Option.isSome_iff_exists.1 (HG.out.look_is hfa)
  obtain ⟨i, hi⟩ : ∃ i, i = (Tr.lookF t 0 q).1 := ⟨_, rfl⟩
  have HN : Hid (R = (i, 0)) := by
    show _ = _
    rw [HR2.out]
    exact Prod.ext hi.symm hfa
  have hpp : ptrAt gs t q = ptrOf gs t (Tr.lookF t 0 q).1 := by unfold ptrAt; rw [if_pos hfa]
  rw [hpp, hfa]
  rw [← hi] at hef ⊢
  obtain ⟨gf, Sf, hpf, hEf, _, _⟩ := (H.out.below HB2.out).ptr HG.out hef
  have c0 := hEf.cells.1
  rw [(Tr.find_some hef).2] at c0
  rw [hpf]
  clear hfa hef hi hpf hEf hpp HR2
  go_wp2_with fail
  go_ret2
  rw [HN.out]
  exact ⟨rfl, HB2.out⟩
end Tm
end Go.Proofs.Ytombmeppdhhjhaa
