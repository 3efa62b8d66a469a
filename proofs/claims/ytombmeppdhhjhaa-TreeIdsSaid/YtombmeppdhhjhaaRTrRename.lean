/-
  OWN WORK. The program's tree: Rename.
-/
import Derived.Test.YtombmeppdhhjhaaRTrHigh
import Derived.Test.YtombmeppdhhjhaaR07
namespace Go.Proofs.Ytombmeppdhhjhaa
open Go.RowKit Rc
open Tr (Nm En T)
namespace Tr
theorem within_eq (l o : List Bs) : decide (o = l.take o.length) = within l o := by
  unfold within
  rw [Bool.eq_iff_iff, decide_eq_true_iff, List.isPrefixOf_iff_prefix, List.prefix_iff_eq_take]
theorem high_le (t : T) : ∀ (n : Nat) (i : Int), high t n i ≤ n
  | 0, i => Nat.le_refl _
  | n + 1, i => by
    rw [high]
    have key : ∀ (l : List Nm) (m : Nat), m ≤ n + 1 → l.foldl (fun m k => max m (1 + high t n k.2)) m ≤ n + 1 := by
      intro l
      induction l with
      | nil => intro m h; exact h
      | cons k l ih =>
        intro m h
        rw [List.foldl_cons]
        have := high_le t n k.2
        exact ih _ (by omega)
    exact key _ _ (by omega)
end Tr
namespace Tm
variable {p : Nat} {av : Value} {gs : List Nat} {S : Nat → Prop} {t t1 : T} {w w1 : World}
set_option maxHeartbeats 8000000 in
set_option maxRecDepth 100000 in
theorem rename_any (h : TIn p av gs S t w) (hG : Tr.Good t) (A B : Option Addr) (q r : List Bs) (cap cap2 : Nat) (hr : RdS w A q) (hc : q.length ≤ cap) (hl : q.length ≤ 1000000) (hs : ∀ s ∈ q, s.length ≤ 1000000) (hr2 : RdS w B r) (hc2 : r.length ≤ cap2) (hl2 : r.length ≤ 1000000) (hs2 : ∀ s ∈ r, s.length ≤ 1000000) :
    Calls Try.prog 54 #[.pointer (some ⟨p, 0, none⟩), .slice A q.length cap, .slice B r.length cap2] w (TTurn p (Tr.rename t q r).2 (.int .i64 ((Tr.rename t q r).1 : Nat)) (TrS p av S) w) := by
  obtain ⟨wa, hwa⟩ : ∃ wa, wa = w.alloc (.cells #[.slice A q.length cap, .slice B r.length cap2] 28) := ⟨_, rfl⟩
  have hba : Below w.heap.size w wa := by rw [hwa]; exact below_new w _
  have HFM := Lib.hid (formed_two w A B q r cap cap2 hr hc hl hs hr2 hc2 hl2 hs2)
  rw [← hwa] at HFM
  have HS : Hid (∀ x W, Below w.heap.size w W → TTurn p t x (TrS p av S) w (.returned x) W) := fun x W hW => TTurn.stay h hW
  have HAT := Lib.hid (at_any (h.below hba) hG A q cap (hr.below hba) hl)
  have HPQ := Lib.hid (fun W (hW : Below w.heap.size w W) => place_any (h.below hW) hG A q cap (hr.below hW) hc hl)
  have HPL := Lib.hid (fun W (hW : Below w.heap.size w W) => place_any (h.below hW) hG B r cap2 (hr2.below hW) hc2 hl2)
  have HWI := Lib.hid (fun W (hW : Below w.heap.size w W) => within_names W r q B A cap2 cap (hr2.below hW) (hr.below hW) hl2 hl)
  rw [Tr.within_eq] at HWI
  have HBA := Lib.hid hba
  have H := Lib.hid h
  have HG := Lib.hid hG
  have hrl := hl2
  obtain ⟨R, hR⟩ : ∃ R, R = Tr.rename t q r := ⟨_, rfl⟩
  rw [← hR]
  obtain ⟨fm, hfm⟩ : ∃ fm, fm = if Tr.formed q ≠ 0 then Tr.formed q else Tr.formed r := ⟨_, rfl⟩
  rw [← hfm] at HFM
  have hR1 : R = if fm ≠ 0 then (fm, t) else if (Tr.lookF t 0 q).2 ≠ 0 then ((Tr.lookF t 0 q).2, t)
      else if q = [] then (1, t) else if (Tr.place t r).2.2 ≠ 0 then ((Tr.place t r).2.2, t)
      else if Tr.kindOf t (Tr.lookF t 0 q).1 = 2 ∧ Tr.within r q = true then (1, t)
      else if Tr.get (Tr.kids t (Tr.place t r).1) (Tr.place t r).2.1 = some (Tr.lookF t 0 q).1 then (0, t)
      else if (Tr.get (Tr.kids t (Tr.place t r).1) (Tr.place t r).2.1).isSome then (21, t)
      else if 8 < r.length + Tr.high t 64 (Tr.lookF t 0 q).1 then (3, t)
      else (0, Tr.put (Tr.cut t (Tr.place t q).1 (Tr.place t q).2.1) (Tr.place t r).1 (Tr.place t r).2.1 (Tr.lookF t 0 q).1) := by
    rw [hR, hfm]
    unfold Tr.rename
    by_cases h1 : Tr.formed q = 0
    · simp only [h1, ne_eq, not_true_eq_false, if_false]
    · simp only [h1, ne_eq, not_false_eq_true, if_true]
  have HR1 := Lib.hid hR1
  have HSM := Lib.hid hs2
  clear h hG hr hr2 hba hfm hs hs2 hR hR1
  go_enter Try.func54, Try.ntmps54
  go_wp2_with fail
  rw [← hwa]
  clear hwa
  refine HFM.out.mono ?_
  rintro e w1 ⟨rfl, rfl⟩
  by_cases hf : fm = 0
  case neg =>
    have hfi : ((fm : Int) == 0) = false := by rw [beq_eq_false_iff_ne]; omega
    have HN : Hid (R = (fm, t)) := by
      have := HR1.out
      rw [if_pos hf] at this
      exact this
    clear hf
    go_wp2_with fail
    go_ret
    rw [HN.out]
    exact HS.out _ _ HBA.out
  subst hf
  have HR2 := Lib.hid HR1.out
  simp only [ne_eq, not_true_eq_false, if_false] at HR2
  clear HR1
  go_wp2_with fail
  refine HAT.out.mono ?_
  rintro e w2 ⟨rfl, hb2⟩
  have HB2 : Hid (Below w.heap.size w w2) := HBA.out.trans (hb2.mono HBA.out.size)
  clear hb2
  by_cases hfa : (Tr.lookF t 0 q).2 = 0
  case neg =>
    obtain ⟨n, hn⟩ : ∃ n, n = (Tr.lookF t 0 q).2 := ⟨_, rfl⟩
    have HN : Hid (R = (n, t)) := by
      have := HR2.out
      rw [if_pos hfa] at this
      rw [hn]; exact this
    have hpp : ptrAt gs t q = .pointer none := by unfold ptrAt; rw [if_neg hfa]
    rw [← hn] at hfa
    rw [hpp, ← hn]
    have hni : ((n : Int) == 0) = false := by rw [beq_eq_false_iff_ne]; omega
    clear hfa hn hpp
    go_wp2_with fail
    go_ret
    rw [HN.out]
    exact HS.out _ _ HB2.out
  obtain ⟨ef, hef⟩ := Option.isSome_iff_exists.1 (HG.out.look_is hfa)
  obtain ⟨i, hi⟩ : ∃ i, i = (Tr.lookF t 0 q).1 := ⟨_, rfl⟩
  have hlk : Tr.lookF t 0 q = (i, 0) := Prod.ext hi.symm hfa
  have hpp : ptrAt gs t q = ptrOf gs t (Tr.lookF t 0 q).1 := by unfold ptrAt; rw [if_pos hfa]
  have hR3 := HR2.out
  rw [if_neg (by rw [hfa]; simp)] at hR3
  rw [hpp, hfa]
  rw [← hi] at hef hR3 ⊢
  obtain ⟨gf, Sf, hpf, hEf, _, _⟩ := (H.out.below HB2.out).ptr HG.out hef
  rw [Tr.kindOf_of hef] at hR3
  rw [hpf]
  have HR3 := Lib.hid hR3
  have HEF := Lib.hid hef
  have HPF := Lib.hid hpf
  have HLK := Lib.hid hlk
  clear hfa hef hi hpf hEf hR3 HR2 hlk hpp
  go_wp2_with fail
  refine (HPQ.out w2 HB2.out).mono ?_
  rintro e w3 ⟨rfl, hb3⟩
  have HB3 : Hid (Below w.heap.size w w3) := HB2.out.trans (hb3.mono HB2.out.size)
  clear hb3
  by_cases hq0 : q = []
  case pos =>
    subst hq0
    have hpv : placeV gs t [] = .tuple #[.pointer none, .string (strOf []), .int .i64 1] := by
      unfold placeV Tr.place
      rfl
    rw [hpv]
    have HN : Hid (R = (1, t)) := by
      have := HR3.out
      rw [if_pos rfl] at this
      exact this
    clear hpv
    go_wp2_with fail
    go_ret
    rw [HN.out]
    exact HS.out _ _ HB3.out
  obtain ⟨q1, x0, d0, en0, hqe, hlr, hfd0, hkd0, hg0, hpl0⟩ := HG.out.looked HLK.out hq0
  have hR4 := HR3.out
  rw [if_neg hq0, hpl0] at hR4
  obtain ⟨gd0, Sd0, hpd0, _, _, hnl0⟩ := (H.out.below HB3.out).ptr HG.out hfd0
  have hpv0 : placeV gs t q = .tuple #[.pointer (some ⟨gd0, 0, none⟩), .string (strOf x0), .int .i64 0] := by
    unfold placeV
    rw [hpl0]
    simp only [if_true, hpd0]; rfl
  rw [hpv0]
  have HR4 := Lib.hid hR4
  have HFD0 := Lib.hid hfd0
  have HPD0 := Lib.hid hpd0
  have HNL0 := Lib.hid hnl0
  clear hq0 hqe hlr hfd0 hkd0 hg0 hpl0 hR4 hpd0 hnl0 hpv0 HR3
  go_wp2_with fail
  refine (HPL.out w3 HB3.out).mono ?_
  rintro e w4 ⟨rfl, hb4⟩
  have HB4 : Hid (Below w.heap.size w w4) := HB3.out.trans (hb4.mono HB3.out.size)
  clear hb4
  by_cases hp0 : (Tr.place t r).2.2 = 0
  case neg =>
    obtain ⟨pn, hpn⟩ : ∃ pn, pn = (Tr.place t r).2.2 := ⟨_, rfl⟩
    have HN : Hid (R = (pn, t)) := by
      have := HR4.out
      rw [if_pos hp0, ← hpn] at this
      exact this
    have hpi : ((pn : Int) == 0) = false := by rw [beq_eq_false_iff_ne]; omega
    unfold placeV
    rw [if_neg hp0, ← hpn]
    obtain ⟨px, hpx⟩ : ∃ px, px = (Tr.place t r).2.1 := ⟨_, rfl⟩
    rw [← hpx]
    clear hp0 hpn hpx
    go_wp2_with fail
    go_ret
    rw [HN.out]
    exact HS.out _ _ HB4.out
  obtain ⟨r1, x, en, hq, hlkr, hx, hfd, hkd, hplace⟩ := Tr.place_is HG.out hp0
  obtain ⟨d, hd⟩ : ∃ d, d = en.nd.id := ⟨_, rfl⟩
  rw [hplace] at hfd
  rw [← hd] at hplace hfd
  simp only at hfd
  obtain ⟨gd, Sd, hpd, hEd, _, hnl⟩ := (H.out.below HB4.out).ptr HG.out hfd
  have HPV : Hid (placeV gs t r = .tuple #[.pointer (some ⟨gd, 0, none⟩), .string (strOf x), .int .i64 0]) := by
    show _ = _
    unfold placeV
    rw [hplace]
    simp only [if_true, hpd]; rfl
  have hxl : x.length ≤ 1000000 := HSM.out x (by rw [hq]; simp)
  have hR5 := HR4.out
  rw [hplace] at hR5
  simp only [ne_eq, not_true_eq_false, if_false] at hR5
  rw [Tr.kids_of hfd] at hR5
  have HFD := Lib.hid hfd
  have HPD := Lib.hid hpd
  have HNL := Lib.hid hnl
  have HXL := Lib.hid hxl
  have HR5 := Lib.hid hR5
  rw [HPV.out]
  obtain ⟨gf2, Sf2, hpf2, hEf2, _, _⟩ := (H.out.below HB4.out).ptr HG.out HEF.out
  obtain rfl : gf2 = gf := ptr_inj (hpf2.symm.trans HPF.out)
  have c1 := hEf2.cells.2.1
  obtain ⟨ek, hek⟩ : ∃ ek, ek = ef.nd.kind := ⟨_, rfl⟩
  rw [← hek] at c1 HR5
  obtain ⟨b, hb⟩ : ∃ b, b = Tr.within r q := ⟨_, rfl⟩
  rw [← hb] at HR5 HWI
  have HWJ := Lib.hid (HWI.out w4 HB4.out)
  have HID : Hid (∀ W, Below w.heap.size w W → Calls Try.prog 41 #[.pointer (some ⟨gd, 0, none⟩), .string (strOf x)] W (fun r w' => r = .returned (told (Tr.get en.names x)) ∧ Below W.heap.size W w') ∧ W.cell? ⟨gf2, 0, none⟩ = some (.int .i64 i)) := fun W hW => by
    obtain ⟨g3, S3, hp3, hE3, _, hn3⟩ := (H.out.below hW).ptr HG.out HFD.out
    obtain rfl : g3 = gd := ptr_inj (hp3.symm.trans HPD.out)
    obtain ⟨g4, S4, hp4, hE4, _, _⟩ := (H.out.below hW).ptr HG.out HEF.out
    obtain rfl : g4 = gf2 := ptr_inj (hp4.symm.trans HPF.out)
    exact ⟨id_any hE3 x (by omega), by rw [hE4.cells.1, (Tr.find_some HEF.out).2]⟩
  have HHI : Hid (∀ W, Below w.heap.size w W → Calls Try.prog 89 #[.pointer (some ⟨p, 0, none⟩), .pointer (some ⟨gf2, 0, none⟩)] W fun r w' => r = .returned (.int .i64 (Tr.high t 64 i : Nat)) ∧ Below W.heap.size W w') := fun W hW => height_any (H.out.below hW) HG.out HEF.out HPF.out
  clear hp0 hq hlkr hx hfd hkd hplace hpd hEd hR5 hnl hxl hd HR4 hpf2 hEf2 hek hb HWI
  have key : Hid ((ek = 2 ∧ b = true) ∨ (ek = 2 ∧ b = false) ∨ ek ≠ 2) := by
    show _ ∨ _
    by_cases h : ek = 2
    · cases b
      · exact .inr (.inl ⟨h, rfl⟩)
      · exact .inl ⟨h, rfl⟩
    · exact .inr (.inr h)
  rcases key.out with ⟨h2, hb⟩ | h2
  · subst h2 hb
    have HN : Hid (R = (1, t)) := by
      have := HR5.out
      rw [if_pos ⟨rfl, rfl⟩] at this
      exact this
    clear key
    go_wp2_with fail
    refine HWJ.out.mono ?_
    rintro e w5 ⟨rfl, rfl⟩
    go_wp2_with fail
    go_ret
    rw [HN.out]
    exact HS.out _ _ HB4.out
  have HR6 : Hid (R = if Tr.get en.names x = some i then (0, t) else if (Tr.get en.names x).isSome then (21, t) else if 8 < r.length + Tr.high t 64 i then (3, t) else (0, Tr.put (Tr.cut t d0 x0) d x i)) := by
    have := HR5.out
    rw [if_neg (by rintro ⟨h3, h4⟩; rcases h2 with ⟨_, h5⟩ | h5; · rw [h5] at h4; cases h4
                   · exact h5 h3)] at this
    exact this
  clear HR5 key
  obtain ⟨o, ho⟩ : ∃ o, o = Tr.get en.names x := ⟨_, rfl⟩
  rw [← ho] at HR6 HID
  clear ho
  rcases h2 with ⟨h2, hb⟩ | h2
  · subst h2 hb
    go_wp2_with fail
    refine HWJ.out.mono ?_
    rintro e w5 ⟨rfl, rfl⟩
    go_wp2_with fail
    refine (HID.out w4 HB4.out).1.mono ?_
    rintro e w6 ⟨rfl, hb6⟩
    have HB6 : Hid (Below w.heap.size w w6) := HB4.out.trans (hb6.mono HB4.out.size)
    have c0 := (HID.out w6 HB6.out).2
    clear hb6 c1
    unfold told
    cases o with
    | some k =>
      by_cases hki : k = i
      · subst hki
        have HN : Hid (R = (0, t)) := by
          have := HR6.out
          rw [if_pos rfl] at this
          exact this
        go_wp2_with fail
        go_ret
        rw [HN.out]
        exact HS.out _ _ HB6.out
      · have hkb : (k == i) = false := by rw [beq_eq_false_iff_ne]; exact hki
        have HN : Hid (R = (21, t)) := by
          have := HR6.out
          rw [if_neg (fun e => hki (Option.some.inj e)), if_pos (show (some k).isSome = true from rfl)] at this
          exact this
        clear hki
        go_wp2_with fail
        go_ret
        rw [HN.out]
        exact HS.out _ _ HB6.out
    | none =>
      have HR7 : Hid (R = if 8 < r.length + Tr.high t 64 i then (3, t) else (0, Tr.put (Tr.cut t d0 x0) d x i)) := by
        have := HR6.out
        rw [if_neg (by simp), if_neg (by simp)] at this
        exact this
      have HHJ := Lib.hid (HHI.out w6 HB6.out)
      have hhl := Tr.high_le t 64 i
      obtain ⟨hi, hhi⟩ : ∃ hi, hi = Tr.high t 64 i := ⟨_, rfl⟩
      rw [← hhi] at HR7 HHJ hhl
      obtain ⟨rl, hrl2⟩ : ∃ rl, rl = r.length := ⟨_, rfl⟩
      rw [← hrl2] at HR7 hrl
      have wl : IntKind.i64.wrap ((r.length : Int) + (hi : Int)) = ((rl + hi : Nat) : Int) := by rw [IntKind.wrap_i64, ← hrl2]; omega
      clear HHI hhi c0
      go_wp2_with fail
      refine HHJ.out.mono ?_
      rintro e w7 ⟨rfl, hb7⟩
      have HB7 : Hid (Below w.heap.size w w7) := HB6.out.trans (hb7.mono HB6.out.size)
      clear hb7
      by_cases h8 : 8 < rl + hi
      · have h8i : (8 : Int) < ((rl + hi : Nat) : Int) := by omega
        have HN : Hid (R = (3, t)) := by
          have := HR7.out
          rw [if_pos h8] at this
          exact this
        clear h8
        go_wp2_with fail
        go_ret
        rw [HN.out]
        exact HS.out _ _ HB7.out
      have h8i : ¬ (8 : Int) < ((rl + hi : Nat) : Int) := by omega
      have HN : Hid (R = (0, Tr.put (Tr.cut t d0 x0) d x i)) := by
        have := HR7.out
        rw [if_neg h8] at this
        exact this
      have HDROP := Lib.hid ((Went.start H.out HB7.out).drop HG.out.ris HFD0.out HPD0.out x0 (by have := HNL0.out; omega))
      clear h8
      go_wp2_with fail
      refine HDROP.out.mono ?_
      rintro e w8 ⟨rfl, hW8⟩
      have hfid : ∀ e : En, ({ e with names := Tr.del e.names x0 } : En).nd.id = e.nd.id := fun _ => rfl
      have hr8 : Tr.Ris (Tr.cut t d0 x0) := Tr.upd_ris HG.out.ris hfid
      have hany : ∀ (j : Int) (e0 : En), Tr.find t j = some e0 → ∃ e5, Tr.find (Tr.cut t d0 x0) j = some e5 ∧ e5.nd.id = j ∧ e5.names.length ≤ e0.names.length := fun j e0 hj => by
        unfold Tr.cut
        rw [Tr.find_upd hfid, hj]
        refine ⟨_, rfl, ?_⟩
        have := (Tr.find_some hj).2
        dsimp only
        split
        · exact ⟨this, List.length_filter_le _ _⟩
        · exact ⟨this, Nat.le_refl _⟩
      have hptr : ∀ j, ptrOf gs (Tr.cut t d0 x0) j = ptrOf gs t j := fun j => by unfold Tr.cut; rw [ptrOf_upd hfid]
      obtain ⟨e8, hf8, hid8, _⟩ := hany i ef HEF.out
      obtain ⟨c8, _⟩ := hW8.links hr8 hf8 ((hptr i).trans HPF.out)
      rw [hid8] at c8
      obtain ⟨e9, hf9, hid9, hn9⟩ := hany d en HFD.out
      have HPUT := Lib.hid (hW8.put hr8 hf9 ((hptr d).trans HPD.out) x i (by have := HNL.out; omega) HXL.out)
      clear hW8 hfid hr8 hany hptr hf8 hid8 hf9 hid9 hn9
      go_wp2_with fail
      refine HPUT.out.mono ?_
      rintro e w9 ⟨rfl, hW9⟩
      have HW9 := Lib.hid hW9
      clear hW9
      go_wp2_with fail
      go_ret
      rw [HN.out]
      exact HW9.out.done _
  · have hk2 : (ek == 2) = false := by rw [beq_eq_false_iff_ne]; exact h2
    clear h2
    go_wp2_with fail
    refine (HID.out w4 HB4.out).1.mono ?_
    rintro e w6 ⟨rfl, hb6⟩
    have HB6 : Hid (Below w.heap.size w w6) := HB4.out.trans (hb6.mono HB4.out.size)
    have c0 := (HID.out w6 HB6.out).2
    clear hb6 c1
    unfold told
    cases o with
    | some k =>
      by_cases hki : k = i
      · subst hki
        have HN : Hid (R = (0, t)) := by
          have := HR6.out
          rw [if_pos rfl] at this
          exact this
        go_wp2_with fail
        go_ret
        rw [HN.out]
        exact HS.out _ _ HB6.out
      · have hkb : (k == i) = false := by rw [beq_eq_false_iff_ne]; exact hki
        have HN : Hid (R = (21, t)) := by
          have := HR6.out
          rw [if_neg (fun e => hki (Option.some.inj e)), if_pos (show (some k).isSome = true from rfl)] at this
          exact this
        clear hki
        go_wp2_with fail
        go_ret
        rw [HN.out]
        exact HS.out _ _ HB6.out
    | none =>
      have HR7 : Hid (R = if 8 < r.length + Tr.high t 64 i then (3, t) else (0, Tr.put (Tr.cut t d0 x0) d x i)) := by
        have := HR6.out
        rw [if_neg (by simp), if_neg (by simp)] at this
        exact this
      have HHJ := Lib.hid (HHI.out w6 HB6.out)
      have hhl := Tr.high_le t 64 i
      obtain ⟨hi, hhi⟩ : ∃ hi, hi = Tr.high t 64 i := ⟨_, rfl⟩
      rw [← hhi] at HR7 HHJ hhl
      obtain ⟨rl, hrl2⟩ : ∃ rl, rl = r.length := ⟨_, rfl⟩
      rw [← hrl2] at HR7 hrl
      have wl : IntKind.i64.wrap ((r.length : Int) + (hi : Int)) = ((rl + hi : Nat) : Int) := by rw [IntKind.wrap_i64, ← hrl2]; omega
      clear HHI hhi c0
      go_wp2_with fail
      refine HHJ.out.mono ?_
      rintro e w7 ⟨rfl, hb7⟩
      have HB7 : Hid (Below w.heap.size w w7) := HB6.out.trans (hb7.mono HB6.out.size)
      clear hb7
      by_cases h8 : 8 < rl + hi
      · have h8i : (8 : Int) < ((rl + hi : Nat) : Int) := by omega
        have HN : Hid (R = (3, t)) := by
          have := HR7.out
          rw [if_pos h8] at this
          exact this
        clear h8
        go_wp2_with fail
        go_ret
        rw [HN.out]
        exact HS.out _ _ HB7.out
      have h8i : ¬ (8 : Int) < ((rl + hi : Nat) : Int) := by omega
      have HN : Hid (R = (0, Tr.put (Tr.cut t d0 x0) d x i)) := by
        have := HR7.out
        rw [if_neg h8] at this
        exact this
      have HDROP := Lib.hid ((Went.start H.out HB7.out).drop HG.out.ris HFD0.out HPD0.out x0 (by have := HNL0.out; omega))
      clear h8
      go_wp2_with fail
      refine HDROP.out.mono ?_
      rintro e w8 ⟨rfl, hW8⟩
      have hfid : ∀ e : En, ({ e with names := Tr.del e.names x0 } : En).nd.id = e.nd.id := fun _ => rfl
      have hr8 : Tr.Ris (Tr.cut t d0 x0) := Tr.upd_ris HG.out.ris hfid
      have hany : ∀ (j : Int) (e0 : En), Tr.find t j = some e0 → ∃ e5, Tr.find (Tr.cut t d0 x0) j = some e5 ∧ e5.nd.id = j ∧ e5.names.length ≤ e0.names.length := fun j e0 hj => by
        unfold Tr.cut
        rw [Tr.find_upd hfid, hj]
        refine ⟨_, rfl, ?_⟩
        have := (Tr.find_some hj).2
        dsimp only
        split
        · exact ⟨this, List.length_filter_le _ _⟩
        · exact ⟨this, Nat.le_refl _⟩
      have hptr : ∀ j, ptrOf gs (Tr.cut t d0 x0) j = ptrOf gs t j := fun j => by unfold Tr.cut; rw [ptrOf_upd hfid]
      obtain ⟨e8, hf8, hid8, _⟩ := hany i ef HEF.out
      obtain ⟨c8, _⟩ := hW8.links hr8 hf8 ((hptr i).trans HPF.out)
      rw [hid8] at c8
      obtain ⟨e9, hf9, hid9, hn9⟩ := hany d en HFD.out
      have HPUT := Lib.hid (hW8.put hr8 hf9 ((hptr d).trans HPD.out) x i (by have := HNL.out; omega) HXL.out)
      clear hW8 hfid hr8 hany hptr hf8 hid8 hf9 hid9 hn9
      go_wp2_with fail
      refine HPUT.out.mono ?_
      rintro e w9 ⟨rfl, hW9⟩
      have HW9 := Lib.hid hW9
      clear hW9
      go_wp2_with fail
      go_ret
      rw [HN.out]
      exact HW9.out.done _
end Tm
end Go.Proofs.Ytombmeppdhhjhaa
