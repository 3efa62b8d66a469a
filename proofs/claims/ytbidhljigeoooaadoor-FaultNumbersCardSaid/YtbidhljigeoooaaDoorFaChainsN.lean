/-
  OWN WORK. FaultChains by its walks, a number that is an error; given what package fault's calls do.
-/
import Derived.Test.YtbidhljigeoooaaDoorFaChains
namespace Go.Proofs.YtbidhljigeoooaaDoor
open Go.RowKit

theorem said_num (hE : ErrorSaid) (l : List (ByteArray × ByteArray)) (c : Nat) (v : Value) (w : World) (hch : Chain w l (.num c) v) (hs : Small l) (hc : c ≤ 1000) (hg : ErrT w) :
    Calls Tryd.prog 11 #[v] w fun e w' => e = .returned (.string (textB l (errB c))) ∧ Below w.heap.size w w' := by
  cases l with
  | nil =>
    have hv : v = Base.val (.num c) := hch
    subst hv
    exact said_errno c w hc hg
  | cons q r =>
    have hch' := hch
    obtain ⟨b, x, rfl, _⟩ := hch
    exact said_fault hE q r (.num c) b w hch' hs ⟨by omega, by omega⟩ hg

theorem heads_last (ls : List (ByteArray × ByteArray)) (h : ls ≠ []) : ∃ s1 s2 r, ls[ls.length - 1]? = some (s1, s2) ∧ (heads ls).reverse = (headB s1 20, headB s2 40) :: r := by
  have hp := List.length_pos_iff.2 h
  have hq : ls[ls.length - 1]? = some (ls[ls.length - 1]'(by omega)) := List.getElem?_eq_getElem (by omega)
  have e := heads_take ls (ls.length - 1) _ hq
  rw [show ls.length - 1 + 1 = ls.length by omega, List.take_of_length_le (by simp [heads])] at e
  exact ⟨_, _, _, hq, e⟩

set_option maxRecDepth 100000 in
set_option maxHeartbeats 600000 in
theorem chains_num (hW : WrapSaid) (hE : ErrorSaid) (hC : CodeSaid) (hI : IsSaid) (hWh : WhereSaid) (hD : DepthSaid) (ls : List (ByteArray × ByteArray)) (v0 v : Value) (n0 : Nat) (code asked : Int) (n : Nat) (w : World)
    (hcut : CutTo 30 v0 v n0 ls.length) (hv : LinksAt w ls v) (hl : ls.length ≤ 30) (hg : ErrT w) (hsz : ∀ q ∈ ls, q.1.size ≤ 9223372036854775807 ∧ q.2.size ≤ 9223372036854775807) (hcode : withinI code 0 300 = n) (hn0 : 0 < n) (hn1 : n ≤ 300)
    (b0 : -9223372036854775808 ≤ code) (b1 : code ≤ 9223372036854775807) (hm : n0 ≤ 9223372036854775807) :
    Calls Tryd.prog 4 #[v0, .int .i64 code, .int .i64 asked] w fun e w' => e = .returned (.bool true) ∧ Below w.heap.size w w' := by
  have HG : Hid (ErrT w) := hg
  have HV : Hid (LinksAt w ls v) := hv
  have HSZ : Hid (∀ q ∈ ls, q.1.size ≤ 9223372036854775807 ∧ q.2.size ≤ 9223372036854775807) := hsz
  have HW := Lib.hid hW
  have HE := Lib.hid hE
  have HC := Lib.hid hC
  have HI := Lib.hid hI
  have HWh := Lib.hid hWh
  have HD := Lib.hid hD
  have HK : Hid (withinI code 0 300 = n) := hcode
  clear hW hE hC hD hI hWh hg hv hsz hcode
  have hwi := within_any code 0 300 w (by omega) (by omega) (by omega) b0 b1
  rw [HK.out] at hwi
  have HWI := Lib.hid hwi
  clear hwi
  have t0 : ((n : Int) == 0) = false := by simp; omega
  have HNZ : Hid ((n : Int) ≠ 0) := by show (n : Int) ≠ 0; omega
  have HSM : Hid (Small (heads ls).reverse) := by
    have := heads_small ls (by omega) (heads ls).length
    rw [List.take_length] at this
    exact this
  rcases hcut with ⟨h30, rfl, hn, a, cap, rfl⟩ | ⟨h30, hn, b, off, cap, rfl, rfl, hc1, hc2, hc3⟩
  all_goals
    have HLN : Hid (ls.length = _) := hn
    clear hn
    go_enter Tryd.func4, Tryd.ntmps4
    go_wp2_with fail
    refine HWI.out.mono ?_
    rintro e w' ⟨rfl, rfl⟩
    go_wp2_with fail
    refine (chain_num HW.out ls _ (n : Int) w HV.out hl HNZ.out HG.out HSZ.out).mono ?_
    rintro e w1 ⟨x, rfl, hch, hb⟩
    have HB : Hid (Below w.heap.size w w1) := hb
    obtain ⟨tx, px, rfl⟩ : ∃ tx px, x = .iface tx px := by
      rcases chain_top hch with rfl | ⟨b', rfl⟩
      · exact ⟨_, _, rfl⟩
      · exact ⟨_, _, rfl⟩
    have HCH : Hid (Chain w1 (heads ls).reverse (.num n) (.iface tx px)) := hch
    have HX : Hid (Value.iface tx px ≠ .nilIface) := by show _ ≠ _; simp
    clear hb hch
    go_wp2_with fail
    refine (said_num HE.out _ n _ w1 HCH.out HSM.out (by omega) (HG.out.below HB.out)).mono ?_
    rintro e w2 ⟨rfl, hb⟩
    have HB2 : Hid (Below w.heap.size w w2) := HB.out.trans (hb.mono HB.out.size)
    have HCH2 : Hid (Chain w2 (heads ls).reverse (.num n) (.iface tx px)) := HCH.out.below hb
    clear hb
    generalize hT : textB (heads ls).reverse (errB n) = T
    have HT : Hid (textB (heads ls).reverse (errB n) = T) := hT
    clear hT
    go_wp2_with fail
    refine (text_any ls _ n w2 (HV.out.below HB2.out) hl (by omega) HSZ.out).mono ?_
    rintro e w3 ⟨rfl, hb⟩
    have HB3 : Hid (Below w.heap.size w w3) := HB2.out.trans (hb.mono HB2.out.size)
    have HCH3 : Hid (Chain w3 (heads ls).reverse (.num n) (.iface tx px)) := HCH2.out.below hb
    clear hb
    rw [HT.out]
    go_wp2_with fail
    refine (HC.out _ (.num n) _ w3 HCH3.out HX.out HSM.out (HG.out.below HB3.out)).mono ?_
    rintro e w4 ⟨rfl, hb⟩
    have HB4 : Hid (Below w.heap.size w w4) := HB3.out.trans (hb.mono HB3.out.size)
    have HCH4 : Hid (Chain w4 (heads ls).reverse (.num n) (.iface tx px)) := HCH3.out.below hb
    clear hb
    simp only [Base.code]
    go_wp2_with fail
    refine (HD.out _ (.num n) _ w4 HCH4.out HSM.out (HG.out.below HB4.out)).mono ?_
    rintro e w5 ⟨rfl, hb⟩
    have HB5 : Hid (Below w.heap.size w w5) := HB4.out.trans (hb.mono HB4.out.size)
    have HCH5 : Hid (Chain w5 (heads ls).reverse (.num n) (.iface tx px)) := HCH4.out.below hb
    clear hb
    have eL : (heads ls).reverse.length = ls.length := by simp [heads]
    rw [eL, HLN.out]
    clear eL
    by_cases hnil : ls = []
    · first
        | (exfalso; have h1 := HLN.out; rw [hnil] at h1; simp at h1; done)
        | skip
      all_goals
        have HCH6 : Hid (Chain w5 [] (.num n) (.iface tx px)) := by
          have := HCH5.out
          rw [hnil] at this
          exact this
        have HSM2 : Hid (Small []) := ⟨by simp, by simp⟩
        have en : n0 = 0 := by have h1 := HLN.out; rw [hnil] at h1; simp at h1; omega
        subst en
        clear hnil
        go_wp2_with fail
        refine (HWh.out [] (.num n) _ w5 HCH6.out ⟨by simp, by simp⟩ (HG.out.below HB5.out)).mono ?_
        rintro e w6 ⟨rfl, hb⟩
        have HB6 : Hid (Below w.heap.size w w6) := HB5.out.trans (hb.mono HB5.out.size)
        have HCH7 : Hid (Chain w6 [] (.num n) (.iface tx px)) := HCH6.out.below hb
        clear hb
        go_wp2_with fail
        refine (HI.out [] (n : Int) (n : Int) _ w6 HCH7.out HSM2.out (HG.out.below HB6.out)).mono ?_
        rintro e w7 ⟨rfl, hb⟩
        have HB7 : Hid (Below w.heap.size w w7) := HB6.out.trans (hb.mono HB6.out.size)
        have HCH8 : Hid (Chain w7 [] (.num n) (.iface tx px)) := HCH7.out.below hb
        clear hb
        rw [show ((n : Int) == n) = true from by simp]
        go_wp2_with fail
        refine (HI.out [] (n : Int) asked _ w7 HCH8.out HSM2.out (HG.out.below HB7.out)).mono ?_
        rintro e w8 ⟨rfl, hb⟩
        have HB8 : Hid (Below w.heap.size w w8) := HB7.out.trans (hb.mono HB7.out.size)
        have HCH9 : Hid (Chain w8 [] (.num n) (.iface tx px)) := HCH8.out.below hb
        clear hb
        have qq : ((asked == (n : Int)) = true ∧ ((n : Int) == asked) = true) ∨ ((asked == (n : Int)) = false ∧ ((n : Int) == asked) = false) := by
          by_cases h : asked = n
          · left; subst h; simp
          · right; exact ⟨by simpa using h, by simpa using fun e => h e.symm⟩
        rcases qq with ⟨q1, q2⟩ | ⟨q1, q2⟩
        all_goals
          rw [q2]
          clear q2
          go_wp2_with fail
          refine (Is_num (n : Int) (n : Int) [] _ w8 HCH9.out).mono ?_
          rintro e w9 ⟨rfl, rfl⟩
          rw [show ((n : Int) == n) = true from by simp]
          go_wp2_with fail
          refine (known_any HW.out HE.out HC.out HD.out w8 (HG.out.below HB8.out)).mono ?_
          rintro e w10 ⟨rfl, hb⟩
          have HB9 : Hid (Below w.heap.size w w10) := HB8.out.trans (hb.mono HB8.out.size)
          clear hb
          go_wp2
          go_ret
          exact ⟨rfl, HB9.out⟩
    · obtain ⟨s1, s2, r, hq, hr⟩ := heads_last ls hnil
      have HCH6 : Hid (Chain w5 ((headB s1 20, headB s2 40) :: r) (.num n) (.iface tx px)) := by
        have := HCH5.out
        rw [hr] at this
        exact this
      have HSM2 : Hid (Small ((headB s1 20, headB s2 40) :: r)) := by
        have := HSM.out
        rw [hr] at this
        exact this
      have hp := List.length_pos_iff.2 hnil
      have hze := HSZ.out (s1, s2) (List.mem_of_getElem? hq)
      obtain ⟨b', off', cap', hv, _, _, hcell⟩ := HV.out.resolve_left (fun h => hnil h.1)
      simp only [Value.slice.injEq] at hv
      obtain ⟨hva, hvl, hvc⟩ := hv
      obtain ⟨h1, h2⟩ := hcell _ _ hq
      rw [HLN.out] at h1 h2
      rw [HLN.out] at hp
      first
        | (injection hva with hva'; injection hva' with e1 e2; subst e1; subst e2)
        | subst hva
      clear hcell hvl hvc
      generalize hA : headB s1 20 = A at *
      generalize hB : headB s2 40 = B at *
      have c1 := fun wx => head_any s1 20 wx hze.1 (by omega)
      have c2 := fun wx => head_any s2 40 wx hze.2 (by omega)
      rw [hA] at c1
      rw [hB] at c2
      have C1 := Lib.hid c1
      have C2 := Lib.hid c2
      have H1 := Lib.hid h1
      have H2 := Lib.hid h2
      have HQ : Hid (headB s1 20 = A) := hA
      have HQ2 : Hid (headB s2 40 = B) := hB
      clear hA hB c1 c2 h1 h2 hq hr hnil hze
      go_wp2_with fail
      refine (HWh.out ((A, B) :: r) (.num n) _ w5 HCH6.out HSM2.out (HG.out.below HB5.out)).mono ?_
      rintro e w6 ⟨rfl, hb⟩
      have HB6 : Hid (Below w.heap.size w w6) := HB5.out.trans (hb.mono HB5.out.size)
      have HCH7 : Hid (Chain w6 ((A, B) :: r) (.num n) (.iface tx px)) := HCH6.out.below hb
      have h1 := H1.out
      have h2 := H2.out
      have l1 := cell_lt h1
      rw [← HB6.out.cell (by first | exact l1 | (simp; exact l1))] at h1
      rw [← HB6.out.cell (by first | exact l1 | (simp; exact l1))] at h2
      try (simp only [Nat.reduceSub, Nat.reduceMul] at h1; simp only [Nat.reduceSub, Nat.reduceMul, Nat.add_assoc, Nat.reduceAdd] at h2)
      clear hb l1
      simp only []
      go_wp2_with fail
      refine (C1.out _).mono ?_
      rintro e wz ⟨rfl, rfl⟩
      go_wp2_with fail
      refine (C2.out _).mono ?_
      rintro e wz ⟨rfl, rfl⟩
      obtain ⟨w6', hw6⟩ : ∃ w6', w6' = w6.alloc (.cells #[.string s1, .string s2] 45) := ⟨_, rfl⟩
      have HB6' : Hid (Below w.heap.size w w6') := by rw [hw6]; exact HB6.out.alloc HB6.out.size _
      have HCH7' : Hid (Chain w6' ((A, B) :: r) (.num n) (.iface tx px)) := by rw [hw6]; exact HCH7.out.alloc
      rw [← hw6]
      clear hw6 h1 h2
      go_wp2_with fail
      refine (HI.out ((A, B) :: r) (n : Int) (n : Int) _ w6' HCH7'.out HSM2.out (HG.out.below HB6'.out)).mono ?_
      rintro e w7 ⟨rfl, hb⟩
      have HB7 : Hid (Below w.heap.size w w7) := HB6'.out.trans (hb.mono HB6'.out.size)
      have HCH8 : Hid (Chain w7 ((A, B) :: r) (.num n) (.iface tx px)) := HCH7'.out.below hb
      clear hb
      rw [show ((n : Int) == n) = true from by simp]
      go_wp2_with fail
      refine (HI.out ((A, B) :: r) (n : Int) asked _ w7 HCH8.out HSM2.out (HG.out.below HB7.out)).mono ?_
      rintro e w8 ⟨rfl, hb⟩
      have HB8 : Hid (Below w.heap.size w w8) := HB7.out.trans (hb.mono HB7.out.size)
      have HCH9 : Hid (Chain w8 ((A, B) :: r) (.num n) (.iface tx px)) := HCH8.out.below hb
      clear hb
      have qq : ((asked == (n : Int)) = true ∧ ((n : Int) == asked) = true) ∨ ((asked == (n : Int)) = false ∧ ((n : Int) == asked) = false) := by
        by_cases h : asked = n
        · left; subst h; simp
        · right; exact ⟨by simpa using h, by simpa using fun e => h e.symm⟩
      rcases qq with ⟨q1, q2⟩ | ⟨q1, q2⟩
      all_goals
        rw [q2]
        clear q2
        go_wp2_with fail
        refine (Is_num (n : Int) (n : Int) ((A, B) :: r) _ w8 HCH9.out).mono ?_
        rintro e w9 ⟨rfl, rfl⟩
        rw [show ((n : Int) == n) = true from by simp]
        go_wp2_with fail
        refine (known_any HW.out HE.out HC.out HD.out w8 (HG.out.below HB8.out)).mono ?_
        rintro e w10 ⟨rfl, hb⟩
        have HB9 : Hid (Below w.heap.size w w10) := HB8.out.trans (hb.mono HB8.out.size)
        clear hb
        go_wp2
        go_ret
        exact ⟨rfl, HB9.out⟩
end Go.Proofs.YtbidhljigeoooaaDoor
