/-
  OWN WORK. The document's own reader (permafrostref4): flags, texts, what is left, the end.
-/
import Derived.Test.YtpnnikifaalkoaaCoRefN
namespace Go.Proofs.Ytpnnikifaalkoaa
open Go.RowKit

set_option maxHeartbeats 1000000 in
theorem refBytesR_to {g : Nat} {A : Option Addr} {L : List UInt8} {cap : Nat} {s : Co.Rs} {w : World} (h : RIn g 28 A L cap s w) :
    Calls Try.prog 36 #[.pointer (some ⟨g, 0, none⟩)] w (RawOut g 28 A L cap (Co.bytes s) w) := by
  have H := Lib.hid h
  have hs := num_small2 s
  clear h
  go_enter Try.func36, Try.ntmps36
  go_wp2_with fail
  refine (refShortR_to H.out).mono ?_
  rintro e w1 ⟨rfl, hk, hin⟩
  have HK := Lib.hid hk
  have HIN := Lib.hid hin
  obtain ⟨x, hx⟩ : ∃ x, x = (Co.num 2 s).1 := ⟨_, rfl⟩
  rw [← hx] at hs ⊢
  have HX := Lib.hid hx
  clear hk hin hx
  go_wp2_with fail
  refine (refRaw_to HIN.out (x : Int) (by omega) (by omega)).mono ?_
  rintro e w2 ⟨v, rfl, hown, hk, hin⟩
  have HF : Hid (RawOut g 28 A L cap (Co.bytes s) w (.returned v) w2) := by
    refine ⟨v, rfl, ?_, HK.out.trans hk, ?_⟩
    · have := own_mono hown HK.out.size
      rw [HX.out] at this
      exact this
    · have := hin
      rw [HX.out] at this
      exact this
  clear hown hk hin
  go_wp2_with fail
  go_ret
  exact HF.out

theorem one_eq (x : Nat) : ((x : Int) == 1) = decide (x = 1) := by rw [Bool.eq_iff_iff]; simp; omega
set_option maxHeartbeats 1000000 in
theorem refFlagR_to {g : Nat} {A : Option Addr} {L : List UInt8} {cap : Nat} {s : Co.Rs} {w : World} (h : RIn g 28 A L cap s w) :
    Calls Try.prog 35 #[.pointer (some ⟨g, 0, none⟩)] w (NumOut g 28 A L cap (.bool (Co.flag s).1) (Co.flag s).2 w) := by
  have H := Lib.hid h
  have hs := num_small1 s
  clear h
  go_enter Try.func35, Try.ntmps35
  go_wp2_with fail
  refine (refByteR_to H.out).mono ?_
  rintro e w1 ⟨rfl, hk, hin⟩
  have HK := Lib.hid hk
  have HIN := Lib.hid hin
  obtain ⟨x, hx⟩ : ∃ x, x = (Co.num 1 s).1 := ⟨_, rfl⟩
  rw [← hx] at hs ⊢
  have HX := Lib.hid hx
  obtain ⟨k, hk0, hrem, hb⟩ := hin.hd
  have f2 : w1.frozen? ⟨g, 2, none⟩ = false := hb.frozen 2
  obtain ⟨v2, hv2⟩ : ∃ v, w1.cell? ⟨g, 2, none⟩ = some v := ⟨_, hb.cell 2⟩
  have HB := Lib.hid hb
  clear hk hin hx hb
  by_cases h1 : 1 < x
  · have h2 : (1 : Int) < (x : Int) := by omega
    have HH1 := Lib.hid h1
    clear h1
    go_wp2_with fail
    go_ret
    have h1 := HH1.out
    rw [HX.out] at h1
    refine ⟨?_, HK.out.setCell _ _, ?_⟩
    · show Ending.returned (.bool ((x : Int) == 1)) = Ending.returned (.bool (decide ((Co.num 1 s).1 = 1)))
      rw [← HX.out, one_eq]
    · refine HIN.out.next ((Keeps.refl _ _).setCell _ _) ⟨k, hk0, ?_, ?_⟩
      · unfold Co.flag
        rw [if_pos h1]
        exact hrem
      · unfold Co.flag
        rw [if_pos h1]
        exact HB.out.set_ 2 _
  · have h2 : ¬ (1 : Int) < (x : Int) := by omega
    have HH1 := Lib.hid h1
    clear h1
    go_wp2_with fail
    go_ret
    have h1 := HH1.out
    rw [HX.out] at h1
    refine ⟨?_, HK.out, ?_⟩
    · show Ending.returned (.bool ((x : Int) == 1)) = Ending.returned (.bool (decide ((Co.num 1 s).1 = 1)))
      rw [← HX.out, one_eq]
    · unfold Co.flag
      rw [if_neg h1]
      exact HIN.out

theorem refLeft_to {g : Nat} {A : Option Addr} {L : List UInt8} {cap : Nat} {s : Co.Rs} {w : World} (h : RIn g 28 A L cap s w) :
    Calls Try.prog 38 #[.pointer (some ⟨g, 0, none⟩)] w fun e w' => e = .returned (.int .i64 (Co.left s : Nat)) ∧ Below w.heap.size w w' := by
  obtain ⟨k, hk, hrem, hb⟩ := h.hd
  obtain ⟨rem, why⟩ := s
  simp only at hrem hb
  subst hrem
  have hsm := h.small
  have c0 : w.cell? ⟨g, 0, none⟩ = some (.slice A L.length cap) := hb.cell 0
  have c1 : w.cell? ⟨g, 1, none⟩ = some (.int .i64 (k : Nat)) := hb.cell 1
  have c2 : w.cell? ⟨g, 2, none⟩ = some (.int .i64 (why : Nat)) := hb.cell 2
  clear h hb
  by_cases h1 : why = 0
  · subst h1
    go_enter Try.func38, Try.ntmps38
    go_upto_region 3 with (fail)
    go_quiet (fail)
    go_wp2_with fail
    go_ret
    refine ⟨?_, below_drewN _ _⟩
    show Ending.returned (.int .i64 ((L.length : Int) - (k : Int))) = _
    rw [show (Co.left ⟨L.drop k, 0⟩ : Nat) = L.length - k from by unfold Co.left; rw [if_neg (by simp), List.length_drop]]
    exact congrArg (fun x => Ending.returned (.int .i64 x)) (by omega)
  · have hw : ((why : Nat) : Int) ≠ 0 := by omega
    go_enter Try.func38, Try.ntmps38
    go_wp2_with fail
    go_ret
    refine ⟨?_, Below.refl _ _⟩
    rw [show (Co.left ⟨L.drop k, why⟩ : Nat) = 0 from by unfold Co.left; rw [if_pos h1]]
    rfl

theorem refEnd_to {g : Nat} {A : Option Addr} {L : List UInt8} {cap : Nat} {s : Co.Rs} {w : World} (h : RIn g 28 A L cap s w) :
    Calls Try.prog 39 #[.pointer (some ⟨g, 0, none⟩)] w fun e w' => e = .returned (.int .i64 (Co.fin s : Nat)) ∧ Below w.heap.size w w' := by
  obtain ⟨k, hk, hrem, hb⟩ := h.hd
  obtain ⟨rem, why⟩ := s
  simp only at hrem hb
  subst hrem
  have hsm := h.small
  have c0 : w.cell? ⟨g, 0, none⟩ = some (.slice A L.length cap) := hb.cell 0
  have c1 : w.cell? ⟨g, 1, none⟩ = some (.int .i64 (k : Nat)) := hb.cell 1
  have c2 : w.cell? ⟨g, 2, none⟩ = some (.int .i64 (why : Nat)) := hb.cell 2
  clear h hb
  by_cases h1 : why = 0
  · subst h1
    have hf : Hid (Co.fin ⟨L.drop k, 0⟩ = if k < L.length then 11 else 0) := by
      show _ = _
      unfold Co.fin
      rw [if_neg (by simp), List.length_drop]
      by_cases h : k < L.length
      · rw [if_pos h, if_pos (by omega)]
      · rw [if_neg h, if_neg (by omega)]
    by_cases h2 : k < L.length
    · go_enter Try.func39, Try.ntmps39
      go_upto_region 3 with (fail)
      go_quiet (fail)
      go_wp2_with fail
      go_ret
      refine ⟨?_, below_drewN _ _⟩
      rw [hf.out, if_pos h2]
      rfl
    · go_enter Try.func39, Try.ntmps39
      go_upto_region 3 with (fail)
      go_quiet (fail)
      go_wp2_with fail
      go_ret
      refine ⟨?_, below_drewN _ _⟩
      rw [hf.out, if_neg h2]
      rfl
  · have hw : ((why : Nat) : Int) ≠ 0 := by omega
    go_enter Try.func39, Try.ntmps39
    go_wp2_with fail
    go_ret
    refine ⟨?_, Below.refl _ _⟩
    rw [show (Co.fin ⟨L.drop k, why⟩ : Nat) = why from by unfold Co.fin; rw [if_pos h1]]
    rfl
end Go.Proofs.Ytpnnikifaalkoaa
