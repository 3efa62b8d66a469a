/-
  OWN WORK. The document's own reader (permafrostref4): flags, texts, what is left, the end.
-/
import Derived.Test.YtopcipaaffpiaaaCpRefN
namespace Go.Proofs.Ytopcipaaffpiaaa
open Go.RowKit

set_option maxHeartbeats 1000000 in
theorem refFlagR_to {g : Nat} {A : Option Addr} {L : List UInt8} {cap : Nat} {s : Co.Rs} {w : World} (h : RIn g 60 A L cap s w) :
    Calls Try.prog 38 #[.pointer (some ⟨g, 0, none⟩)] w (NumOut g 60 A L cap (.bool (Co.flag s).1) (Co.flag s).2 w) := by
  have H := Lib.hid h
  have hs := num_small1 s
  clear h
  go_enter Try.func38, Try.ntmps38
  go_wp2_with fail
  refine (refByteR_to H.out).mono ?_
  rintro e w1 ⟨rfl, hk, hin⟩
  have HK := Lib.hid hk
  have HIN := Lib.hid hin
  obtain ⟨x, hx⟩ : ∃ x, x = (Co.num 1 s).1 := ⟨_, rfl⟩
  rw [← hx] at hs ⊢
  have HX := Lib.hid hx
  obtain ⟨k, hk0, hrem, hb⟩ := hin.hd
  have f2 : w1.frozen? ⟨g, 2, none⟩ = false := hb.frozen 2
  obtain ⟨v2, hv2⟩ : ∃ v, w1.cell? ⟨g, 2, none⟩ = some v := ⟨_, hb.cell 2⟩
  have HB := Lib.hid hb
  clear hk hin hx hb
  by_cases h1 : 1 < x
  · have h2 : (1 : Int) < (x : Int) := by omega
    have HH1 := Lib.hid h1
    clear h1
    go_wp2_with fail
    go_ret
    have h1 := HH1.out
    rw [HX.out] at h1
    refine ⟨?_, HK.out.setCell _ _, ?_⟩
    · show Ending.returned (.bool ((x : Int) == 1)) = Ending.returned (.bool (decide ((Co.num 1 s).1 = 1)))
      rw [← HX.out, one_eq]
    · refine HIN.out.next ((Keeps.refl _ _).setCell _ _) ⟨k, hk0, ?_, ?_⟩
      · unfold Co.flag
        rw [if_pos h1]
        exact hrem
      · unfold Co.flag
        rw [if_pos h1]
        exact HB.out.set_ 2 _
  · have h2 : ¬ (1 : Int) < (x : Int) := by omega
    have HH1 := Lib.hid h1
    clear h1
    go_wp2_with fail
    go_ret
    have h1 := HH1.out
    rw [HX.out] at h1
    refine ⟨?_, HK.out, ?_⟩
    · show Ending.returned (.bool ((x : Int) == 1)) = Ending.returned (.bool (decide ((Co.num 1 s).1 = 1)))
      rw [← HX.out, one_eq]
    · unfold Co.flag
      rw [if_neg h1]
      exact HIN.out

theorem refEnd_to {g : Nat} {A : Option Addr} {L : List UInt8} {cap : Nat} {s : Co.Rs} {w : World} (h : RIn g 60 A L cap s w) :
    Calls Try.prog 39 #[.pointer (some ⟨g, 0, none⟩)] w fun e w' => e = .returned (.int .i64 (Co.fin s : Nat)) ∧ Below w.heap.size w w' := by
  obtain ⟨k, hk, hrem, hb⟩ := h.hd
  obtain ⟨rem, why⟩ := s
  simp only at hrem hb
  subst hrem
  have hsm := h.small
  have c0 : w.cell? ⟨g, 0, none⟩ = some (.slice A L.length cap) := hb.cell 0
  have c1 : w.cell? ⟨g, 1, none⟩ = some (.int .i64 (k : Nat)) := hb.cell 1
  have c2 : w.cell? ⟨g, 2, none⟩ = some (.int .i64 (why : Nat)) := hb.cell 2
  clear h hb
  by_cases h1 : why = 0
  · subst h1
    have hf : Hid (Co.fin ⟨L.drop k, 0⟩ = if k < L.length then 11 else 0) := by
      show _ = _
      unfold Co.fin
      rw [if_neg (by simp), List.length_drop]
      by_cases h : k < L.length
      · rw [if_pos h, if_pos (by omega)]
      · rw [if_neg h, if_neg (by omega)]
    by_cases h2 : k < L.length
    · go_enter Try.func39, Try.ntmps39
      go_upto_region 3 with (fail)
      go_quiet (fail)
      go_wp2_with fail
      go_ret
      refine ⟨?_, below_drewN _ _⟩
      rw [hf.out, if_pos h2]
      rfl
    · go_enter Try.func39, Try.ntmps39
      go_upto_region 3 with (fail)
      go_quiet (fail)
      go_wp2_with fail
      go_ret
      refine ⟨?_, below_drewN _ _⟩
      rw [hf.out, if_neg h2]
      rfl
  · have hw : ((why : Nat) : Int) ≠ 0 := by omega
    go_enter Try.func39, Try.ntmps39
    go_wp2_with fail
    go_ret
    refine ⟨?_, Below.refl _ _⟩
    rw [show (Co.fin ⟨L.drop k, why⟩ : Nat) = why from by unfold Co.fin; rw [if_pos h1]]
    rfl
end Go.Proofs.Ytopcipaaffpiaaa
