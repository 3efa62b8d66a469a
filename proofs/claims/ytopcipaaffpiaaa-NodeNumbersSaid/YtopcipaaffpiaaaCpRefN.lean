/-
  OWN WORK. The document's own reader (permafrostref4): numbers, flags, what is left.
-/
import Derived.Test.YtopcipaaffpiaaaCpRefR
namespace Go.Proofs.Ytopcipaaffpiaaa
open Go.RowKit
/-- A reader that lies at g, over bytes that stay. -/
structure RIn (g : Nat) (T : TypeId) (A : Option Addr) (L : List UInt8) (cap : Nat) (s : Co.Rs) (w : World) : Prop where
  hd : RHd g T A L cap s w
  rd : Rd w A L
  off : 0 < L.length → A.map (·.block) ≠ some g
  fits : L.length ≤ cap
  small : L.length ≤ 1099511620000
theorem RHd.lt {g : Nat} {T : TypeId} {A : Option Addr} {L : List UInt8} {cap : Nat} {s : Co.Rs} {w : World} (h : RHd g T A L cap s w) : g < w.heap.size := by
  obtain ⟨_, _, _, h⟩ := h; exact h.lt
theorem RIn.next {g : Nat} {T : TypeId} {A : Option Addr} {L : List UInt8} {cap : Nat} {s s' : Co.Rs} {w w' : World} (h : RIn g T A L cap s w) (hk : Keeps w w' g) (hd : RHd g T A L cap s' w') : RIn g T A L cap s' w' :=
  ⟨hd, h.rd.keeps hk h.off, h.off, h.fits, h.small⟩
theorem RIn.below {g : Nat} {T : TypeId} {A : Option Addr} {L : List UInt8} {cap : Nat} {s : Co.Rs} {w w' : World} (h : RIn g T A L cap s w) (hb : Below w.heap.size w w') : RIn g T A L cap s w' := by
  obtain ⟨⟨k, h1, h2, h3⟩, h4, h5, h6, h7⟩ := h
  exact ⟨⟨k, h1, h2, h3.below hb h3.lt⟩, h4.below hb, h5, h6, h7⟩
def RawOut (g : Nat) (T : TypeId) (A : Option Addr) (L : List UInt8) (cap : Nat) (r : List UInt8 × Co.Rs) (w : World) (e : Ending) (w' : World) : Prop :=
  ∃ v, e = .returned v ∧ w'.ownsRow w.heap.size 5 1 v r.1.length (Lib.byteCells r.1) ∧ Keeps w w' g ∧ RIn g T A L cap r.2 w'
def NumOut (g : Nat) (T : TypeId) (A : Option Addr) (L : List UInt8) (cap : Nat) (x : Value) (s : Co.Rs) (w : World) (e : Ending) (w' : World) : Prop :=
  e = .returned x ∧ Keeps w w' g ∧ RIn g T A L cap s w'
theorem refRaw_to {g : Nat} {A : Option Addr} {L : List UInt8} {cap : Nat} {s : Co.Rs} {w : World} (h : RIn g 60 A L cap s w) (n : Int) (hn : n ≤ 1099511620000) (hn0 : -1099511620000 ≤ n) :
    Calls Try.prog 46 #[.pointer (some ⟨g, 0, none⟩), .int .i64 n] w (RawOut g 60 A L cap (Co.raw n s) w) := by
  obtain ⟨k, hk, hs, hb⟩ := h.hd
  obtain ⟨rem, why⟩ := s
  simp only at hs
  subst hs
  exact (refRaw_any w g A L cap k why n hb h.rd h.off hk h.fits h.small hn hn0).mono fun e w' ⟨v, h1, h2, h3, h4⟩ => ⟨v, h1, h2, h3, h.next h3 h4⟩

set_option maxHeartbeats 1000000 in
set_option maxRecDepth 100000 in
theorem refNumber_to {g : Nat} {A : Option Addr} {L : List UInt8} {cap : Nat} {s : Co.Rs} {w : World} (h : RIn g 60 A L cap s w) (n : Int) (hn : n ≤ 1099511620000) (hn0 : -1099511620000 ≤ n) :
    Calls Try.prog 44 #[.pointer (some ⟨g, 0, none⟩), .int .i64 n] w (NumOut g 60 A L cap (.int .u64 ((Co.num n s).1 : Nat)) (Co.num n s).2 w) := by
  have H := Lib.hid h
  clear h
  go_enter Try.func44, Try.ntmps44
  go_wp2_with fail
  refine (refRaw_to H.out n hn hn0).mono ?_
  rintro e w1 ⟨v, rfl, hown, hk, hin⟩
  obtain ⟨l, hl⟩ : ∃ l, l = (Co.raw n s).1 := ⟨_, rfl⟩
  rw [← hl] at hown
  have hsm : l.length ≤ 1099511620000 := by
    rw [hl]; unfold Co.raw
    split
    · simp
    · split
      · simp
      · obtain ⟨k, h1, h2, _⟩ := H.out.hd
        rw [List.length_take, h2, List.length_drop]
        have := H.out.small
        omega
  have HL := Lib.hid hl
  obtain ⟨X, c, rfl, hc, hr⟩ := own_form hown
  have HR := Lib.hid hr
  have HK := Lib.hid hk
  have HIN := Lib.hid hin
  clear hown hl hr hk hin hc
  go_wp2_with fail
  go_loop [6, 7] (fun t6 t7 => ∃ (k x : Nat), k ≤ l.length ∧ t7 = .int .i64 (k : Nat) ∧ t6 = .int .u64 (x : Nat) ∧ Hid (x = Co.beVal (l.take k))) (fun _ t7 => l.length - (intOf t7).toNat)
  case atStart => exact ⟨0, 0, by omega, rfl, rfl, rfl⟩
  case round =>
    obtain ⟨k, x, hk, rfl, rfl, HX⟩ := hrel
    by_cases hlt : k < l.length
    · obtain ⟨b, off, rfl, _, hcell⟩ := HR.out.at_ (by omega)
      have c0 := hcell k hlt
      obtain ⟨y, hy⟩ : ∃ y : Nat, y = (l.getD k 0).toNat := ⟨_, rfl⟩
      have hy8 : y < 256 := by rw [hy]; exact (l.getD k 0).toNat_lt
      rw [← hy] at c0
      have HY := Lib.hid hy
      have hor := Co.bits_or64 x y hy8
      obtain ⟨z, hz⟩ : ∃ z : Nat, z = (x * 256 + y) % 18446744073709551616 := ⟨_, rfl⟩
      rw [← hz] at hor
      have HZ := Lib.hid hz
      clear hcell hy hz
      go_wp2_with fail
      go_round
      case rel => exact ⟨k + 1, z, by omega, by go_num, rfl, by show _ = _; rw [Co.beVal_snoc _ _ hlt, ← HX.out, ← HY.out, HZ.out]⟩
      case measure => simp [intOf]; omega
    · obtain rfl : k = l.length := by omega
      have HF : Hid (x = Co.beVal l) := by show _ = _; rw [HX.out, List.take_length]
      clear HX
      go_wp2_with fail
      go_ret
      refine ⟨?_, HK.out, HIN.out⟩
      rw [HF.out, HL.out]
      rfl

set_option maxHeartbeats 1000000 in
theorem refByteR_to {g : Nat} {A : Option Addr} {L : List UInt8} {cap : Nat} {s : Co.Rs} {w : World} (h : RIn g 60 A L cap s w) :
    Calls Try.prog 36 #[.pointer (some ⟨g, 0, none⟩)] w (NumOut g 60 A L cap (.int .i64 ((Co.num 1 s).1 : Nat)) (Co.num 1 s).2 w) := by
  have H := Lib.hid h
  have hs := num_small1 s
  clear h
  go_enter Try.func36, Try.ntmps36
  go_wp2_with fail
  refine (refNumber_to H.out 1 (by omega) (by omega)).mono ?_
  rintro e w1 ⟨rfl, hk, hin⟩
  have HK := Lib.hid hk
  have HIN := Lib.hid hin
  obtain ⟨x, hx⟩ : ∃ x, x = (Co.num 1 s).1 := ⟨_, rfl⟩
  rw [← hx] at hs ⊢
  have HX := Lib.hid hx
  clear hk hin hx
  go_wp2_with fail
  go_ret
  exact ⟨by rw [← HX.out]; rfl, HK.out, HIN.out⟩
set_option maxHeartbeats 1000000 in
theorem refShortR_to {g : Nat} {A : Option Addr} {L : List UInt8} {cap : Nat} {s : Co.Rs} {w : World} (h : RIn g 60 A L cap s w) :
    Calls Try.prog 35 #[.pointer (some ⟨g, 0, none⟩)] w (NumOut g 60 A L cap (.int .i64 ((Co.num 2 s).1 : Nat)) (Co.num 2 s).2 w) := by
  have H := Lib.hid h
  have hs := num_small2 s
  clear h
  go_enter Try.func35, Try.ntmps35
  go_wp2_with fail
  refine (refNumber_to H.out 2 (by omega) (by omega)).mono ?_
  rintro e w1 ⟨rfl, hk, hin⟩
  have HK := Lib.hid hk
  have HIN := Lib.hid hin
  obtain ⟨x, hx⟩ : ∃ x, x = (Co.num 2 s).1 := ⟨_, rfl⟩
  rw [← hx] at hs ⊢
  have HX := Lib.hid hx
  clear hk hin hx
  go_wp2_with fail
  go_ret
  exact ⟨by rw [← HX.out]; rfl, HK.out, HIN.out⟩
set_option maxHeartbeats 1000000 in
theorem refLongR_to {g : Nat} {A : Option Addr} {L : List UInt8} {cap : Nat} {s : Co.Rs} {w : World} (h : RIn g 60 A L cap s w) :
    Calls Try.prog 37 #[.pointer (some ⟨g, 0, none⟩)] w (NumOut g 60 A L cap (.int .u64 ((Co.num 8 s).1 : Nat)) (Co.num 8 s).2 w) := by
  have H := Lib.hid h
  clear h
  go_enter Try.func37, Try.ntmps37
  go_wp2_with fail
  refine (refNumber_to H.out 8 (by omega) (by omega)).mono ?_
  rintro e w1 ⟨rfl, hk, hin⟩
  have HK := Lib.hid hk
  have HIN := Lib.hid hin
  obtain ⟨x, hx⟩ : ∃ x, x = (Co.num 8 s).1 := ⟨_, rfl⟩
  rw [← hx]
  have HX := Lib.hid hx
  clear hk hin hx
  go_wp2_with fail
  go_ret
  exact ⟨by rw [← HX.out]; rfl, HK.out, HIN.out⟩
end Go.Proofs.Ytopcipaaffpiaaa
