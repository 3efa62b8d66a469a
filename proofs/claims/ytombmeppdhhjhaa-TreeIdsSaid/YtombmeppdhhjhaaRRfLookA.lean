/-
  OWN WORK. The document's tree: Look.
-/
import Derived.Test.YtombmeppdhhjhaaRRfLook
import Derived.Test.YtombmeppdhhjhaaRRfRight
namespace Go.Proofs.Ytombmeppdhhjhaa
open Go.RowKit Rc
open Tr (Nm En T)
namespace Rf
variable {p : Nat} {nv dv ev : Value} {D : Nat → Prop} {t : T} {w : World}
set_option maxHeartbeats 1000000 in
set_option maxRecDepth 100000 in
theorem look_any (h : RIn p nv dv ev D t w) (hG : Tr.Good t) (hD : ∀ b, D b → b < w.heap.size) (A : Option Addr) (q : List Bs) (cap : Nat) (hr : RdS w A q) (hl : q.length ≤ 1000000) (hs : ∀ s ∈ q, s.length ≤ 1000000) :
    Calls Try.prog 62 #[.pointer (some ⟨p, 0, none⟩), .slice A q.length cap] w fun e w' => e = .returned (.tuple #[.int .i64 (Tr.look t q).1, .int .i64 ((Tr.look t q).2 : Nat)]) ∧ Below w.heap.size w w' := by
  have H1 := Lib.hid (right_any w A q cap hr hl hs)
  have H2 := Lib.hid (lookF_any h hG hD A q cap hr hl)
  have hR : Tr.look t q = if Tr.formed q ≠ 0 then (0, Tr.formed q) else Tr.lookF t 0 q := rfl
  rw [hR]
  obtain ⟨n, hn⟩ : ∃ n, n = Tr.formed q := ⟨_, rfl⟩
  rw [← hn] at H1 ⊢
  obtain ⟨R, hR2⟩ : ∃ R, R = Tr.lookF t 0 q := ⟨_, rfl⟩
  rw [← hR2] at H2 ⊢
  obtain ⟨r1, r2⟩ := R
  simp only at H2
  clear hn hR hR2 h hG hD hr hs
  by_cases h : n = 0
  · subst h
    rw [if_neg (by simp)]
    go_enter Try.func62, Try.ntmps62
    go_wp2_with fail
    refine H1.out.mono ?_
    rintro e w1 ⟨rfl, rfl⟩
    go_wp2_with fail
    refine H2.out.mono ?_
    rintro e w2 ⟨rfl, hb⟩
    have HB := Lib.hid hb
    clear hb
    go_wp2_with fail
    go_ret2
    exact ⟨rfl, HB.out⟩
  · rw [if_pos h]
    have hni : ((n : Int) == 0) = false := by rw [beq_eq_false_iff_ne]; omega
    clear h
    go_enter Try.func62, Try.ntmps62
    go_wp2_with fail
    refine H1.out.mono ?_
    rintro e w1 ⟨rfl, rfl⟩
    go_wp2_with fail
    go_ret2
    exact ⟨rfl, Below.refl _ _⟩
end Rf
end Go.Proofs.Ytombmeppdhhjhaa
