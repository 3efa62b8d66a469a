/-
  OWN WORK. Cut, by its contract.
-/
import Derived.Test.YtombmeppdhhjhaaR01
namespace Go.Proofs.Ytombmeppdhhjhaa
open Go.RowKit

theorem cut_any (A : Option Addr) (l : List UInt8) (cap n : Nat) (hc : l.length ≤ cap) (_hn : n ≤ 1000000) (_hl : l.length ≤ 9223372036854775807) (w : World) :
    Calls Try.prog 8 #[.slice A l.length cap, .int .i64 n] w fun e w' => e = .returned (.slice A (l.take n).length cap) ∧ w = w' := by
  by_cases h : n < l.length
  · have HD : Hid ((l.take n).length = n) := by show _ = _; rw [List.length_take]; omega
    have hsl := fun W => sl_h W A l.length cap n (by omega)
    go_enter Try.func8, Try.ntmps8
    go_wp2
    go_ret
    exact ⟨by rw [HD.out]; rfl, rfl⟩
  · have HD : Hid ((l.take n).length = l.length) := by show _ = _; rw [List.length_take]; omega
    go_enter Try.func8, Try.ntmps8
    go_wp2
    go_ret
    exact ⟨by rw [HD.out]; rfl, rfl⟩

/-- Cut, its answer's length a name. -/
theorem cut_to (A : Option Addr) (l : List UInt8) (cap n : Nat) (w : World) (hr : Rd w A l) (hc : l.length ≤ cap) (hn : n ≤ 1000000) (hl : l.length ≤ 9223372036854775807) :
    Calls Try.prog 8 #[.slice A l.length cap, .int .i64 n] w fun e w' => ∃ x : List UInt8, e = .returned (.slice A x.length cap) ∧ w = w' ∧ x.length ≤ n ∧ x.length ≤ cap ∧ Hid (Rd w A x) :=
  (cut_any A l cap n hc hn hl w).mono fun e w' ⟨h1, h2⟩ => ⟨l.take n, h1, h2, List.length_take_le _ _, by rw [List.length_take]; omega, hr.take n⟩

theorem cut_all (A : Option Addr) (l : List UInt8) (cap n : Nat) (w : World) (hc : l.length ≤ cap) (hn : n ≤ 1000000) (hl : l.length ≤ 9223372036854775807) :
    Calls Try.prog 8 #[.slice A l.length cap, .int .i64 n] w fun e w' => ∃ x : List UInt8, e = .returned (.slice A x.length cap) ∧ w = w' ∧ x.length ≤ n ∧ x.length ≤ cap ∧ Hid (∀ W, Rd W A l → Rd W A x) :=
  (cut_any A l cap n hc hn hl w).mono fun e w' ⟨h1, h2⟩ => ⟨l.take n, h1, h2, List.length_take_le _ _, by rw [List.length_take]; omega, fun W hr => hr.take n⟩
end Go.Proofs.Ytombmeppdhhjhaa
