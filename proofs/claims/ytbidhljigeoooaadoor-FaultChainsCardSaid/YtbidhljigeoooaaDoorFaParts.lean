/-
  OWN WORK. asFault, place, lastWords by their contracts.
-/
import Derived.Test.YtbidhljigeoooaaDoorFaBuild
import Derived.Deep.QuietTactic
import Derived.BigQuiet
namespace Go.Proofs.YtbidhljigeoooaaDoor
open Go.RowKit

theorem Tryd.asF (v : Value) (w : World) : (Instr.typeAssert (.iface 28 v) 23 28 true).run Tryd.prog w = .ok (.tuple #[v, .bool true]) w := by kernel_rfl
theorem Tryd.asFE (v : Value) (w : World) : (Instr.typeAssert (.iface 31 v) 23 28 true).run Tryd.prog w = .ok (.tuple #[.pointer none, .bool false]) w := by kernel_rfl
theorem Tryd.asFO (v : Value) (w : World) : (Instr.typeAssert (.iface 53 v) 23 28 true).run Tryd.prog w = .ok (.tuple #[.pointer none, .bool false]) w := by kernel_rfl
theorem Tryd.asFN (w : World) : (Instr.typeAssert .nilIface 23 28 true).run Tryd.prog w = .ok (.tuple #[.pointer none, .bool false]) w := by kernel_rfl
theorem Tryd.asEE (v : Value) (w : World) : (Instr.typeAssert (.iface 31 v) 23 31 true).run Tryd.prog w = .ok (.tuple #[v, .bool true]) w := by kernel_rfl
theorem Tryd.asEO (v : Value) (w : World) : (Instr.typeAssert (.iface 53 v) 23 31 true).run Tryd.prog w = .ok (.tuple #[.int .i64 0, .bool false]) w := by kernel_rfl

theorem asFault_some (v : Value) (w : World) : Calls Tryd.prog 29 #[.iface 28 v] w fun e w' => e = .returned (.tuple #[v, .bool true]) ∧ w = w' := by
  have h := Tryd.asF
  go_enter Tryd.func29, Tryd.ntmps29
  go_wp2
  go_ret2
  exact ⟨rfl, rfl⟩

theorem asFault_base (base : Base) (w : World) : Calls Tryd.prog 29 #[base.val] w fun e w' => e = .returned (.tuple #[.pointer none, .bool false]) ∧ w = w' := by
  have h1 := Tryd.asFE
  have h2 := Tryd.asFO
  have h3 := Tryd.asFN
  cases base
  all_goals
    simp only [Base.val]
    go_enter Tryd.func29, Tryd.ntmps29
    go_wp2
    go_ret2
    exact ⟨rfl, rfl⟩

theorem place_any (b : Nat) (op path : ByteArray) (w : World) (h0 : w.cell? ⟨b, 0, none⟩ = some (.string op)) (h1 : w.cell? ⟨b, 1, none⟩ = some (.string path)) :
    Calls Tryd.prog 24 #[.pointer (some ⟨b, 0, none⟩)] w fun e w' => e = .returned (.tuple #[.string op, .string path]) ∧ ∃ n, w' = w.drewN n := by
  go_enter Tryd.func24, Tryd.ntmps24
  go_wp2
  go_quiet (fail)
  go_wp2
  go_ret2
  exact ⟨rfl, _, rfl⟩

theorem words_any (base : Base) (w : World) (hb : base.Small) : Calls Tryd.prog 31 #[base.val] w fun e w' => e = .returned (.string base.text) ∧ Below w.heap.size w w' := by
  have h1 := Tryd.asEE
  have h2 := Tryd.asEO
  cases base with
  | none =>
    simp only [Base.val]
    go_enter Tryd.func31, Tryd.ntmps31
    go_wp2
    go_ret
    exact ⟨rfl, Below.refl _ _⟩
  | other b =>
    simp only [Base.val]
    go_enter Tryd.func31, Tryd.ntmps31
    go_wp2
    go_ret
    exact ⟨rfl, Below.refl _ _⟩
  | num c =>
    obtain ⟨n, rfl⟩ := Int.eq_ofNat_of_zero_le hb.1
    have hn : n ≤ 1000 := by have := hb.2; omega
    clear hb
    simp only [Base.val]
    go_enter Tryd.func31, Tryd.ntmps31
    go_wp2_with (go_at_call 26; refine (errno_any n _ hn).mono ?_; rintro e w' ⟨rfl, hbl⟩)
    have HB := Lib.hid hbl
    clear hbl
    go_wp2
    go_ret
    exact ⟨rfl, HB.out⟩
end Go.Proofs.YtbidhljigeoooaaDoor
