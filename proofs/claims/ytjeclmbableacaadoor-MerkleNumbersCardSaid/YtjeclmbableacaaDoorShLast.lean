/-
  OWN WORK. SHA-256: the last word of a block, by its contract.
-/
import Derived.Test.YtjeclmbableacaaDoorShBytes
import Derived.Test.YtjeclmbableacaaDoorShRot
import Derived.RegionTactic
import Derived.BigRegion
import Derived.Deep.QuietTactic
import Derived.BigQuiet
import Derived.Lib.Hide
import Derived.Deep.Cut
namespace Go.Proofs.YtjeclmbableacaaDoor
open Go.RowKit Sh

set_option maxHeartbeats 1000000 in
set_option maxRecDepth 100000 in
theorem lastWord_any (l : List UInt8) (hl : l.length < 4) (A : Option Addr) (cap : Nat) (w : World) (hr : Rd w A l) :
    Calls Tryd.prog 54 #[.slice A l.length cap] w fun e w' => e = .returned (.int .u32 (wordAt (l ++ [128]) 0)) ∧ w = w' := by
  match l, hl with
  | [], _ =>
    have HD := Lib.hid last0
    show Calls Tryd.prog 54 #[.slice A 0 cap] w _
    go_enter Tryd.func54, Tryd.ntmps54
    go_wp2
    go_ret
    exact ⟨ret_num HD.out, rfl⟩
  | [a], _ =>
    have HD := Lib.hid (last1 a)
    have ha := a.toNat_lt
    obtain ⟨b, off, rfl, _, hc⟩ := hr (by simp)
    have c0 := hc 0 a rfl
    clear hc hr
    rw [Nat.add_zero] at c0
    show Calls Tryd.prog 54 #[.slice (some ⟨b, off, none⟩) 1 cap] w _
    go_enter Tryd.func54, Tryd.ntmps54
    go_wp2
    go_ret
    exact ⟨ret_num HD.out.symm, rfl⟩
  | [a, b'], _ =>
    have HD := Lib.hid (last2 a b')
    have ha := a.toNat_lt
    have hb := b'.toNat_lt
    obtain ⟨b, off, rfl, _, hc⟩ := hr (by simp)
    have c0 := hc 0 a rfl
    have c1 := hc 1 b' rfl
    clear hc hr
    rw [Nat.add_zero] at c0
    show Calls Tryd.prog 54 #[.slice (some ⟨b, off, none⟩) 2 cap] w _
    go_enter Tryd.func54, Tryd.ntmps54
    go_wp2
    go_ret
    exact ⟨ret_num HD.out.symm, rfl⟩
  | [a, b', c'], _ =>
    have HD := Lib.hid (last3 a b' c')
    have ha := a.toNat_lt
    have hb := b'.toNat_lt
    have hc' := c'.toNat_lt
    obtain ⟨b, off, rfl, _, hc⟩ := hr (by simp)
    have c0 := hc 0 a rfl
    have c1 := hc 1 b' rfl
    have c2 := hc 2 c' rfl
    clear hc hr
    rw [Nat.add_zero] at c0
    show Calls Tryd.prog 54 #[.slice (some ⟨b, off, none⟩) 3 cap] w _
    go_enter Tryd.func54, Tryd.ntmps54
    go_wp2
    go_ret
    exact ⟨ret_num HD.out.symm, rfl⟩
end Go.Proofs.YtjeclmbableacaaDoor
