/-
  OWN WORK. Rows of bytes: slices.Clone's answer; pieces of a row of bytes.
-/
import Derived.Test.YtkjkmdhbodjeeaaBmPure
import Derived.Test.YtkjkmdhbodjeeaaBaObj
import Derived.Lib.SliceRun
namespace Go.Proofs.Ytkjkmdhbodjeeaa
open Go.RowKit Rc

theorem row_form {w : World} {B : Nat} {v : Value} {l : List UInt8} (h : w.ownsRow B 5 1 v l.length (Lib.byteCells l)) : ∃ X c, v = .slice X l.length c ∧ l.length ≤ c ∧ Rd w X l := bRow_form (show (bRow l).holds v w from own_base h)
theorem mat_empty (w : World) : MAt w.heap.size (.slice (some ⟨w.heap.size, 0, none⟩) 0 0) [] w (w.alloc (.cells #[] 5)) :=
  ⟨⟨rfl, .inr ⟨w.heap.size, 0, #[], rfl, Nat.le_refl _, heap_alloc_new w _, Nat.le_refl _, by unfold maxLen; omega, rfl, rfl⟩⟩, below_new w _, rfl⟩
theorem nil_own (w : World) (B : Nat) : w.ownsRow B 5 1 (.slice none 0 0) 0 (Lib.byteCells []) := ⟨rfl, .inl ⟨rfl, rfl⟩⟩

set_option maxHeartbeats 1000000 in
set_option maxRecDepth 100000 in
theorem clone_any (w : World) (A : Option Addr) (x : List UInt8) (cap : Nat) (hr : Rd w A x) (hx : x.length ≤ 1099511627776) :
    Calls Try.prog 25 #[.slice A x.length cap] w fun e w' => ∃ v, e = .returned v ∧ w'.ownsRow w.heap.size 5 1 v x.length (Lib.byteCells x) ∧ Below w.heap.size w w' := by
  have q22 : ∀ (w : World) (a : Option Addr) (n c n' c' : Nat), (binOp .eql 36 (.slice a n c) (.slice none n' c')).run Try.prog w = .ok (.bool a.isNone) w := fun w a n c n' c' => Lib.run_eql_slice_nil w _ _ a n c n' c' Try.underlying36
  cases A with
  | none =>
    obtain rfl : x = [] := by
      rcases Nat.eq_zero_or_pos x.length with h | h
      · exact List.eq_nil_of_length_eq_zero h
      · obtain ⟨b, off, h1, _⟩ := hr h
        cases h1
    go_enter Try.func25, Try.ntmps25
    go_wp2_with fail
    go_ret
    exact ⟨_, rfl, nil_own _ _, Below.refl _ _⟩
  | some ad =>
    obtain ⟨i0, hi, hz0, hz1, hz2⟩ := info_parts Try.infoU8
    have HI0 := Lib.hid hi
    have HZ0 := Lib.hid hz0
    have HZ1 := Lib.hid hz1
    have HZ2 := Lib.hid hz2
    have H0 : Hid (MAt w.heap.size (.slice (some ⟨w.heap.size, 0, none⟩) 0 0) [] w (w.alloc (.cells #[] 5))) := mat_empty w
    have HRW : Hid (Rd (w.alloc (.cells #[] 5)) (some ad) x) := hr.below (below_new w _)
    clear hi hz0 hz1 hz2 hr
    go_enter Try.func25, Try.ntmps25
    go_wp2_with (at_builtin; refine wpList_append_rd rfl (.tmp 5) (.tmp 6) 36 rfl w.heap.size 5 i0 Try.underlying36 HI0.out HZ0.out HZ1.out HZ2.out _ 0 [] rfl H0.out.1 (some ad) x x.length cap rfl rfl HRW.out (by omega) (by rw [World.size_alloc]; omega) ?_; intro v1 w1 HO1 HG1; have H1 : Hid (MAt w.heap.size v1 x w w1) := H0.out.push (Below.refl _ _) HO1.out HG1.out)
    clear HO1 HG1
    go_ret
    exact ⟨_, rfl, H1.out.1, H1.out.2.1⟩

namespace Bm
/-- How many pieces so many bytes have; the pieces. -/
def nb (n : Nat) : Nat := (n + 127) / 128
def piece (l : List UInt8) (j : Nat) : List UInt8 := (l.drop (128 * j)).take 128
def pieces (l : List UInt8) : List (List UInt8) := (List.range (nb l.length)).map (piece l)
theorem bl_nb (n : Nat) : bl (n : Int) = (nb n : Nat) := by
  unfold bl nb
  split <;> omega
theorem piece_len (l : List UInt8) (j : Nat) : (piece l j).length = min 128 (l.length - 128 * j) := by unfold piece; rw [List.length_take, List.length_drop]
theorem pieces_len (l : List UInt8) : (pieces l).length = nb l.length := by unfold pieces; simp
theorem pieces_at (l : List UInt8) (j : Nat) (h : j < nb l.length) : (pieces l)[j]? = some (piece l j) := by unfold pieces; simp [h]
theorem lt_nb {n j : Nat} : j < nb n ↔ 128 * j < n := by unfold nb; omega
end Bm
end Go.Proofs.Ytkjkmdhbodjeeaa
