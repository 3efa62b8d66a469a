/-
  OWN WORK. The document's disk (permafrostref5) in memory: sectors behind each other; plain mathematics of it.
-/
import Derived.Test.YtenedgapjbmpgaaDiSaid
import Derived.Test.YtenedgapjbmpgaaBaSet
namespace Go.Proofs.Ytenedgapjbmpgaa
open Go.RowKit Rc Di

theorem flat_set : ∀ (l : List (List UInt8)) (k : Nat) (b : List UInt8), (∀ x ∈ l, x.length = 128) → k < l.length → b.length = 128 → (l.set k b).flatten = l.flatten.take (128 * k) ++ (b ++ l.flatten.drop (128 * k + 128))
  | [], k, b, _, h, _ => by simp at h
  | x :: l, 0, b, hl, _, _ => by
    have hx := hl x (.head _)
    simp only [List.set_cons_zero, List.flatten_cons, Nat.mul_zero, List.take_zero, List.nil_append, Nat.zero_add]
    rw [← hx, List.drop_left]
  | x :: l, k + 1, b, hl, h, hb => by
    have hx := hl x (.head _)
    have ih := flat_set l k b (fun y hy => hl y (.tail _ hy)) (by simpa using h) hb
    simp only [List.set_cons_succ, List.flatten_cons]
    rw [ih, show 128 * (k + 1) = x.length + 128 * k by omega, List.take_length_add_append, Nat.add_assoc, List.drop_length_add_append, List.append_assoc]
def RefAt (N : Nat) (v : Value) (st : Dk) (S : Nat → Prop) (w : World) : Prop :=
  ∃ g gs gn gd, v = .pointer (some ⟨g, 0, none⟩) ∧
    Blk w g 38 [.slice (some ⟨gs, 0, none⟩) (128 * st.dirty.length) (128 * st.dirty.length), .slice (some ⟨gn, 0, none⟩) (128 * st.dirty.length) (128 * st.dirty.length), .slice (some ⟨gd, 0, none⟩) st.dirty.length st.dirty.length, .int .i64 (st.writes : Nat)] ∧
    Blk w gs 5 (Lib.byteCells st.safe.flatten) ∧ Blk w gn 5 (Lib.byteCells st.now.flatten) ∧ Blk w gd 4 (st.dirty.map .bool) ∧
    (g ≠ gs ∧ g ≠ gn ∧ g ≠ gd ∧ gs ≠ gn ∧ gs ≠ gd ∧ gn ≠ gd) ∧ st.Ok ∧ (S = fun b => b = g ∨ b = gs ∨ b = gn ∨ b = gd) ∧ gn = N
def refObj (N : Nat) : Ob.Obj Dk where
  At := RefAt N
  keep := by
    rintro v s S w w' ⟨g, gs, gn, gd, rfl, h1, h2, h3, h4, h5, h6, rfl, h7⟩ hs hb
    exact ⟨g, gs, gn, gd, rfl, (hb g (.inl rfl)).trans h1, (hb gs (.inr (.inl rfl))).trans h2, (hb gn (.inr (.inr (.inl rfl)))).trans h3, (hb gd (.inr (.inr (.inr rfl)))).trans h4, h5, h6, rfl, h7⟩
  lt := by
    rintro v s S w ⟨g, gs, gn, gd, rfl, h1, h2, h3, h4, h5, h6, rfl, h7⟩ b (rfl | rfl | rfl | rfl)
    · exact h1.lt
    · exact h2.lt
    · exact h3.lt
    · exact h4.lt
  ptr := by
    rintro v s S w ⟨g, gs, gn, gd, rfl, _⟩
    exact ⟨_, rfl⟩
end Go.Proofs.Ytenedgapjbmpgaa
