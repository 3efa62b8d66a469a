/-
  OWN WORK. A list of numbers of a call's own: it grows.
-/
import Derived.Test.YtpblhdpnmnfieaaL01
import Derived.Test.YtpblhdpnmnfieaaL02
import Derived.Lib.Hide
namespace Go.Proofs.Ytpblhdpnmnfieaa
open Go.RowKit

theorem Try.infoInt : (Try.prog.info? 3).map (fun i => (i.zero, i.size, i.bytes)) = some (some (.int .i64 0), 1, 8) := by kernel_rfl
def numCells (l : List Int) : List Value := l.map (.int .i64)
/-- The numbers so far, as a row of the call's own. -/
def IAt (B : Nat) (v : Value) (l : List Int) (w0 wr : World) : Prop :=
  wr.ownsRow B 3 1 v l.length (numCells l) ∧ Below B w0 wr ∧ B = w0.heap.size
theorem IAt.nil (w : World) : IAt w.heap.size (.slice none 0 0) [] w w := ⟨⟨rfl, .inl ⟨rfl, rfl⟩⟩, Below.refl _ _, rfl⟩
theorem owns_below {w wa : World} {B e n : Nat} {v : Value} {xs : List Value} (h : w.ownsRow B e 1 v n xs) (ha : Below w.heap.size w wa) : wa.ownsRow B e 1 v n xs := by
  refine ⟨h.1, ?_⟩
  rcases h.2 with h2 | ⟨g, cap, cur, h3, h4, h5, h6⟩
  · exact .inl h2
  · refine .inr ⟨g, cap, cur, h3, h4, (ha.block g ?_).trans h5, h6⟩
    rcases Nat.lt_or_ge g w.heap.size with hlt | hge
    · exact hlt
    · rw [Array.getElem?_eq_none hge] at h5; cases h5
theorem IAt.push {B : Nat} {v v' : Value} {l x : List Int} {w0 wr wa w' : World} (h : IAt B v l w0 wr) (ha : Below wr.heap.size wr wa) (hown : w'.ownsRow B 3 1 v' (l.length + x.length) (numCells l ++ numCells x)) (hg : wa.grownBy w' v.ownBlock) : IAt B v' (l ++ x) w0 w' := by
  refine ⟨by rw [List.length_append]; unfold numCells at hown ⊢; rw [List.map_append]; exact hown, ?_, h.2.2⟩
  have hb : Below B w0 wa := h.2.1.trans (ha.mono (by have := h.2.1.size; have := h.2.2; omega))
  exact hb.grown hg (by have := h.2.1.size; have := ha.size; have := h.2.2; omega) (fun k hk => h.1.ownBlock_ge k hk)
theorem IAt.below {B : Nat} {v : Value} {l : List Int} {w0 wr w' : World} (h : IAt B v l w0 wr) (hb : Below wr.heap.size wr w') : IAt B v l w0 w' :=
  ⟨owns_below h.1 hb, h.2.1.trans (hb.mono (by have := h.2.1.size; have := h.2.2; omega)), h.2.2⟩
theorem IAt.form {B : Nat} {v : Value} {l : List Int} {w0 wr : World} (h : IAt B v l w0 wr) : ∃ X c, v = .slice X l.length c := by
  rcases h.1.2 with ⟨rfl, h1⟩ | ⟨g, cap, cur, rfl, _⟩
  · exact ⟨none, 0, by rw [h1]⟩
  · exact ⟨_, cap, rfl⟩
theorem IAt.rdi {B : Nat} {v : Value} {l : List Int} {w0 wr : World} (h : IAt B v l w0 wr) (hl : ∀ x ∈ l, -9223372036854775808 ≤ x ∧ x ≤ 9223372036854775807) : ∃ A c, v = .slice A l.length c ∧ l.length ≤ c ∧ RdI wr A l := by
  rcases h.1.2 with ⟨rfl, h1⟩ | ⟨g, cap, cur, rfl, hb, hh, hc, _, hcs, htk⟩
  · have : l = [] := List.eq_nil_of_length_eq_zero h1
    subst this
    exact ⟨none, 0, rfl, Nat.le_refl _, fun j x hx => by simp at hx⟩
  · have hlt : g < wr.heap.size := (Array.getElem?_eq_some_iff.1 hh).1
    refine ⟨_, cap, rfl, hc, fun j x hx => ⟨hl x (List.mem_of_getElem? hx), g, 0, rfl, hlt, ?_⟩⟩
    have hj : j < l.length := (List.getElem?_eq_some_iff.1 hx).1
    rw [cell_of_row wr g _ cur 3 (0, 0) hh, Nat.zero_add]
    have e : (cur.toList.take (l.length * 1))[j]? = some (.int .i64 x) := by
      rw [htk]; simp [numCells, hx]
    rw [List.getElem?_take_of_lt (by omega)] at e
    simpa using e
/-- A number more. -/
theorem wpList_append_num {w : World} {ops : Array Oper} {rest : List Oper} {o : Oper} {a : Act} {Q : Exit → Act → World → Prop} (hgd : o.guard = none) (s x : Operand)
    (ho : o.op = .call { callee := .builtin .append, args := #[s, x], argTypes := #[27, 27] })
    {B : Nat} {v : Value} {l : List Int} {w0 : World} (k : Int) (hs : a.eval s = v) {wr : World} (hI : IAt B v l w0 wr) (g : Nat) (t : TypeId) (hw : w = wr.alloc (.cells #[.int .i64 k] t)) (hgb : g = wr.heap.size) (hx : a.eval x = .slice (some ⟨g, 0, none⟩) 1 1) (hl : l.length ≤ 1000000)
    (h : ∀ v' w', Hid (IAt B v' (l ++ [k]) w0 w') → wpList Try.prog ops Q rest (a.put o.dst v') w') : wpList Try.prog ops Q (o :: rest) a w := by
  obtain ⟨i0, hi, hz0, hz1, hz2⟩ : ∃ i0, Try.prog.info? 3 = some i0 ∧ i0.zero = some (.int .i64 0) ∧ i0.size = 1 ∧ i0.bytes = 8 := by
    have h := Try.infoInt
    simp only [Option.map_eq_some_iff, Prod.mk.injEq] at h
    obtain ⟨i0, h1, h2, h3, h4⟩ := h
    exact ⟨i0, h1, h2, h3, h4⟩
  subst hw hgb
  have hb0 : Below wr.heap.size wr (wr.alloc (.cells #[.int .i64 k] t)) := below_new wr _
  refine wpList_append_own _ hgd s x 27 ho B 3 i0 (.int .i64 0) 1 8 Try.underlying27 hi hz0 hz1 hz2 rfl (by decide) v l.length (numCells l) hs (owns_below hI.1 hb0) ⟨wr.heap.size, 0, none⟩ 1 1 [.int .i64 k] hx rfl ?_ (by intro u hu; simp at hu; subst hu; rfl) (by unfold maxLen; omega) (by omega) (by rw [World.size_alloc]; have := hI.2.1.size; have := hI.2.2; omega) ?_
  · intro j u hj
    have hj0 : j = 0 := by
      have := (List.getElem?_eq_some_iff.1 hj).1
      simp at this; exact this
    subst hj0
    have e : (⟨wr.heap.size, 0, none⟩ : Addr).add 0 = ⟨wr.heap.size, 0, none⟩ := rfl
    rw [e, cell_of_row _ _ _ _ _ _ (heap_alloc_new wr (.cells #[.int .i64 k] t))]
    simpa using hj
  · intro v' w' h1 h2 _
    exact h v' w' (hI.push hb0 h1 h2)
end Go.Proofs.Ytpblhdpnmnfieaa
