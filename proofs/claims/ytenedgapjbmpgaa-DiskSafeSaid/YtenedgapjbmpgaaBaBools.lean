/-
  OWN WORK. A law's list of flags.
-/
import Derived.Test.YtenedgapjbmpgaaBaFrame
namespace Go.Proofs.Ytenedgapjbmpgaa
open Go.ChangeShapes Go.WideShapes Go.RowKit Go.Deep

def In64 (n : Int) : Prop := -9223372036854775808 ≤ n ∧ n ≤ 9223372036854775807
/-- A list of flags. -/
def RdB (w : World) (A : Option Addr) (l : List Bool) : Prop :=
  ∀ j x, l[j]? = some x → ∃ a, A = some a ∧ a.block < w.heap.size ∧ w.cell? (a.add j) = some (.bool x)
theorem Try.cellsBool : Try.prog.cellsOf 4 = 1 := by kernel_rfl
theorem bools_of {H : Type} {enc : TypeId × Value → H} {W : World} {fuel : Nat} {v : Value} {x : DataW H × List MemPlace}
    (h : DataW.trod enc Try.prog W 0 (fun _ => true) true fuel 31 [v] = some x) :
    ∃ (l : List Bool) (A : Option Addr) (cap : Nat), v = .slice A l.length cap ∧ l.length ≤ cap ∧ l.length ≤ 9223372036854775807 ∧ RdB W A l := by
  rcases open_slice1 Try.underlying31 Try.cellsBool h with ⟨hcs, _⟩ | ⟨a, len, cap, m, n, V, D, Pl, hcs, _, hl, hm, hmm, _, hi⟩
  · simp only [List.cons.injEq, and_true] at hcs
    exact ⟨[], none, 0, hcs, by simp, by simp, fun j n hj => by simp at hj⟩
  · simp only [List.cons.injEq, and_true] at hcs
    subst hcs
    simp only [if_true] at hmm
    have key : ∀ i : Fin len, ∃ n : Bool, W.cell? (a.add i) = some (.bool n) := fun i => by
      obtain ⟨h1, h2⟩ := hi i (by have := i.2; omega)
      obtain ⟨n, h3, _⟩ := DataW.trod_bool Try.underlying4 h2
      simp only [List.cons.injEq, and_true] at h3
      exact ⟨n, by rw [h1, h3]⟩
    obtain ⟨f, hf⟩ := Classical.axiomOfChoice key
    refine ⟨List.ofFn f, some a, cap, by rw [List.length_ofFn], by rw [List.length_ofFn]; exact hl, by rw [List.length_ofFn]; exact max_le (Nat.le_trans hl hm), fun j n hj => ?_⟩
    have hjl : j < len := by
      have := (List.getElem?_eq_some_iff.1 hj).1
      simpa using this
    have e : n = f ⟨j, hjl⟩ := by
      rw [List.getElem?_ofFn, dif_pos hjl] at hj
      exact (Option.some.inj hj).symm
    subst e
    have g := hf ⟨j, hjl⟩
    refine ⟨a, rfl, ?_, g⟩
    rcases Nat.lt_or_ge (a.add j).block W.heap.size with hlt | hge
    · rwa [block_of_add] at hlt
    · simp [World.cell?, Array.getElem?_eq_none hge] at g
end Go.Proofs.Ytenedgapjbmpgaa
