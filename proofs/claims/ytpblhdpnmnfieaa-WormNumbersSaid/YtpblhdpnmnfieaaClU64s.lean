/-
  OWN WORK. A list of times, as it is read.
-/
import Derived.Test.YtpblhdpnmnfieaaClFrame
namespace Go.Proofs.Ytpblhdpnmnfieaa
open Go.ChangeShapes Go.WideShapes Go.RowKit Go.Deep

theorem Try.cellsU64 : Try.prog.cellsOf 22 = 1 := by kernel_rfl

/-- A slice at A reads as these times. -/
def RdU (w : World) (A : Option Addr) (l : List Int) : Prop :=
  ∀ j x, l[j]? = some x → ∃ b off, A = some ⟨b, off, none⟩ ∧ b < w.heap.size ∧ w.cell? ⟨b, off + j, none⟩ = some (.int .u64 x)

theorem RdU.below {n : Nat} {w w' : World} {A : Option Addr} {l : List Int} (h : RdU w A l) (hb : Below n w w') (hn : w.heap.size ≤ n) : RdU w' A l := fun j x hj => by
  obtain ⟨b, off, h2, h3, h4⟩ := h j x hj
  have hc : w'.cell? ⟨b, off + j, none⟩ = w.cell? ⟨b, off + j, none⟩ := hb.cell (p := ⟨b, off + j, none⟩) (Nat.lt_of_lt_of_le h3 hn)
  exact ⟨b, off, h2, Nat.lt_of_lt_of_le h3 hb.size, hc.trans h4⟩

def timeCells (l : List Int) : List Value := l.map fun x => .int .u64 x
theorem rdu_alloc (w : World) (l : List Int) (t : TypeId) (fz : Nat × Nat) : RdU (w.alloc (.cells (timeCells l).toArray t fz)) (some ⟨w.heap.size, 0, none⟩) l := fun j x hx => by
  refine ⟨_, _, rfl, by rw [World.size_alloc]; omega, ?_⟩
  rw [cell_of_row _ w.heap.size (0 + j) _ _ _ (heap_alloc_new w _), Nat.zero_add]
  simp only [List.getElem?_toArray, timeCells, List.getElem?_map, hx, Option.map_some]

theorem u64s_of {H : Type} {enc : TypeId × Value → H} {W : World} {fuel : Nat} {v : Value} {x : DataW H × List MemPlace}
    (h : DataW.trod enc Try.prog W 0 (fun _ => true) true fuel 23 [v] = some x) :
    ∃ (l : List Int) (A : Option Addr) (cap : Nat), v = .slice A l.length cap ∧ l.length ≤ cap ∧ l.length ≤ 9223372036854775807 ∧ RdU W A l := by
  obtain ⟨ns, A, cap, hv, hl, hm, hn⟩ := nums_of Try.underlying23 Try.underlying22 Try.cellsU64 h
  exact ⟨ns, A, cap, hv, hl, max_le (Nat.le_trans hl hm), fun j n hj => (hn j n hj).2⟩
end Go.Proofs.Ytpblhdpnmnfieaa
