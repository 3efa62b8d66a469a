/-
  OWN WORK. Chains of errors as they lie in memory: a base (nothing, a number, an error of errors.New), and Faults around it; how they stay through new memory.
-/
import Derived.Test.YtbidhljigeoooaaDoorProg
import Derived.WalkKit
import Derived.Below
import Derived.OneCell
namespace Go.Proofs.YtbidhljigeoooaaDoor
open Go.RowKit

/-- What stands within the last Fault. -/
inductive Base where
  | none
  | num (c : Int)
  | other (b : Nat)

def Base.val : Base → Value
  | .none => .nilIface
  | .num c => .iface 31 (.int .i64 c)
  | .other b => .iface 53 (.pointer (some ⟨b, 0, Option.none⟩))

/-- 'v' is a chain: one Fault for each pair of texts, the first one outermost, and the base within. -/
def Chain (w : World) : List (ByteArray × ByteArray) → Base → Value → Prop
  | [], base, v => v = base.val
  | l :: r, base, v => ∃ (b : Nat) (x : Value), v = .iface 28 (.pointer (some ⟨b, 0, Option.none⟩)) ∧ w.heap[b]? = some (.cells #[.string l.1, .string l.2, x] 30 (0, 0)) ∧ Chain w r base x

theorem block_cell {w : World} {b : Nat} {cs : Array Value} {t : TypeId} {fr : Nat × Nat} (h : w.heap[b]? = some (.cells cs t fr)) (o : Nat) (v : Value) (hv : cs[o]? = some v) : w.cell? ⟨b, o, Option.none⟩ = some v := by
  simp [World.cell?, h, hv]

theorem block_free {w : World} {b o : Nat} {cs : Array Value} {t : TypeId} (h : w.heap[b]? = some (.cells cs t (0, 0))) : w.frozen? ⟨b, o, Option.none⟩ = false := by
  simp [World.frozen?, h]

theorem Chain.mono {w w' : World} (h : ∀ (b : Nat) (cs : Array Value), w.heap[b]? = some (.cells cs 30 (0, 0)) → w'.heap[b]? = some (.cells cs 30 (0, 0))) :
    ∀ {l : List (ByteArray × ByteArray)} {base : Base} {v : Value}, Chain w l base v → Chain w' l base v
  | [], _, _, c => c
  | _ :: _, _, _, ⟨b, x, e, c0, c⟩ => ⟨b, x, e, h _ _ c0, Chain.mono h c⟩

theorem cell_lt {w : World} {b o : Nat} {v : Value} (h : w.cell? ⟨b, o, Option.none⟩ = some v) : b < w.heap.size :=
  World.block_lt_of_cell? _ _ h

theorem Chain.below {w w' : World} {l : List (ByteArray × ByteArray)} {base : Base} {v : Value} (hb : Below w.heap.size w w') (h : Chain w l base v) : Chain w' l base v :=
  Chain.mono (fun b cs hc => by rw [hb.block b (lt_of_block hc)]; exact hc) h

theorem Chain.alloc {w : World} {o : Obj} {l : List (ByteArray × ByteArray)} {base : Base} {v : Value} (h : Chain w l base v) : Chain (w.alloc o) l base v :=
  h.below ((Below.refl _ _).alloc (Nat.le_refl _) _)

/-- A cell of a block of another type is written: the chain stays. -/
theorem Chain.setCell {w : World} {l : List (ByteArray × ByteArray)} {base : Base} {v u : Value} {b o : Nat} {cs : Array Value} {t : TypeId} {fr : Nat × Nat} (h : Chain w l base v)
    (hb : w.heap[b]? = some (.cells cs t fr)) (ht : t ≠ 30) : Chain (w.setCell ⟨b, o, Option.none⟩ u) l base v :=
  Chain.mono (fun k cs' hc => by
    have hne : k ≠ b := by
      rintro rfl
      rw [hc] at hb
      simp only [Option.some.injEq, Obj.cells.injEq] at hb
      exact ht hb.2.1.symm
    rw [Below.heap_setCell _ _ _ _ hne]; exact hc) h
end Go.Proofs.YtbidhljigeoooaaDoor
