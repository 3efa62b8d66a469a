/-
  OWN WORK. What package fault's calls do, as statements to be proved elsewhere ('WrapSaid' ..); a law's slice of links as it lies in memory.
-/
import Derived.Test.YtbidhljigeoooaaDoorFaErrno
import Derived.Test.YtbidhljigeoooaaDoorFaIs
namespace Go.Proofs.YtbidhljigeoooaaDoor
open Go.RowKit

/-- The variable errors.errorType holds the handle of the type 'error'. -/
def ErrT (w : World) : Prop := w.cell? ⟨0, 0, none⟩ = some (.iface 91 (.agg #[.pointer (some ⟨1, 23, none⟩)]))
theorem ErrT.below {w w' : World} (h : ErrT w) (hb : Below w.heap.size w w') : ErrT w' := by
  unfold ErrT at *
  rw [hb.cell (p := ⟨0, 0, none⟩) (cell_lt h)]; exact h

/-- A chain that is an error: what is within is no OK, and not bare nothing. -/
def Good (l : List (ByteArray × ByteArray)) : Base → Prop
  | .none => l ≠ []
  | .num c => c ≠ 0
  | .other _ => True

def Base.code : Base → Int
  | .num c => c
  | _ => 99

/-- The text of a chain. -/
def textB : List (ByteArray × ByteArray) → ByteArray → ByteArray
  | [], e => e
  | l :: r, e => l.1 ++ ⟨#[32]⟩ ++ l.2 ++ ⟨#[58, 32]⟩ ++ textB r e
def Base.text : Base → ByteArray
  | .none => ⟨#[110, 111, 116, 104, 105, 110, 103]⟩
  | .num c => errB c
  | .other _ => ⟨#[101, 114, 114, 111, 114]⟩

def Small (l : List (ByteArray × ByteArray)) : Prop := l.length ≤ 100 ∧ ∀ q ∈ l, q.1.size ≤ 100 ∧ q.2.size ≤ 100
def Base.Small : Base → Prop
  | .num c => 0 ≤ c ∧ c ≤ 1000
  | _ => True

/-- fault.Wrap around a chain that is an error. -/
def WrapSaid : Prop := ∀ (op path : ByteArray) (l : List (ByteArray × ByteArray)) (base : Base) (v : Value) (w : World), Chain w l base v → Good l base → Small l → ErrT w →
  Calls Tryd.prog 8 #[.string op, .string path, v] w fun e w' => ∃ b : Nat, e = .returned (.iface 28 (.pointer (some ⟨b, 0, none⟩))) ∧ Chain w' ((op, path) :: l) base (.iface 28 (.pointer (some ⟨b, 0, none⟩))) ∧ Below w.heap.size w w'
/-- .. around what is none. -/
def WrapNoneSaid : Prop := ∀ (op path : ByteArray) (v : Value) (w : World), v = .nilIface ∨ v = .iface 31 (.int .i64 0) → ErrT w →
  Calls Tryd.prog 8 #[.string op, .string path, v] w fun e w' => e = .returned .nilIface ∧ Below w.heap.size w w'
def CodeSaid : Prop := ∀ (l : List (ByteArray × ByteArray)) (base : Base) (v : Value) (w : World), Chain w l base v → v ≠ .nilIface → Small l → ErrT w →
  Calls Tryd.prog 10 #[v] w fun e w' => e = .returned (.int .i64 base.code) ∧ Below w.heap.size w w'
def CodeNilSaid : Prop := ∀ (w : World), Calls Tryd.prog 10 #[.nilIface] w fun e w' => e = .returned (.int .i64 0) ∧ Below w.heap.size w w'
def IsSaid : Prop := ∀ (l : List (ByteArray × ByteArray)) (c a : Int) (v : Value) (w : World), Chain w l (.num c) v → Small l → ErrT w →
  Calls Tryd.prog 16 #[v, .int .i64 a] w fun e w' => e = .returned (.bool (c == a)) ∧ Below w.heap.size w w'
def WhereSaid : Prop := ∀ (l : List (ByteArray × ByteArray)) (base : Base) (v : Value) (w : World), Chain w l base v → Small l → ErrT w →
  Calls Tryd.prog 9 #[v] w fun e w' => e = .returned (match l with | [] => .tuple #[.string ⟨#[]⟩, .string ⟨#[]⟩, .bool false] | q :: _ => .tuple #[.string q.1, .string q.2, .bool true]) ∧ Below w.heap.size w w'
def DepthSaid : Prop := ∀ (l : List (ByteArray × ByteArray)) (base : Base) (v : Value) (w : World), Chain w l base v → Small l → ErrT w →
  Calls Tryd.prog 12 #[v] w fun e w' => e = .returned (.int .i64 l.length) ∧ Below w.heap.size w w'
def ErrorSaid : Prop := ∀ (q : ByteArray × ByteArray) (l : List (ByteArray × ByteArray)) (base : Base) (b : Nat) (w : World), Chain w (q :: l) base (.iface 28 (.pointer (some ⟨b, 0, none⟩))) → Small (q :: l) → base.Small →
  Calls Tryd.prog 14 #[.pointer (some ⟨b, 0, none⟩)] w fun e w' => e = .returned (.string (textB (q :: l) base.text)) ∧ Below w.heap.size w w'

/-- The slice of a law's links. -/
def LinksAt (w : World) (ls : List (ByteArray × ByteArray)) (v : Value) : Prop :=
  (ls = [] ∧ ∃ a cap, v = .slice a 0 cap) ∨ ∃ (b off cap : Nat), v = .slice (some ⟨b, off, none⟩) ls.length cap ∧ ls.length ≤ cap ∧ cap ≤ maxLen ∧
    ∀ k q, ls[k]? = some q → w.cell? ⟨b, off + k * 2, none⟩ = some (.string q.1) ∧ w.cell? ⟨b, off + k * 2 + 1, none⟩ = some (.string q.2)
theorem LinksAt.below {w w' : World} {ls : List (ByteArray × ByteArray)} {v : Value} (h : LinksAt w ls v) (hb : Below w.heap.size w w') : LinksAt w' ls v := by
  rcases h with h | ⟨b, off, cap, hv, hl, hc, hk⟩
  · exact .inl h
  · refine .inr ⟨b, off, cap, hv, hl, hc, fun k q hq => ?_⟩
    obtain ⟨h1, h2⟩ := hk k q hq
    exact ⟨by rw [hb.cell (p := ⟨b, off + k * 2, none⟩) (cell_lt h1)]; exact h1, by rw [hb.cell (p := ⟨b, off + k * 2 + 1, none⟩) (cell_lt h2)]; exact h2⟩
def heads (ls : List (ByteArray × ByteArray)) : List (ByteArray × ByteArray) := ls.map fun q => (headB q.1 20, headB q.2 40)
theorem headB_size (s : ByteArray) (n : Nat) : (headB s n).size ≤ n := by
  unfold headB
  split
  · rw [ByteArray.size_extract]; omega
  · omega
theorem heads_small (ls : List (ByteArray × ByteArray)) (h : ls.length ≤ 100) (k : Nat) : Small ((heads ls).take k).reverse := by
  refine ⟨by simp [heads]; omega, fun q hq => ?_⟩
  obtain ⟨p, _, rfl⟩ := List.mem_map.1 (List.mem_of_mem_take (List.mem_reverse.1 hq))
  exact ⟨Nat.le_trans (headB_size _ _) (by omega), Nat.le_trans (headB_size _ _) (by omega)⟩
end Go.Proofs.YtbidhljigeoooaaDoor
