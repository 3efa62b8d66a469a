/-
  OWN WORK. What the program's own disk does, of whatever form: given to the laws' walks.
-/
import Derived.Test.YtenedgapjbmpgaaDiPure
import Derived.Test.YtenedgapjbmpgaaBaBools
namespace Go.Proofs.Ytenedgapjbmpgaa
open Go.RowKit Rc Di Ob

/-- A list of numbers of a call's own. -/
def FreshI (l : List Int) (w : World) (x : Value) (w' : World) : Prop := ∃ X c, x = .slice X l.length c ∧ l.length ≤ c ∧ RdI w' X l ∧ (∀ b, X.map (·.block) = some b → w.heap.size ≤ b ∧ b < w'.heap.size)
structure DSaid extends Ob.Obj Dk where
  ok : ∀ {v s S w}, At v s S w → s.Ok
  new : ∀ (w : World) (n : Int), -9223372036854775808 ≤ n → n ≤ 9223372036854775807 → Calls Try.prog 9 #[.int .i64 n] w fun e w' => Below w.heap.size w w' ∧ ((64 ≤ n ∧ n ≤ 4096) → ∃ v S, e = .returned (.tuple #[v, .int .i64 0]) ∧ At v (Dk.new n.toNat) S w' ∧ ∀ b, S b → w.heap.size ≤ b) ∧ (¬ (64 ≤ n ∧ n ≤ 4096) → ∃ x, e = .returned (.tuple #[x, .int .i64 1]))
  of_ : ∀ (w : World) (A : Option Addr) (L : List UInt8) (cap : Nat), Rd w A L → L.length ≤ cap → L.length ≤ 10000000 → Calls Try.prog 10 #[.slice A L.length cap] w fun e w' => Below w.heap.size w w' ∧ (∀ n, 64 ≤ n → n ≤ 4096 → L.length = 128 * n → ∃ v S, e = .returned (.tuple #[v, .int .i64 0]) ∧ At v (Dk.of n L) S w' ∧ ∀ b, S b → w.heap.size ≤ b) ∧ ((∀ n, 64 ≤ n → n ≤ 4096 → L.length ≠ 128 * n) → ∃ x, e = .returned (.tuple #[x, .int .i64 1]))
  sectors : ∀ {v s S w}, At v s S w → Calls Try.prog 16 #[v] w fun e w' => e = .returned (.int .i64 (s.dirty.length : Nat)) ∧ Below w.heap.size w w'
  writes : ∀ {v s S w}, At v s S w → s.writes ≤ 1000000 → Calls Try.prog 24 #[v] w fun e w' => e = .returned (.int .i64 (s.writes : Nat)) ∧ Below w.heap.size w w'
  read : ∀ {v s S w}, At v s S w → ∀ i : Int, -9223372036854775808 ≤ i → i ≤ 9223372036854775807 → Calls Try.prog 15 #[v, .int .i64 i] w fun e w' => ∃ x, e = .returned (.tuple #[x, .int .i64 ((s.read i).2 : Nat)]) ∧ Fresh (s.read i).1 w x w' ∧ Below w.heap.size w w'
  write : ∀ {v s S w}, At v s S w → s.writes ≤ 1000000 → ∀ (i : Int) (A : Option Addr) (L : List UInt8) (cap : Nat), -9223372036854775808 ≤ i → i ≤ 9223372036854775807 → Kept w S A L → L.length ≤ cap → L.length ≤ 140737488351232 → Calls Try.prog 19 #[v, .int .i64 i, .slice A L.length cap] w (Turns toObj v (s.write i L).2 (.int .i64 ((s.write i L).1 : Nat)) S w)
  flush : ∀ {v s S w}, At v s S w → Calls Try.prog 21 #[v] w fun e w' => ∃ x, Turns toObj v s.flush x S w e w'
  crash : ∀ {v s S w}, At v s S w → ∀ (A : Option Addr) (K : List Bool) (cap : Nat) (torn cut : Int), RdB w A K → (∀ a, A = some a → 0 < K.length → ¬ S a.block) → K.length ≤ cap → K.length ≤ 9223372036854775807 → -9223372036854775808 ≤ torn → torn ≤ 9223372036854775807 → -9223372036854775808 ≤ cut → cut ≤ 9223372036854775807 →
    Calls Try.prog 22 #[v, .slice A K.length cap, .int .i64 torn, .int .i64 cut] w fun e w' => ∃ x, Turns toObj v (s.crash K torn cut) x S w e w'
  dirty : ∀ {v s S w}, At v s S w → Calls Try.prog 17 #[v] w fun e w' => ∃ x, e = .returned x ∧ FreshI s.dirtyL w x w' ∧ Below w.heap.size w w'
  image : ∀ {v s S w}, At v s S w → Calls Try.prog 14 #[v] w fun e w' => ∃ x, e = .returned x ∧ Fresh s.image w x w' ∧ Below w.heap.size w w'
section
variable {D : DSaid} {v : Value} {w0 W0 : World} {X0 B : Nat → Prop} {s : Dk} {w : World}
/-- A disk of 64 sectors, made behind this world. -/
theorem DSaid.new64 (D : DSaid) (w : World) : Calls Try.prog 9 #[.int .i64 64] w fun e w' => ∃ a B, e = .returned (.tuple #[.pointer (some a), .int .i64 0]) ∧ Hid (One D.toObj (.pointer (some a)) w w' B (Dk.new 64) B w') := by
  refine (D.new w 64 (by omega) (by omega)).mono ?_
  rintro e w' ⟨hb, h1, _⟩
  obtain ⟨v, S, rfl, hat, hS⟩ := h1 (by omega)
  obtain ⟨a, rfl⟩ := D.ptr hat
  exact ⟨a, S, rfl, hat, Mod.refl _ _, fun _ h => .inl h, hb, hS⟩
end
end Go.Proofs.Ytenedgapjbmpgaa
