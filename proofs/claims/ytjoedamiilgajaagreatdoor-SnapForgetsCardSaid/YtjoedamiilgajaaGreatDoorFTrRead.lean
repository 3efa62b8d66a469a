/-
  OWN WORK. The program's tree: Read, Look, List.
-/
import Derived.Test.YtjoedamiilgajaaGreatDoorF08
namespace Go.Proofs.YtjoedamiilgajaaGreatDoor
open Go.RowKit Rc
open Tr (Nm En T)
namespace Tm
variable {p : Nat} {av : Value} {gs : List Nat} {S : Nat → Prop} {t : T} {w : World}
def RAns (l : Bs) (n : Nat) (w : World) (e : Ending) (w' : World) : Prop := ∃ x, e = .returned (.tuple #[x, .int .i64 (n : Nat)]) ∧ Ob.Fresh l w x w' ∧ Below w.heap.size w w'
theorem RAns.none (n : Nat) {w w' : World} (hb : Below w.heap.size w w') : RAns [] n w (.returned (.tuple #[.slice none 0 0, .int .i64 (n : Nat)])) w' := ⟨_, rfl, ⟨rfl, .inl ⟨rfl, rfl⟩⟩, hb⟩

end Tm
end Go.Proofs.YtjoedamiilgajaaGreatDoor
