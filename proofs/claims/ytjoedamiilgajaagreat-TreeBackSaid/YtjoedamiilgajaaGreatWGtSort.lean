/-
  OWN WORK. The program's tree: names in their order: slices.SortFunc over a row of rows.
-/
import Derived.Test.YtjoedamiilgajaaGreatWUpJoin
import Derived.Test.YtjoedamiilgajaaGreatWMsRows
import Derived.Test.YtjoedamiilgajaaGreatW12
import Derived.Test.YtjoedamiilgajaaGreatW02
import Derived.Sort.Grow
namespace Go.Proofs.YtjoedamiilgajaaGreat
open Go.RowKit Rc
open Tr (Nm En T)
namespace Gt
/-! The order. -/
abbrev EltP (w:World) (blk:Nat) (S:Nat→Prop) (y:Option Addr × List Bs × Nat):Prop:=y.2.1.length≤y.2.2∧RdS w y.1 y.2.1∧(∀ b,y.1.map (·.block)=some b→(b≠blk∧b<w.heap.size)∧S b)∧(Dr.joined y.2.1).length≤140737488355328
def Elt (w:World) (blk:Nat) (S:Nat→Prop):={y:Option Addr × List Bs × Nat // EltP w blk S y}
instance (w:World) (blk:Nat) (S:Nat→Prop):Inhabited (Elt w blk S):=⟨⟨(none,[],0),Nat.le_refl _,(fun h=>absurd h (Nat.lt_irrefl 0)),(fun b h=>nomatch h),Nat.zero_le _⟩⟩
section
variable {w:World} {blk:Nat} {S:Nat→Prop}
end
end Gt
end Go.Proofs.YtjoedamiilgajaaGreat
