/-
  OWN WORK. Regions that draw and only make memory: a text's bytes; rows of texts.
-/
import Derived.Test.YtjoedamiilgajaaGreatQ03
import Derived.Test.YtjoedamiilgajaaGreatQ02
import Derived.Test.YtjoedamiilgajaaGreatQ18
import Derived.Test.YtjoedamiilgajaaGreatQ13
namespace Go.Proofs.YtjoedamiilgajaaGreat
open Go.RowKit Rc
namespace Ag
section
variable {F:Nat→Rc.Fact} {cons:List (Nat × Nat)} {E:Nat→(Nat→Value)→Value→Prop} {V:Nat→Value} {S:Nat→Nat→Prop} {j:Nat} {o:Oper} {b:Act} {w:World}
theorem step_conv (x:Bs) {y:Operand} (hop:o.op=.convert 9 39 y) (hy:b.eval y=.string (strOf x)) (hF:F j=Ob.frow x) (hE:∀ v,E j V v) (hg:Rg.Open o V):Rg.Dz Tryz.prog o V b w (Rc.Good F cons E V S j w):=by
 obtain ⟨c,w',hrun,hc,hr,hb,hlt⟩:=Tm.conv_any2 x w
 refine Rc.step_new (.slice (some ⟨w.heap.size,0,none⟩) x.length c) w' (fun k=>k=w.heap.size) (hE _) hg ?_ hb ?_ (fun k hk=>⟨by omega,by omega⟩)
 ·obtain ⟨dst,op,ty,pos,after,guard⟩:=o
  simp only at hop
  subst hop
  simp only [execOp,hy]
  simp [hrun,Result.andThen]
 ·rw [hF]
  refine ⟨_,c,rfl,hc,hr,fun k hk=>?_⟩
  have hk:w.heap.size=k:=by simpa using hk
  exact hk.symm
end
end Ag
end Go.Proofs.YtjoedamiilgajaaGreat
