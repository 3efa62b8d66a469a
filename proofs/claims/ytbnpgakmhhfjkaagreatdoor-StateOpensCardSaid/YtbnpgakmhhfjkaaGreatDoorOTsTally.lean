/-
  OWN WORK. A map of the program's own from numbers to numbers, read as a function (0 where nothing stands).
-/
import Derived.Test.YtbnpgakmhhfjkaaGreatDoorO09
import Derived.Maps.OwnOps
import Derived.Maps.OwnSet
import Derived.Maps.Views
namespace Go.Proofs.YtbnpgakmhhfjkaaGreatDoor
open Go.RowKit Rc
open Go.Maps (Keyed)
namespace Tm
def Tally (w:World) (b n:Nat) (f:Int→Int):Prop :=
 ∃ D:DataW Unit,w.ownsMap Tryz.prog 3 (plainElem Tryz.prog 3) b n D∧Maps.IsMap D∧∀ x,(Lit.int .i64 x).wf=true→D.atKey (.int .i64 x) (.lit (.int .i64 0))=.lit (.int .i64 (f x))
theorem Tally.made (w:World):Tally (w.alloc (.map #[] 0)) w.heap.size 0 (fun _=>0) :=
 ⟨.map [],World.ownsMap_made w _ _ _,⟨[],rfl⟩,fun _ _=>rfl⟩
theorem Tally.look {w:World} {b n:Nat} {f:Int→Int} (h:Tally w b n f) (x:Int) (hx:(Lit.int .i64 x).wf=true) :
    (Instr.lookup 234 (.map (some b)) (.int .i64 x) false).run Tryz.prog w=.ok (.int .i64 (f x)) w:=by
 obtain ⟨D,h1,_,h3⟩:=h
 obtain ⟨c,hrun,hat,_⟩:=h1.lookup_int (t:=234) (Maps.int_keyed Tryz.underlying3) Tryz.underlying234 Tryz.underlying3 (Tryz.zeroValue3 _) (Maps.keyOf_int_mk Tryz.underlying3 hx)
 rw [h3 x hx] at hat
 simp only [DataW.lit.injEq,Lit.int.injEq,true_and] at hat
 rw [hrun,← hat]
theorem Tally.put {w:World} {b n:Nat} {f:Int→Int} (h:Tally w b n f) (hn:n<maxLen) (x v:Int) (hx:(Lit.int .i64 x).wf=true) (hv:(Lit.int .i64 v).wf=true) :
    ∃ w',(Instr.mapUpdate 234 (.map (some b)) (.int .i64 x) (.int .i64 v)).run Tryz.prog w=.ok () w'∧Tally w' b (n+1) (fun y=>if y=x then v else f y)∧w.grownBy w' (some b):=by
 obtain ⟨D,h1,h2,h3⟩:=h
 obtain ⟨w',hrun,h4,h5⟩:=h1.update (t:=234) (Maps.int_keyed Tryz.underlying3) Tryz.underlying234 hn (Maps.keyOf_int_mk Tryz.underlying3 hx) (plainElem_int Tryz.underlying3 hv)
 refine ⟨w',hrun,⟨_,h4,?_,fun y hy=>?_⟩,h5⟩
 ·obtain ⟨es,rfl⟩:=h2
  exact ⟨_,rfl⟩
 ·dsimp only
  by_cases he:y=x
  ·subst he
   rw [if_pos rfl,Maps.atKey_put_same h2 (by trivial)]
  ·rw [if_neg he,Maps.atKey_put_other (fun e=>he (by simpa using e)),h3 y hy]
theorem Tally.kept {w w':World} {b n:Nat} {f:Int→Int} (h:Tally w b n f) (hb:w'.heap[b]?=w.heap[b]?):Tally w' b n f:=by
 obtain ⟨D,⟨es,c,h0,h1⟩,h2⟩:=h
 exact ⟨D,⟨es,c,hb.trans h0,h1⟩,h2⟩
theorem Tally.lt {w:World} {b n:Nat} {f:Int→Int} (h:Tally w b n f):b<w.heap.size:=by
 obtain ⟨D,⟨es,c,h0,h1⟩,h2⟩:=h
 exact (Array.getElem?_eq_some_iff.1 h0).1
end Tm
end Go.Proofs.YtbnpgakmhhfjkaaGreatDoor
