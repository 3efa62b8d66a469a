/-
  OWN WORK. Rows of rows of texts: as they are read, and as they are a call's own.
-/
import Derived.Test.YtjoedamiilgajaaGreatW14
namespace Go.Proofs.YtjoedamiilgajaaGreat
open Go.RowKit Rc
namespace Ms
theorem RdS.keep {w w':World} {A:Option Addr} {l:List Bs} (h:RdS w A l) (hb:∀ p:Addr,p.block<w.heap.size→A.map (·.block)=some p.block→w'.cell? p=w.cell? p) (hs:w.heap.size≤w'.heap.size):RdS w' A l:=by
 intro hl
 obtain ⟨b,off,rfl,hlt,hc⟩:=h hl
 exact ⟨b,off,rfl,by omega,fun j x hx=>(hb ⟨b,off+j,none⟩ hlt rfl).trans (hc j x hx)⟩
def RdL (w:World) (A:Option Addr) (L:List (List Bs)):Prop :=
 0<L.length→∃ b off,A=some ⟨b,off,none⟩∧b<w.heap.size∧∀ j x,L[j]?=some x→∃ A' c,w.cell? ⟨b,off+j,none⟩=some (.slice A' x.length c)∧x.length≤c∧RdS w A' x
theorem RdL.nil (w:World) (A:Option Addr):RdL w A []:=fun h=>absurd h (by simp)
def LOwn (B:Nat) (O:Option Addr→List Bs→Prop) (x:Value) (L:List (List Bs)) (S:Nat→Prop) (w:World):Prop :=
 ∃ xs:List Value,w.ownsRow B 26 1 x L.length xs∧(∀ b,x.ownBlock=some b→S b)∧∀ (j:Nat) (y:List Bs),L[j]?=some y→∃ A c,xs[j]?=some (Value.slice A y.length c)∧y.length≤c∧((RdS w A y∧∀ b,A.map (·.block)=some b→S b∧x.ownBlock≠some b)∨O A y)
def noOld:Option Addr→List Bs→Prop:=fun _ _=>False
theorem LOwn.mono {B B':Nat} {O O':Option Addr→List Bs→Prop} {x:Value} {L:List (List Bs)} {S S':Nat→Prop} {w:World} (h:LOwn B O x L S w) (hB:B'≤B) (hO:∀ A y,O A y→O' A y) (hS:∀ b,S b→S' b):LOwn B' O' x L S' w:=by
 obtain ⟨xs,h1,h2,h3⟩:=h
 refine ⟨xs,⟨h1.1,?_⟩,fun b hb=>hS b (h2 b hb),fun j y hj=>?_⟩
 ·rcases h1.2 with h|⟨g,cap,cur,h4,h5,h6⟩
  ·exact .inl h
  ·exact .inr ⟨g,cap,cur,h4,by omega,h6⟩
 ·obtain ⟨A,c,h4,h5,h6⟩:=h3 j y hj
  refine ⟨A,c,h4,h5,h6.imp (fun h=>⟨h.1,fun b hb=>⟨hS b (h.2 b hb).1,(h.2 b hb).2⟩⟩) (hO A y)⟩
theorem LOwn.keep {B:Nat} {O:Option Addr→List Bs→Prop} {x:Value} {L:List (List Bs)} {S:Nat→Prop} {w w':World} (h:LOwn B O x L S w) (hs:w.heap.size≤w'.heap.size) (hb:∀ b,S b→w'.heap[b]?=w.heap[b]?):LOwn B O x L S w':=by
 obtain ⟨xs,h1,h2,h3⟩:=h
 refine ⟨xs,⟨h1.1,?_⟩,h2,fun j y hj=>?_⟩
 ·rcases h1.2 with h|⟨g,cap,cur,h4,h5,h6,h7⟩
  ·exact .inl h
  ·subst h4
   exact .inr ⟨g,cap,cur,rfl,h5,(hb g (h2 g rfl)).trans h6,h7⟩
 ·obtain ⟨A,c,h4,h5,h6⟩:=h3 j y hj
  refine ⟨A,c,h4,h5,h6.imp (fun h=>⟨RdS.keep h.1 (fun p hp hA=>by unfold World.cell?;rw [hb p.block (h.2 _ hA).1]) hs,h.2⟩) id⟩
theorem LOwn.nil (B:Nat) (O:Option Addr→List Bs→Prop) (S:Nat→Prop) (w:World):LOwn B O (.slice none 0 0) [] S w:=⟨[],⟨rfl,.inl ⟨rfl,rfl⟩⟩,(fun b hb=>by simp [Value.ownBlock] at hb),(fun j y hj=>by simp at hj)⟩
section
variable {F:Nat→Rc.Fact} {cons:List (Nat × Nat)} {E:Nat→(Nat→Value)→Value→Prop} {V:Nat→Value} {S:Nat→Nat→Prop} {j:Nat} {o:Oper} {b:Act} {w:World}
end
section
variable {F:Nat→Rc.Fact} {cons:List (Nat × Nat)} {E:Nat→(Nat→Value)→Value→Prop} {V:Nat→Value} {S:Nat→Nat→Prop} {j:Nat} {o:Oper} {b:Act} {w:World}
end
end Ms
end Go.Proofs.YtjoedamiilgajaaGreat
