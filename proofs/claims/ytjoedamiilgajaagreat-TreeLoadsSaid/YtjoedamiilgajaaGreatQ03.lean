/-
  OWN WORK. BaObj, TrRow, TrMem, MkRows, RfMem, TrEnt, TrGood, PtGood, PtNames, TrWay
-/
import Derived.Test.YtjoedamiilgajaaGreatQ02
import Derived.Lib.AppendZerosOnto
import Derived.Lib.Overlaps
import Derived.Laws.Externs
import Derived.Lib.SliceRun
import Derived.Deep.RegionWith
import Derived.BigRegion
set_option maxHeartbeats 4000000
namespace Go.Proofs.YtjoedamiilgajaaGreat
open Go.RowKit Rc
namespace Ob
structure Obj (σ:Type) where
 At:Value→σ→(Nat→Prop)→World→Prop
 keep:∀ {v s S w w'},At v s S w→w.heap.size≤w'.heap.size→(∀ b,S b→w'.heap[b]?=w.heap[b]?)→At v s S w'
 lt:∀ {v s S w},At v s S w→∀ b,S b→b<w.heap.size
 ptr:∀ {v s S w},At v s S w→∃ a,v=.pointer (some a)
def Fresh (l:List UInt8) (w:World) (x:Value) (w':World):Prop:=w'.ownsRow w.heap.size 5 1 x l.length (Lib.byteCells l)
theorem Fresh.form {l:List UInt8} {w:World} {x:Value} {w':World} (h:Fresh l w x w'):∃ X c,x=.slice X l.length c∧l.length≤c∧Rd w' X l∧(∀ b,X.map (·.block)=some b→w.heap.size≤b∧b<w'.heap.size):=by
 have h0:=own_base h
 rcases h.2 with ⟨rfl,h1⟩|⟨g,cap,cur,rfl,hb,hh,_⟩
 ·have:l=[]:=List.eq_nil_of_length_eq_zero (by omega)
  subst this
  exact ⟨none,0,rfl,Nat.le_refl _,Rd.nil _ _,fun b hb=>by simp at hb⟩
 ·obtain ⟨X,c,e,hc,hr⟩:=bRow_form (show (bRow l).holds _ w' from h0)
  injection e with e1 e2 e3
  subst e1 e3
  refine ⟨_,_,rfl,hc,hr,fun b hb2=>?_⟩
  simp only [Option.map_some,Option.some.injEq] at hb2
  subst hb2
  exact ⟨hb,(Array.getElem?_eq_some_iff.1 hh).1⟩
theorem rd_lt {w:World} {A:Option Addr} {l:List UInt8} (h:Rd w A l) (hl:0<l.length) {b:Nat} (hb:A.map (·.block)=some b):b<w.heap.size:=by
 obtain ⟨b',off,rfl,hlt,_⟩:=h hl
 simp at hb
 omega
theorem str_run (w:World) (A:Option Addr) (l:List UInt8) (cap:Nat) (hr:Rd w A l):(convert 39 9 (.slice A l.length cap)).run Tryz.prog w=.ok (.string (strOf l)) w:=str_any w A l cap hr
structure One {σ:Type} (O:Obj σ) (v:Value) (w0 W0:World) (X0:Nat→Prop) (s:σ) (B:Nat→Prop) (w:World):Prop where
 at_:O.At v s B w
 mod:Mod W0 w X0
 sub:∀ b,B b→X0 b∨W0.heap.size≤b
 low:Below w0.heap.size w0 w
 up:∀ b,B b→w0.heap.size≤b
def Own {σ:Type} (O:Obj σ) (v:Value) (w0 W0:World) (X0:Nat→Prop) (s:σ) (w:World):Prop:=∃ B,One O v w0 W0 X0 s B w
section
variable {σ:Type} {O:Obj σ} {v:Value} {w0 W0:World} {X0 B:Nat→Prop} {s s':σ} {w w':World}
theorem mod_more {X:Nat→Prop} (h:Mod W0 w X0) (hm:Mod w w' X) (hX:∀ b,X b→X0 b∨W0.heap.size≤b):Mod W0 w' X0 :=
 ⟨hm.os.trans h.os,hm.tape.trans h.tape,hm.output.trans h.output,Nat.le_trans h.size hm.size,fun k hk hn=>(hm.block k (Nat.lt_of_lt_of_le hk h.size) fun hx=>by
  rcases hX k hx with h1|h1
  ·exact hn h1
  ·omega).trans (h.block k hk hn)⟩
theorem low_more {X:Nat→Prop} (h:Below w0.heap.size w0 w) (hm:Mod w w' X) (hX:∀ b,X b→w0.heap.size≤b):Below w0.heap.size w0 w':=((Mod.of_below h X).trans hm).below hX
theorem One.turn {S':Nat→Prop} (h:One O v w0 W0 X0 s B w) (ha:O.At v s' S' w') (hm:Mod w w' B) (hs:∀ b,S' b→B b∨w.heap.size≤b):One O v w0 W0 X0 s' S' w' :=
 ⟨ha,mod_more h.mod hm h.sub,fun b hB=>(hs b hB).elim (h.sub b) (fun h1=>.inr (Nat.le_trans h.mod.size h1)),low_more h.low hm h.up,fun b hB=>(hs b hB).elim (h.up b) (fun h1=>Nat.le_trans h.low.size h1)⟩
theorem One.later (h:One O v w0 W0 X0 s B w) (hb:Below w.heap.size w w'):One O v w0 W0 X0 s B w' :=
 ⟨O.keep h.at_ hb.size (fun b hB=>hb.block b (O.lt h.at_ b hB)),mod_more h.mod (Mod.of_below hb (fun _=>False)) (fun _ h=>h.elim),h.sub,h.low.trans (hb.mono h.low.size),h.up⟩
end
def Ups (B:Nat→Prop) (w0:World):Nat→Prop:=fun b=>B b∨w0.heap.size≤b
def frow (l:List UInt8):Rc.Fact :=
 ⟨fun x w S=>∃ X c,x=.slice X l.length c∧l.length≤c∧Rd w X l∧∀ b,X.map (·.block)=some b→S b,
  fun x w w' S h hs hb=>by
   obtain ⟨X,c,h1,h2,h3,h4⟩:=h
   exact ⟨X,c,h1,h2,h3.keep (fun p hp hA=>by unfold World.cell?;rw [hb p.block (h4 _ hA)]) hs,h4⟩⟩
section
variable {σ:Type} {F:Nat→Rc.Fact} {cons:List (Nat × Nat)} {E:Nat→(Nat→Value)→Value→Prop} {V:Nat→Value} {S:Nat→Nat→Prop} {j:Nat} {o:Oper} {b:Act} {w w0:World} {B:Nat→Prop}
theorem step_frow (l:List UInt8) {fn:FuncId} {xs:Array Operand} {ts:Array TypeId} (args:Array Value) (hent:∀ args w,(callFunc fn args).run Tryz.prog w=.ok (.enter fn args) w)
    (hop:o.op=.call { callee:=.value (.func fn),args:=xs,argTypes:=ts }) (hargs:xs.map b.eval=args) (hF:F j=frow l) (hE:∀ v,E j V v) (hg:Rg.Open o V)
    (hcall:Calls Tryz.prog fn args w fun e w'=>∃ x,e=.returned x∧Fresh l w x w'∧Below w.heap.size w w'):Rg.Dz Tryz.prog o V b w (Rc.Good F cons E V S j w):=by
 refine Rc.step_call args hent hop hargs hE hg (hcall.mono ?_)
 rintro e w' ⟨x,rfl,hf,hb⟩
 obtain ⟨X,c,rfl,hc,hr,hX⟩:=hf.form
 refine ⟨_,fun k=>X.map (·.block)=some k,rfl,Mod.of_below hb _,?_,fun k hk=>⟨.inr (hX k hk).1,(hX k hk).2⟩⟩
 rw [hF];exact ⟨X,c,rfl,hc,hr,fun _ h=>h⟩
theorem rc_mv (x:Value) {al:List (Nat × Nat × (Value→Value))} (h:(execOp b.eval o).run Tryz.prog w=.ok (.value x) w) (hF:F j=Rc.val x) (ha:(al.all fun x=>x.1 != j)=true) (hg:Rg.Open o V):Rg.Dz Tryz.prog o V b w (Rc.Good F cons (Rg.alias al) V S j w) :=
 Rc.step_val x (Rg.aN ha V _) hg h (by rw [hF];rfl)
theorem rc_slh {al:List (Nat × Nat × (Value→Value))} {t:TypeId} {x y:Operand} {X Y v:Value} (hop:o.op=.slice t x none (some y) none) (hx:b.eval x=X) (hy:b.eval y=Y) (h:(Instr.sliceAt t X none (some Y) none).run Tryz.prog w=.ok v w) (hF:F j=Rc.val v) (ha:(al.all fun x=>x.1 != j)=true) (hg:Rg.Open o V) :
    Rg.Dz Tryz.prog o V b w (Rc.Good F cons (Rg.alias al) V S j w):=by
 refine rc_mv v ?_ hF ha hg
 obtain ⟨dst,op,ty,pos,after,guard⟩:=o
 simp only at hop
 subst hop
 simp only [execOp,Option.map_some,Option.map_none,hx,hy]
 simp [h,Result.andThen]
theorem rc_sll {al:List (Nat × Nat × (Value→Value))} {t:TypeId} {x y:Operand} {X Y v:Value} (hop:o.op=.slice t x (some y) none none) (hx:b.eval x=X) (hy:b.eval y=Y) (h:(Instr.sliceAt t X (some Y) none none).run Tryz.prog w=.ok v w) (hF:F j=Rc.val v) (ha:(al.all fun x=>x.1 != j)=true) (hg:Rg.Open o V) :
    Rg.Dz Tryz.prog o V b w (Rc.Good F cons (Rg.alias al) V S j w):=by
 refine rc_mv v ?_ hF ha hg
 obtain ⟨dst,op,ty,pos,after,guard⟩:=o
 simp only at hop
 subst hop
 simp only [execOp,Option.map_some,Option.map_none,hx,hy]
 simp [h,Result.andThen]
end
theorem One.after {σ:Type} {O:Obj σ} {v:Value} {w0 W0:World} {X0:Nat→Prop} {s s':σ} {B:Nat→Prop} {w w2:World} (h:One O v w0 W0 X0 s B w) (hm:Mod w w2 B) {S:Nat→Prop} (hu:∃ S1,O.At v s' S1 w2∧(∀ b,S1 b→S b)∧∀ b,S1 b→Ups B w b):Own O v w0 W0 X0 s' w2:=by
 obtain ⟨S1,hat,_,hup⟩:=hu
 exact ⟨S1,h.turn hat hm hup⟩
def nil:Obj Unit where
 At v _ S _:=(∃ a,v=.pointer (some a))∧∀ b,¬ S b
 keep h _ _:=h
 lt h b hb:=absurd hb (h.2 b)
 ptr h:=h.1
end Ob
end Go.Proofs.YtjoedamiilgajaaGreat
namespace Go.Proofs.YtjoedamiilgajaaGreat
open Go.RowKit
/-! Rows of elements of k cells. -/
theorem run_copy_k {P:Program} (w:World) (dT sT ty elem:TypeId) (k:Nat) (hu:P.underlying dT=some (.slice elem)) (hsz:(P.info? elem).map (·.size)=some k)
    (g o dLen dCap:Nat) (ad:Addr) (sLen sCap:Nat) (cur:List Value) (t:TypeId) (hg:Blk w g t cur) (cs:List Value) (n:Nat) (hn:n=Nat.min sLen dLen) (hl:cs.length=n*k)
    (hsrc:∀ j v,cs[j]?=some v→w.cell? (ad.add j)=some v) (hfit:o+cs.length≤cur.length) (h1:∀ v ∈ cs,v.oneCell'=true) :
    ∃ w',(Builtin.copy_ #[dT,sT] ty #[.slice (some ⟨g,o,none⟩) dLen dCap,.slice (some ad) sLen sCap]).run P w=.ok (goInt n) w'∧Blk w' g t (splice cur o cs)∧Keeps w w' g:=by
 have hld:=run_firstCells_some (P:=P) w k n ad sLen sCap cs hl hsrc
 have hst:=run_storeCells_at P g o t cs 0 cur.toArray w hg (by simpa using hfit) h1
 refine ⟨w.setRow g (cur.toArray.toList.take o++cs++cur.toArray.toList.drop (o+cs.length)).toArray,?_,?_,(Keeps.refl w g).setRow _⟩
 ·cases hq:P.info? elem with
  | none=>simp [hq] at hsz
  | some i =>
    have hi:i.size=k:=by simpa [hq] using hsz
    subst hi
    simp [Builtin.copy_,run_underlying hu,Builtin.lenOf,sizeOf,typeInfo,hq,← hn,hld,hst]
 ·have e:cur.toArray.toList.take o++cs++cur.toArray.toList.drop (o+cs.length)=splice cur o cs:=by simp [splice]
  rw [e]
  exact hg.row _
theorem run_clear_k {P:Program} (w:World) (t0 elem ty:TypeId) (z:Value) (ht:P.underlying t0=some (.slice elem)) (hz:(zeroValue elem).run P w=.ok z w)
    (g o n cap:Nat) (cur:List Value) (t:TypeId) (hg:Blk w g t cur) (hfit:o+n*z.cells.size≤cur.length) (h1:∀ v ∈ z.cells.toList,v.oneCell'=true) :
    ∃ w' cs,(Builtin.clear_ #[t0] ty #[.slice (some ⟨g,o,none⟩) n cap]).run P w=.ok (.tuple #[]) w'∧Blk w' g t (splice cur o cs)∧Keeps w w' g∧cs.length=n*z.cells.size:=by
 cases n with
 | zero=>exact ⟨w,[],by simp [Builtin.clear_,run_underlying ht],by simpa [splice] using hg,Keeps.refl w g,by simp⟩
 | succ m =>
   obtain ⟨cs,hcs⟩:∃ cs,cs=(Builtin.zeroCells z.cells (m+1)).toList:=⟨_,rfl⟩
   have hl:cs.length=(m+1)*z.cells.size:=by rw [hcs];simp [Builtin.zeroCells]
   have hone:∀ v ∈ cs,v.oneCell'=true:=by
    intro v hv
    rw [hcs] at hv
    simp only [Builtin.zeroCells,Array.toList_map,List.mem_map,Array.toList_range,List.mem_range] at hv
    obtain ⟨i,hi,rfl⟩:=hv
    have hz0:0<z.cells.size:=by
     rcases Nat.eq_zero_or_pos z.cells.size with h|h
     ·rw [h] at hi;omega
     ·exact h
    have hs:=Nat.mod_lt i hz0
    refine h1 _ ?_
    rw [getElem!_pos z.cells (i % z.cells.size) hs]
    exact Array.getElem_mem_toList hs
   have hst:=run_storeCells_at P g o t cs 0 cur.toArray w hg (by rw [hl];simpa using hfit) hone
   refine ⟨w.setRow g (cur.toArray.toList.take o++cs++cur.toArray.toList.drop (o+cs.length)).toArray,cs,?_,?_,(Keeps.refl w g).setRow _,hl⟩
   ·simp [Builtin.clear_,run_underlying ht,hz,← hcs,hst]
   ·have e:cur.toArray.toList.take o++cs++cur.toArray.toList.drop (o+cs.length)=splice cur o cs:=by simp [splice]
    rw [e]
    exact hg.row _
/-! What an insertion does to a row. -/
theorem splice_length {α:Type} (L:List α) (o:Nat) (cs:List α) (h:o+cs.length≤L.length):(splice L o cs).length=L.length:=by
 unfold splice
 rw [List.length_append,List.length_append,List.length_take,List.length_drop];omega
theorem splice_take {α:Type} (L:List α) (o:Nat) (cs:List α) (h:o≤L.length):(splice L o cs).take o=L.take o:=by
 unfold splice
 rw [List.take_append_of_le_length (by rw [List.length_take];omega),List.take_take,Nat.min_self]
theorem splice_cut {α:Type} (L:List α) (o:Nat) (cs:List α) (h:o≤L.length):(splice L o cs).drop o=cs++L.drop (o+cs.length):=by
 unfold splice
 rw [List.drop_append_of_le_length (by rw [List.length_take];omega),List.drop_eq_nil_of_le (by rw [List.length_take];omega),List.nil_append]
theorem ins_row {α:Type} (cur xs ys:List α) (a k N:Nat) (hx:cur.take N=xs) (hN:N+k≤cur.length) (ha:a≤N) (hy:ys.length=k) :
    (splice (splice cur (a+k) (xs.drop a)) a ys).length=cur.length∧(splice (splice cur (a+k) (xs.drop a)) a ys).take (N+k)=xs.take a++(ys++xs.drop a):=by
 have hxl:xs.length=N:=by rw [← hx,List.length_take];omega
 have hdl:(xs.drop a).length=N-a:=by rw [List.length_drop,hxl]
 have l1:=splice_length cur (a+k) (xs.drop a) (by rw [hdl];omega)
 refine ⟨by rw [splice_length _ _ _ (by rw [l1,hy];omega),l1],?_⟩
 have e1:(splice cur (a+k) (xs.drop a)).take a=xs.take a:=by
  have h:=splice_take cur (a+k) (xs.drop a) (by omega)
  have h2:=congrArg (List.take a) h
  rw [List.take_take,List.take_take,Nat.min_eq_left (by omega)] at h2
  rw [h2,← hx,List.take_take,Nat.min_eq_left ha]
 have e2:(splice cur (a+k) (xs.drop a)).drop (a+ys.length)=xs.drop a++cur.drop (N+k):=by
  rw [hy,splice_cut _ _ _ (by omega),hdl]
  congr 2;omega
 have e3:splice (splice cur (a+k) (xs.drop a)) a ys=xs.take a++(ys++(xs.drop a++cur.drop (N+k))):=by
  unfold splice at e1 e2 ⊢
  rw [e1,e2]
 rw [e3,← List.append_assoc,← List.append_assoc,← List.append_assoc,List.take_append_of_le_length (by simp only [List.length_append,List.length_take,hdl,hy,hxl];omega),List.take_of_length_le (by simp only [List.length_append,List.length_take,hdl,hy,hxl];omega),List.append_assoc]
theorem ins_new {α:Type} (cur xs ys:List α) (a k N:Nat) (hxl:xs.length=N) (hx:cur.take a=xs.take a) (hN:N+k≤cur.length) (ha:a≤N) (hy:ys.length=k) :
    (splice (splice cur a ys) (a+k) (xs.drop a)).length=cur.length∧(splice (splice cur a ys) (a+k) (xs.drop a)).take (N+k)=xs.take a++(ys++xs.drop a):=by
 have hdl:(xs.drop a).length=N-a:=by rw [List.length_drop,hxl]
 have l1:=splice_length cur a ys (by rw [hy];omega)
 refine ⟨by rw [splice_length _ _ _ (by rw [l1,hdl];omega),l1],?_⟩
 have e1:(splice cur a ys).take (a+k)=xs.take a++ys:=by
  unfold splice
  rw [← List.append_assoc,List.take_append_of_le_length (by rw [List.length_append,List.length_take,hy];omega),List.take_of_length_le (by rw [List.length_append,List.length_take,hy];omega),hx]
 have e2:(splice (splice cur a ys) (a+k) (xs.drop a))=(xs.take a++ys)++(xs.drop a++(splice cur a ys).drop (a+k+(xs.drop a).length)):=by
  conv=>lhs;unfold splice
  rw [show List.take a cur++(ys++List.drop (a+ys.length) cur)=splice cur a ys from rfl,e1]
 rw [e2,← List.append_assoc,List.take_append_of_le_length (by simp only [List.length_append,List.length_take,hdl,hy,hxl];omega),List.take_of_length_le (by simp only [List.length_append,List.length_take,hdl,hy,hxl];omega),List.append_assoc]
end Go.Proofs.YtjoedamiilgajaaGreat
namespace Go.Proofs.YtjoedamiilgajaaGreat
open Go.RowKit Rc
open Tr (Nm En T)
namespace Tm
/-! Own rows of whatever elements. -/
theorem own_low {w:World} {B e k n:Nat} {v:Value} {xs:List Value} (h:w.ownsRow B e k v n xs):w.ownsRow 0 e k v n xs:=own_mono h (Nat.zero_le _)
theorem oB {w:World} {B e k n:Nat} {v:Value} {xs:List Value} (h:w.ownsRow B e k v n xs) {b:Nat} (hb:v.ownBlock=some b):B≤b∧b<w.heap.size∧∃ cs,Blk w b e cs:=by
 rcases h.2 with ⟨rfl,_⟩|⟨g,cap,cur,rfl,h1,h2,_⟩
 ·cases hb
 ·obtain rfl:g=b:=by simpa [Value.ownBlock] using hb
  exact ⟨h1,(Array.getElem?_eq_some_iff.1 h2).1,cur.toList,by simpa [Blk] using h2⟩
theorem own_keep {w w':World} {B e k n:Nat} {v:Value} {xs:List Value} (h:w.ownsRow B e k v n xs) (hb:∀ b,v.ownBlock=some b→w'.heap[b]?=w.heap[b]?):w'.ownsRow B e k v n xs:=by
 refine ⟨h.1,?_⟩
 rcases h.2 with h2|⟨g,cap,cur,rfl,h3,h4,h5⟩
 ·exact .inl h2
 ·exact .inr ⟨g,cap,cur,rfl,h3,(hb g rfl).trans h4,h5⟩
theorem oF {w:World} {B e k n:Nat} {v:Value} {xs:List Value} (h:w.ownsRow B e k v n xs):∃ A c,v=.slice A n c∧n≤c∧(0<n→∃ g,A=some ⟨g,0,none⟩∧v.ownBlock=some g∧B≤g∧g<w.heap.size∧∀ j x,xs[j]?=some x→w.cell? ⟨g,j,none⟩=some x):=by
 rcases h.2 with ⟨rfl,rfl⟩|⟨g,cap,cur,rfl,h1,h2,h3,h4,h5,h6⟩
 ·exact ⟨none,0,rfl,Nat.le_refl _,fun h=>absurd h (by omega)⟩
 ·refine ⟨_,cap,rfl,h3,fun hn=>⟨g,rfl,rfl,h1,(Array.getElem?_eq_some_iff.1 h2).1,fun j x hx=>?_⟩⟩
  rw [cell_of_row w g j cur e (0,0) h2]
  rw [← h6] at hx
  rw [List.getElem?_take] at hx
  split at hx
  ·simpa using hx
  ·cases hx
/-! Names. -/
def nmCells (l:List Nm):List Value:=l.flatMap fun n=>[.string (strOf n.1),.int .i64 n.2]
theorem nmCells_cons (n:Nm) (l:List Nm):nmCells (n :: l)=.string (strOf n.1) :: .int .i64 n.2 :: nmCells l:=rfl
theorem nmCells_append (a b:List Nm):nmCells (a++b)=nmCells a++nmCells b:=by simp [nmCells]
theorem nmCells_take (l:List Nm):∀ i,nmCells (l.take i)=(nmCells l).take (i*2):=by
 induction l with
 | nil=>intro i;simp [nmCells]
 | cons n l ih =>
   intro i
   cases i with
   | zero=>simp [nmCells]
   | succ i =>
     rw [List.take_succ_cons,nmCells_cons,nmCells_cons,ih,show (i+1)*2=i*2+1+1 by omega,List.take_succ_cons,List.take_succ_cons]
theorem nmCells_drop (l:List Nm):∀ i,nmCells (l.drop i)=(nmCells l).drop (i*2):=by
 induction l with
 | nil=>intro i;simp [nmCells]
 | cons n l ih =>
   intro i
   cases i with
   | zero=>simp
   | succ i =>
     rw [List.drop_succ_cons,nmCells_cons,ih,show (i+1)*2=i*2+1+1 by omega,List.drop_succ_cons,List.drop_succ_cons]
theorem nmCells_get {l:List Nm} {j:Nat} {n:Nm} (h:l[j]?=some n):(nmCells l)[j*2]?=some (.string (strOf n.1))∧(nmCells l)[j*2+1]?=some (.int .i64 n.2):=by
 induction l generalizing j with
 | nil=>simp at h
 | cons m l ih =>
   rw [nmCells_cons]
   cases j with
   | zero =>
     obtain rfl:m=n:=by simpa using h
     exact ⟨rfl,rfl⟩
   | succ j =>
     have:=ih (j:=j) (by simpa using h)
     rw [show (j+1)*2=j*2+1+1 by omega]
     simpa using this
theorem nmCells_one (l:List Nm):∀ v ∈ nmCells l,v.oneCell'=true:=by
 intro v hv
 simp only [nmCells,List.mem_flatMap] at hv
 obtain ⟨x,_,hx⟩:=hv
 simp at hx
 rcases hx with rfl|rfl <;> rfl
def NOwn (w:World) (B:Nat) (v:Value) (l:List Nm):Prop:=w.ownsRow B 116 2 v l.length (nmCells l)
theorem NOwn.nil (w:World) (B:Nat):NOwn w B (.slice none 0 0) []:=⟨rfl,.inl ⟨rfl,rfl⟩⟩
theorem NOwn.form {w:World} {B:Nat} {v:Value} {l:List Nm} (h:NOwn w B v l):∃ A c,v=.slice A l.length c∧l.length≤c∧(0<l.length→∃ g,A=some ⟨g,0,none⟩∧v.ownBlock=some g∧B≤g∧g<w.heap.size∧∀ j n,l[j]?=some n→w.cell? ⟨g,j*2,none⟩=some (.string (strOf n.1))∧w.cell? ⟨g,j*2+1,none⟩=some (.int .i64 n.2)):=by
 obtain ⟨A,c,h1,h2,h3⟩:=oF h
 refine ⟨A,c,h1,h2,fun hl=>?_⟩
 obtain ⟨g,h4,h5,h6,h7,h8⟩:=h3 hl
 exact ⟨g,h4,h5,h6,h7,fun j n hj=>⟨h8 _ _ (nmCells_get hj).1,h8 _ _ (nmCells_get hj).2⟩⟩
/-! A node. -/
def enCells (e:En) (dv nv:Value):List Value:=[.int .i64 e.nd.id,.int .i64 e.nd.kind,.int .i64 e.nd.links,.int .i64 e.nd.size,.int .u64 (e.nd.till:Nat),.bool e.nd.shut,dv,nv]
def EnS (g:Nat) (dv nv:Value):Nat→Prop:=fun b=>b=g∨dv.ownBlock=some b∨nv.ownBlock=some b
structure EIn (g:Nat) (dv nv:Value) (e:En) (w:World):Prop where
 box:Blk w g 92 (enCells e dv nv)
 data:w.ownsRow 0 5 1 dv e.data.length (Lib.byteCells e.data)
 names:NOwn w 0 nv e.names
def EAt (g:Nat) (e:En) (S:Nat→Prop) (w:World):Prop:=∃ dv nv,EIn g dv nv e w∧S=EnS g dv nv
theorem EIn.at_ {g:Nat} {dv nv:Value} {e:En} {w:World} (h:EIn g dv nv e w):EAt g e (EnS g dv nv) w:=⟨dv,nv,h,rfl⟩
theorem EIn.keep {g:Nat} {dv nv:Value} {e:En} {w w':World} (h:EIn g dv nv e w) (hb:∀ b,EnS g dv nv b→w'.heap[b]?=w.heap[b]?):EIn g dv nv e w' :=
 ⟨(hb g (.inl rfl)).trans h.box,own_keep h.data fun b h1=>hb b (.inr (.inl h1)),own_keep h.names fun b h1=>hb b (.inr (.inr h1))⟩
theorem EIn.kind {g:Nat} {dv nv:Value} {e:En} {w:World} (h:EIn g dv nv e w) {b:Nat} (hb:EnS g dv nv b):b<w.heap.size∧∃ t cs,Blk w b t cs∧(t=92∨t=5∨t=116):=by
 rcases hb with rfl|hb|hb
 ·exact ⟨h.box.lt,_,_,h.box,.inl rfl⟩
 ·obtain ⟨_,h1,cs,h2⟩:=oB h.data hb
  exact ⟨h1,_,cs,h2,.inr (.inl rfl)⟩
 ·obtain ⟨_,h1,cs,h2⟩:=oB h.names hb
  exact ⟨h1,_,cs,h2,.inr (.inr rfl)⟩
theorem EAt.keep {g:Nat} {e:En} {S:Nat→Prop} {w w':World} (h:EAt g e S w) (hb:∀ b,S b→w'.heap[b]?=w.heap[b]?):EAt g e S w':=by
 obtain ⟨dv,nv,h1,rfl⟩:=h
 exact ⟨dv,nv,h1.keep hb,rfl⟩
theorem EAt.kind {g:Nat} {e:En} {S:Nat→Prop} {w:World} (h:EAt g e S w) {b:Nat} (hb:S b):b<w.heap.size∧∃ t cs,Blk w b t cs∧(t=92∨t=5∨t=116):=by
 obtain ⟨dv,nv,h1,rfl⟩:=h
 exact h1.kind hb
theorem EAt.self {g:Nat} {e:En} {S:Nat→Prop} {w:World} (h:EAt g e S w):S g:=by
 obtain ⟨dv,nv,h1,rfl⟩:=h
 exact .inl rfl
theorem EAt.cells {g:Nat} {e:En} {S:Nat→Prop} {w:World} (h:EAt g e S w):w.cell? ⟨g,0,none⟩=some (.int .i64 e.nd.id)∧w.cell? ⟨g,1,none⟩=some (.int .i64 e.nd.kind)∧w.cell? ⟨g,2,none⟩=some (.int .i64 e.nd.links)∧w.cell? ⟨g,3,none⟩=some (.int .i64 e.nd.size)∧w.cell? ⟨g,4,none⟩=some (.int .u64 (e.nd.till:Nat))∧w.cell? ⟨g,5,none⟩=some (.bool e.nd.shut):=by
 obtain ⟨dv,nv,h1,rfl⟩:=h
 exact ⟨h1.box.cell 0,h1.box.cell 1,h1.box.cell 2,h1.box.cell 3,h1.box.cell 4,h1.box.cell 5⟩
/-! Nodes, apart from one another. -/
def EsAt:List Nat→T→(Nat→Prop)→World→Prop
 | [],[],S,_=>∀ b,¬ S b
 | g :: gs,e :: t,S,w=>∃ S1 S2,EAt g e S1 w∧EsAt gs t S2 w∧(∀ b,S1 b→¬ S2 b)∧(∀ b,S b↔S1 b∨S2 b)
 | _,_,_,_=>False
theorem EsAt.len:∀ {gs:List Nat} {t:T} {S:Nat→Prop} {w:World},EsAt gs t S w→gs.length=t.length
 | [],[],_,_,_=>rfl
 | _ :: _,_ :: _,_,_,⟨_,_,_,h,_⟩=>by simp [EsAt.len h]
 | [],_ :: _,_,_,h=>h.elim
 | _ :: _,[],_,_,h=>h.elim
theorem EsAt.keep:∀ {gs:List Nat} {t:T} {S:Nat→Prop} {w w':World},EsAt gs t S w→(∀ b,S b→w'.heap[b]?=w.heap[b]?)→EsAt gs t S w'
 | [],[],_,_,_,h,_=>h
 | _ :: _,_ :: _,_,_,_,⟨S1,S2,h1,h2,h3,h4⟩,hb=>⟨S1,S2,h1.keep fun b h=>hb b ((h4 b).2 (.inl h)),EsAt.keep h2 fun b h=>hb b ((h4 b).2 (.inr h)),h3,h4⟩
 | [],_ :: _,_,_,_,h,_=>h.elim
 | _ :: _,[],_,_,_,h,_=>h.elim
theorem EsAt.kind:∀ {gs:List Nat} {t:T} {S:Nat→Prop} {w:World},EsAt gs t S w→∀ {b:Nat},S b→b<w.heap.size∧∃ t cs,Blk w b t cs∧(t=92∨t=5∨t=116)
 | [],[],_,_,h,b,hb=>absurd hb (h b)
 | _ :: _,_ :: _,_,_,⟨S1,S2,h1,h2,h3,h4⟩,b,hb=>((h4 b).1 hb).elim (fun h=>h1.kind h) (fun h=>EsAt.kind h2 h)
 | [],_ :: _,_,_,h,_,_=>h.elim
 | _ :: _,[],_,_,h,_,_=>h.elim
theorem EsAt.same:∀ {gs:List Nat} {t:T} {S S':Nat→Prop} {w:World},EsAt gs t S w→(∀ b,S b↔S' b)→EsAt gs t S' w
 | [],[],_,_,_,h,hS=>fun b hb=>h b ((hS b).2 hb)
 | _ :: _,_ :: _,_,_,_,⟨S1,S2,h1,h2,h3,h4⟩,hS=>⟨S1,S2,h1,h2,h3,fun b=>(hS b).symm.trans (h4 b)⟩
 | [],_ :: _,_,_,_,h,_=>h.elim
 | _ :: _,[],_,_,_,h,_=>h.elim
theorem EsAt.app:∀ {ga gb:List Nat} {A B:T} {SA SB:Nat→Prop} {w:World},EsAt ga A SA w→EsAt gb B SB w→(∀ b,SA b→¬ SB b)→EsAt (ga++gb) (A++B) (fun b=>SA b∨SB b) w
 | [],_,[],_,_,_,_,h,k,_=>k.same fun b=>⟨.inr,fun h1=>h1.elim (fun h2=>absurd h2 (h b)) id⟩
 | _ :: _,_,_ :: _,_,_,SB,_,⟨S1,S2,h1,h2,h3,h4⟩,k,hd =>
   ⟨S1,fun b=>S2 b∨SB b,h1,EsAt.app h2 k fun b h=>hd b ((h4 b).2 (.inr h)),fun b h=>fun h5=>h5.elim (h3 b h) (hd b ((h4 b).2 (.inl h))),fun b=>by
    constructor
    ·rintro (h|h)
     ·exact ((h4 b).1 h).elim .inl fun h=>.inr (.inl h)
     ·exact .inr (.inr h)
    ·rintro (h|h|h)
     ·exact .inl ((h4 b).2 (.inl h))
     ·exact .inl ((h4 b).2 (.inr h))
     ·exact .inr h⟩
 | [],_,_ :: _,_,_,_,_,h,_,_=>h.elim
 | _ :: _,_,[],_,_,_,_,h,_,_=>h.elim
theorem EsAt.split:∀ {A B:T} {gs:List Nat} {S:Nat→Prop} {w:World},EsAt gs (A++B) S w→∃ ga gb SA SB,gs=ga++gb∧EsAt ga A SA w∧EsAt gb B SB w∧(∀ b,SA b→¬ SB b)∧(∀ b,S b↔SA b∨SB b)
 | [],_,gs,S,_,h=>⟨[],gs,fun _=>False,S,rfl,fun _ h=>h,h,fun _ h=>h.elim,fun b=>⟨.inr,fun h=>h.elim False.elim id⟩⟩
 | e :: A,B,g :: gs,S,w,⟨S1,S2,h1,h2,h3,h4⟩=>by
   obtain ⟨ga,gb,SA,SB,rfl,h5,h6,h7,h8⟩:=EsAt.split h2
   refine ⟨g :: ga,gb,fun b=>S1 b∨SA b,SB,rfl,⟨S1,SA,h1,h5,fun b hb hA=>h3 b hb ((h8 b).2 (.inl hA)),fun b=>Iff.rfl⟩,h6,fun b hb hB=>?_,fun b=>?_⟩
   ·rcases hb with hb|hb
    ·exact h3 b hb ((h8 b).2 (.inr hB))
    ·exact h7 b hb hB
   ·rw [h4,h8,or_assoc]
 | _ :: _,_,[],_,_,h=>h.elim
theorem EsAt.mid {A B:T} {e:En} {gs:List Nat} {S:Nat→Prop} {w:World} (h:EsAt gs (A++e :: B) S w):∃ ga g gb S1,gs=ga++g :: gb∧ga.length=A.length∧EAt g e S1 w∧(∀ b,S1 b→S b) ∧
    (∀ w' e' S1',EAt g e' S1' w'→Mod w w' S1→(∀ b,S1' b→S1 b∨w.heap.size≤b)→∃ S',EsAt gs (A++e' :: B) S' w'∧∀ b,S' b→S b∨w.heap.size≤b):=by
 obtain ⟨ga,gb,SA,SB,rfl,h1,h2,h3,h4⟩:=h.split
 cases gb with
 | nil=>exact h2.elim
 | cons g gb =>
   obtain ⟨S1,S2,h5,h6,h7,h8⟩:=h2
   refine ⟨ga,g,gb,S1,rfl,h1.len,h5,fun b hb=>(h4 b).2 (.inr ((h8 b).2 (.inl hb))),fun w' e' S1' k1 k2 k3=>?_⟩
   have kA:EsAt ga A SA w':=h1.keep fun b hb=>k2.block b (h1.kind hb).1 fun h9=>h3 b hb ((h8 b).2 (.inl h9))
   have kB:EsAt gb B S2 w':=h6.keep fun b hb=>k2.block b (h6.kind hb).1 fun h9=>h7 b h9 hb
   have kE:EsAt (g :: gb) (e' :: B) (fun b=>S1' b∨S2 b) w':=⟨S1',S2,k1,kB,fun b hb h9=>(k3 b hb).elim (fun h=>h7 b h h9) (fun h=>by have:=(h6.kind h9).1;omega),fun b=>Iff.rfl⟩
   refine ⟨_,kA.app kE fun b hb h9=>?_,fun b hb=>?_⟩
   ·rcases h9 with h9|h9
    ·rcases k3 b h9 with h|h
     ·exact h3 b hb ((h8 b).2 (.inl h))
     ·have:=(h1.kind hb).1;omega
    ·exact h3 b hb ((h8 b).2 (.inr h9))
   ·rcases hb with hb|hb|hb
    ·exact .inl ((h4 b).2 (.inl hb))
    ·exact (k3 b hb).imp (fun h=>(h4 b).2 (.inr ((h8 b).2 (.inl h)))) id
    ·exact .inl ((h4 b).2 (.inr ((h8 b).2 (.inr hb))))
theorem EsAt.into {A B:T} {e:En} {gs:List Nat} {S S1:Nat→Prop} {g:Nat} {w:World} (h:EsAt gs (A++B) S w) (he:EAt g e S1 w) (hd:∀ b,S b→¬ S1 b):∃ ga gb S',gs=ga++gb∧ga.length=A.length∧EsAt (ga++g :: gb) (A++e :: B) S' w∧∀ b,S' b↔S b∨S1 b:=by
 obtain ⟨ga,gb,SA,SB,rfl,h1,h2,h3,h4⟩:=h.split
 have k:EsAt (g :: gb) (e :: B) (fun b=>S1 b∨SB b) w:=⟨S1,SB,he,h2,fun b hb h9=>hd b ((h4 b).2 (.inr h9)) hb,fun b=>Iff.rfl⟩
 refine ⟨ga,gb,_,rfl,h1.len,h1.app k fun b hb h9=>?_,fun b=>?_⟩
 ·exact h9.elim (hd b ((h4 b).2 (.inl hb))) (h3 b hb)
 ·rw [h4]
  constructor
  ·rintro (h|h|h)
   ·exact .inl (.inl h)
   ·exact .inr h
   ·exact .inl (.inr h)
  ·rintro ((h|h)|h)
   ·exact .inl h
   ·exact .inr (.inr h)
   ·exact .inr (.inl h)
def ptrOf:List Nat→T→Int→Value
 | g :: gs,e :: t,i=>if e.nd.id=i then .pointer (some ⟨g,0,none⟩) else ptrOf gs t i
 | _,_,_=>.pointer none
theorem ptrOf_none:∀ {gs:List Nat} {t:T} {i:Int},(∀ e ∈ t,e.nd.id≠i)→ptrOf gs t i=.pointer none
 | [],[],_,_=>rfl
 | [],_ :: _,_,_=>rfl
 | _ :: _,[],_,_=>rfl
 | g :: gs,e :: t,i,h=>by
   unfold ptrOf
   rw [if_neg (h e (.head _))]
   exact ptrOf_none fun m hm=>h m (.tail _ hm)
theorem ptrOf_mid:∀ {ga gb:List Nat} {g:Nat} {A B:T} {e:En} {i:Int},ga.length=A.length→(∀ a ∈ A,a.nd.id≠i)→e.nd.id=i→ptrOf (ga++g :: gb) (A++e :: B) i=.pointer (some ⟨g,0,none⟩)
 | [],_,_,[],_,_,_,_,_,he=>by show (if _ then _ else _)=_;rw [if_pos he]
 | _ :: _,_,_,a :: _,_,_,_,hl,hA,he=>by
   show (if _ then _ else _)=_
   rw [if_neg (hA a (.head _))]
   exact ptrOf_mid (by simpa using hl) (fun x hx=>hA x (.tail _ hx)) he
/-! The tree. -/
def ptrCells (gs:List Nat):List Value:=gs.map fun g=>.pointer (some ⟨g,0,none⟩)
theorem ptrCells_append (a b:List Nat):ptrCells (a++b)=ptrCells a++ptrCells b:=List.map_append
theorem ptrCells_take (l:List Nat) (i:Nat):ptrCells (l.take i)=(ptrCells l).take i:=List.map_take
theorem ptrCells_drop (l:List Nat) (i:Nat):ptrCells (l.drop i)=(ptrCells l).drop i:=List.map_drop
def TrS (p:Nat) (av:Value) (S:Nat→Prop):Nat→Prop:=fun b=>b=p∨av.ownBlock=some b∨S b
structure TIn (p:Nat) (av:Value) (gs:List Nat) (S:Nat→Prop) (t:T) (w:World):Prop where
 box:Blk w p 80 [av]
 row:w.ownsRow 0 76 1 av gs.length (ptrCells gs)
 each:EsAt gs t S w
def TAt (v:Value) (t:T) (S:Nat→Prop) (w:World):Prop:=∃ p av gs S0,v=.pointer (some ⟨p,0,none⟩)∧TIn p av gs S0 t w∧S=TrS p av S0
theorem TIn.at_ {p:Nat} {av:Value} {gs:List Nat} {S:Nat→Prop} {t:T} {w:World} (h:TIn p av gs S t w):TAt (.pointer (some ⟨p,0,none⟩)) t (TrS p av S) w:=⟨p,av,gs,S,rfl,h,rfl⟩
theorem TIn.keep {p:Nat} {av:Value} {gs:List Nat} {S:Nat→Prop} {t:T} {w w':World} (h:TIn p av gs S t w) (hb:∀ b,TrS p av S b→w'.heap[b]?=w.heap[b]?):TIn p av gs S t w' :=
 ⟨(hb p (.inl rfl)).trans h.box,own_keep h.row fun b h1=>hb b (.inr (.inl h1)),h.each.keep fun b h1=>hb b (.inr (.inr h1))⟩
theorem TIn.lt {p:Nat} {av:Value} {gs:List Nat} {S:Nat→Prop} {t:T} {w:World} (h:TIn p av gs S t w) {b:Nat} (hb:TrS p av S b):b<w.heap.size:=by
 rcases hb with rfl|hb|hb
 ·exact h.box.lt
 ·exact (oB h.row hb).2.1
 ·exact (h.each.kind hb).1
theorem TIn.below {p:Nat} {av:Value} {gs:List Nat} {S:Nat→Prop} {t:T} {w w':World} (h:TIn p av gs S t w) (hb:Below w.heap.size w w'):TIn p av gs S t w':=h.keep fun b hb1=>hb.block b (h.lt hb1)
def tobj:Ob.Obj T where
 At:=TAt
 keep:=by
  rintro v s S w w' ⟨p,av,gs,S0,rfl,h,rfl⟩ _ hb
  exact ⟨p,av,gs,S0,rfl,h.keep hb,rfl⟩
 lt:=by
  rintro v s S w ⟨p,av,gs,S0,rfl,h,rfl⟩ b hb
  exact h.lt hb
 ptr:=by
  rintro v s S w ⟨p,av,gs,S0,rfl,h,rfl⟩
  exact ⟨_,rfl⟩
theorem TIn.apart {p:Nat} {av:Value} {gs:List Nat} {S:Nat→Prop} {t:T} {w:World} (h:TIn p av gs S t w):¬ S p∧(∀ b,av.ownBlock=some b→¬ S b∧b≠p):=by
 have key:∀ {b:Nat} {ty:TypeId} {cs:List Value},Blk w b ty cs→S b→ty=92∨ty=5∨ty=116:=by
  intro b ty cs h1 h2
  obtain ⟨_,t2,cs2,h3,h4⟩:=h.each.kind h2
  have e:ty=t2:=by
   unfold Blk at h1 h3
   rw [h1] at h3
   injection h3 with h3
   injection h3
  rw [e];exact h4
 refine ⟨fun hS=>by have:=key h.box hS;revert this;decide,fun b hb=>⟨fun hS=>?_,?_⟩⟩
 ·obtain ⟨_,_,cs,h1⟩:=oB h.row hb
  have:=key h1 hS
  revert this;decide
 ·obtain ⟨_,_,cs,h1⟩:=oB h.row hb
  exact h1.ne_ h.box (by decide)
theorem TIn.turn {p:Nat} {av:Value} {gs:List Nat} {S:Nat→Prop} {A B:T} {e:En} {w:World} (h:TIn p av gs S (A++e :: B) w):∃ ga g gb S1,gs=ga++g :: gb∧ga.length=A.length∧EAt g e S1 w∧(∀ b,S1 b→S b) ∧
    (∀ w' e' S1',EAt g e' S1' w'→Mod w w' S1→(∀ b,S1' b→S1 b∨w.heap.size≤b)→∃ S',TIn p av gs S' (A++e' :: B) w'∧Mod w w' (TrS p av S)∧∀ b,TrS p av S' b→TrS p av S b∨w.heap.size≤b):=by
 obtain ⟨ga,g,gb,S1,h1,h2,h3,h4,h5⟩:=h.each.mid
 refine ⟨ga,g,gb,S1,h1,h2,h3,h4,fun w' e' S1' k1 k2 k3=>?_⟩
 obtain ⟨S',h6,h7⟩:=h5 w' e' S1' k1 k2 k3
 have hap:=h.apart
 refine ⟨S',⟨(k2.block p h.box.lt fun h9=>hap.1 (h4 _ h9)).trans h.box,own_keep h.row fun b hb=>k2.block b (oB h.row hb).2.1 fun h9=>(hap.2 b hb).1 (h4 _ h9),h6⟩,k2.mono fun b _ hb=>.inr (.inr (h4 b hb)),fun b hb=>?_⟩
 rcases hb with rfl|hb|hb
 ·exact .inl (.inl rfl)
 ·exact .inl (.inr (.inl hb))
 ·exact (h7 b hb).imp (fun h=>.inr (.inr h)) id
end Tm
end Go.Proofs.YtjoedamiilgajaaGreat
namespace Go.Proofs.YtjoedamiilgajaaGreat
open Go.RowKit Rc
def RdL (w:World) (A:Option Addr) (L:List (List UInt8)):Prop :=
 0<L.length→∃ b off,A=some ⟨b,off,none⟩∧b<w.heap.size∧∀ j x,L[j]?=some x→∃ A' c,w.cell? ⟨b,off+j,none⟩=some (.slice A' x.length c)∧x.length≤c∧Rd w A' x
theorem RdL.nil (w:World) (A:Option Addr):RdL w A []:=fun h=>absurd h (by simp)
def LOwn (B:Nat) (O:Option Addr→List UInt8→Prop) (x:Value) (L:List (List UInt8)) (S:Nat→Prop) (w:World):Prop :=
 ∃ xs:List Value,w.ownsRow B 39 1 x L.length xs∧(∀ b,x.ownBlock=some b→S b)∧∀ (j:Nat) (y:List UInt8),L[j]?=some y→∃ A c,xs[j]?=some (Value.slice A y.length c)∧y.length≤c∧((Rd w A y∧∀ b,A.map (·.block)=some b→S b∧x.ownBlock≠some b)∨O A y)
def noOld:Option Addr→List UInt8→Prop:=fun _ _=>False
theorem LOwn.mono {B B':Nat} {O O':Option Addr→List UInt8→Prop} {x:Value} {L:List (List UInt8)} {S S':Nat→Prop} {w:World} (h:LOwn B O x L S w) (hB:B'≤B) (hO:∀ A y,O A y→O' A y) (hS:∀ b,S b→S' b):LOwn B' O' x L S' w:=by
 obtain ⟨xs,h1,h2,h3⟩:=h
 refine ⟨xs,⟨h1.1,?_⟩,fun b hb=>hS b (h2 b hb),fun j y hj=>?_⟩
 ·rcases h1.2 with h|⟨g,cap,cur,h4,h5,h6⟩
  ·exact .inl h
  ·exact .inr ⟨g,cap,cur,h4,by omega,h6⟩
 ·obtain ⟨A,c,h4,h5,h6⟩:=h3 j y hj
  refine ⟨A,c,h4,h5,h6.imp (fun h=>⟨h.1,fun b hb=>⟨hS b (h.2 b hb).1,(h.2 b hb).2⟩⟩) (hO A y)⟩
theorem LOwn.keep {B:Nat} {O:Option Addr→List UInt8→Prop} {x:Value} {L:List (List UInt8)} {S:Nat→Prop} {w w':World} (h:LOwn B O x L S w) (hs:w.heap.size≤w'.heap.size) (hb:∀ b,S b→w'.heap[b]?=w.heap[b]?):LOwn B O x L S w':=by
 obtain ⟨xs,h1,h2,h3⟩:=h
 refine ⟨xs,⟨h1.1,?_⟩,h2,fun j y hj=>?_⟩
 ·rcases h1.2 with h|⟨g,cap,cur,h4,h5,h6,h7⟩
  ·exact .inl h
  ·subst h4
   exact .inr ⟨g,cap,cur,rfl,h5,(hb g (h2 g rfl)).trans h6,h7⟩
 ·obtain ⟨A,c,h4,h5,h6⟩:=h3 j y hj
  refine ⟨A,c,h4,h5,h6.imp (fun h=>⟨h.1.keep (fun p hp hA=>by unfold World.cell?;rw [hb p.block (h.2 _ hA).1]) hs,h.2⟩) id⟩
theorem LOwn.nil (B:Nat) (O:Option Addr→List UInt8→Prop) (S:Nat→Prop) (w:World):LOwn B O (.slice none 0 0) [] S w:=⟨[],⟨rfl,.inl ⟨rfl,rfl⟩⟩,(fun b hb=>by simp [Value.ownBlock] at hb),(fun j y hj=>by simp at hj)⟩
theorem LOwn.rd {B:Nat} {O:Option Addr→List UInt8→Prop} {x:Value} {L:List (List UInt8)} {S:Nat→Prop} {w:World} (h:LOwn B O x L S w) (hO:∀ A y,O A y→Rd w A y):∃ A c,x=.slice A L.length c∧L.length≤c∧RdL w A L∧(∀ b,A.map (·.block)=some b→S b):=by
 obtain ⟨xs,h1,h2,h3⟩:=h
 rcases h1.2 with ⟨rfl,h0⟩|⟨g,cap,cur,rfl,hb,hg,hn,hm,hsz,hx⟩
 ·exact ⟨none,0,by rw [h0],by omega,fun hp=>by omega,fun b hb=>by simp at hb⟩
 ·refine ⟨_,cap,rfl,hn,fun _=>⟨g,0,rfl,?_,fun j y hj=>?_⟩,fun b hb=>h2 b (by simpa [Value.ownBlock] using hb)⟩
  ·exact (Array.getElem?_eq_some_iff.1 hg).1
  ·obtain ⟨A,c,h4,h5,h6⟩:=h3 j y hj
   refine ⟨A,c,?_,h5,h6.elim (·.1) (hO A y)⟩
   rw [cell_of_row w g (0+j) cur _ _ hg,Nat.zero_add]
   rw [← hx,List.getElem?_take] at h4
   split at h4
   ·simpa using h4
   ·cases h4
section
variable {F:Nat→Rc.Fact} {cons:List (Nat × Nat)} {E:Nat→(Nat→Value)→Value→Prop} {V:Nat→Value} {S:Nat→Nat→Prop} {j:Nat} {o:Oper} {b:Act} {w:World}
end
section
variable {F:Nat→Rc.Fact} {cons:List (Nat × Nat)} {E:Nat→(Nat→Value)→Value→Prop} {V:Nat→Value} {S:Nat→Nat→Prop} {j:Nat} {o:Oper} {b:Act} {w:World}
end
end Go.Proofs.YtjoedamiilgajaaGreat
namespace Go.Proofs.YtjoedamiilgajaaGreat
open Go.RowKit Rc
open Tr (Nm En T)
namespace Rf
def ndCell (n:Nd):List Value:=[.int .i64 n.id,.int .i64 n.kind,.int .i64 n.links,.int .i64 n.size,.int .u64 (n.till:Nat),.bool n.shut]
def ndCells (t:T):List Value:=t.flatMap fun e=>ndCell e.nd
def flCell (x:Int × Nm):List Value:=[.int .i64 x.1,.string (strOf x.2.1),.int .i64 x.2.2]
def flCells (l:List (Int × Nm)):List Value:=l.flatMap flCell
theorem row_get {α:Type} (f:α→List Value) (k:Nat) (hk:∀ a,(f a).length=k):∀ (l:List α) (j c:Nat) (a:α),l[j]?=some a→c<k→(l.flatMap f)[j*k+c]?=(f a)[c]?
 | b :: l,0,c,a,h,hc=>by
   obtain rfl:b=a:=by simpa using h
   rw [List.flatMap_cons,Nat.zero_mul,Nat.zero_add,List.getElem?_append_left (by rw [hk];exact hc)]
 | b :: l,j+1,c,a,h,hc=>by
   rw [List.flatMap_cons,Nat.add_mul,Nat.one_mul,List.getElem?_append_right (by rw [hk];omega),hk]
   rw [show j*k+k+c-k=j*k+c from by omega]
   exact row_get f k hk l j c a (by simpa using h) hc
theorem nd_get {t:T} {j:Nat} {e:En} (h:t[j]?=some e) (c:Nat) (hc:c<6):(ndCells t)[j*6+c]?=(ndCell e.nd)[c]?:=row_get (fun e:En=>ndCell e.nd) 6 (fun _=>rfl) t j c e h hc
theorem fl_get {l:List (Int × Nm)} {j:Nat} {x:Int × Nm} (h:l[j]?=some x) (c:Nat) (hc:c<3):(flCells l)[j*3+c]?=(flCell x)[c]?:=row_get flCell 3 (fun _=>rfl) l j c x h hc
structure RIn (p:Nat) (nv dv ev:Value) (D:Nat→Prop) (t:T) (w:World):Prop where
 box:Blk w p 84 [nv,dv,ev]
 nodes:w.ownsRow 0 59 6 nv t.length (ndCells t)
 ents:w.ownsRow 0 110 3 ev (Tr.flat t).length (flCells (Tr.flat t))
 data:LOwn 0 noOld dv (t.map (·.data)) D w
def RS (p:Nat) (nv ev:Value) (D:Nat→Prop):Nat→Prop:=fun b=>b=p∨nv.ownBlock=some b∨ev.ownBlock=some b∨D b
theorem RIn.keep {p:Nat} {nv dv ev:Value} {D:Nat→Prop} {t:T} {w w':World} (h:RIn p nv dv ev D t w) (hs:w.heap.size≤w'.heap.size) (hb:∀ b,RS p nv ev D b→w'.heap[b]?=w.heap[b]?):RIn p nv dv ev D t w' :=
 ⟨(hb p (.inl rfl)).trans h.box,Tm.own_keep h.nodes fun b h1=>hb b (.inr (.inl h1)),Tm.own_keep h.ents fun b h1=>hb b (.inr (.inr (.inl h1))),h.data.keep hs fun b h1=>hb b (.inr (.inr (.inr h1)))⟩
def idx (t:T) (i:Int):Int:=match t.findIdx? (fun e=>e.nd.id==i) with|some k=>(k:Int)|none=>-1
theorem idx_at {t:T} {i:Int} {j:Nat} {e:En} (h:t[j]?=some e) (he:e.nd.id=i) (hn:∀ e ∈ t.take j,e.nd.id≠i):idx t i=(j:Int):=by
 have:t.findIdx? (fun e=>e.nd.id==i)=some j:=by
  have hj:=(List.getElem?_eq_some_iff.1 h)
  obtain ⟨hlt,hje⟩:=hj
  rw [List.findIdx?_eq_some_iff_getElem]
  refine ⟨hlt,by rw [hje];simp [he],fun k hk=>?_⟩
  have:=hn t[k] (by rw [List.mem_take_iff_getElem];exact ⟨k,by omega,rfl⟩)
  simpa using this
 unfold idx
 rw [this]
theorem idx_no {t:T} {i:Int} (hn:∀ e ∈ t,e.nd.id≠i):idx t i=-1:=by
 have:t.findIdx? (fun e=>e.nd.id==i)=none:=by
  rw [List.findIdx?_eq_none_iff]
  intro e he
  have:=hn e he
  simpa using this
 unfold idx
 rw [this]
set_option maxRecDepth 100000 in
theorem at_any {p:Nat} {nv dv ev:Value} {D:Nat→Prop} {t:T} {w:World} (h:RIn p nv dv ev D t w) (i:Int) (hlt:t.length≤1000000) :
    Calls Tryz.prog 55 #[.pointer (some ⟨p,0,none⟩),.int .i64 i] w fun e w'=>e=.returned (.int .i64 (idx t i))∧w'=w:=by
 have c0:w.cell? ⟨p,0,none⟩=some nv:=h.box.cell 0
 obtain ⟨A,c,rfl,hc,hA⟩:=Tm.oF h.nodes
 have HA:=Lib.hid hA
 clear h hA
 go_enter Tryz.func55,Tryz.ntmps55
 go_wp2_with fail
 go_loopw [5] (fun t5 wr=>∃ j:Nat,t5=.int .i64 j∧j≤t.length∧Hid (∀ e ∈ t.take j,e.nd.id≠i)∧wr=w) (fun t5 _=>t.length-(match t5 with|.int _ k=>k.toNat|_=>0))
 case atStart=>exact ⟨0,rfl,Nat.zero_le _,fun e he=>by simp at he,rfl⟩
 case round =>
  obtain ⟨j,rfl,hj,HN,rfl⟩:=hrel
  by_cases hk:j<t.length
  ·obtain ⟨e,he⟩:∃ e,t[j]?=some e:=⟨_,List.getElem?_eq_getElem hk⟩
   obtain ⟨g,rfl,_,_,_,hcell⟩:=HA.out (by omega)
   have d0:wr.cell? ⟨g,j*6,none⟩=some (.int .i64 e.nd.id):=hcell _ _ (nd_get he 0 (by omega))
   have hlt2:(j:Int)<(t.length:Int):=by omega
   have HE:=Lib.hid he
   obtain ⟨ei,hei⟩:∃ ei,ei=e.nd.id:=⟨_,rfl⟩
   rw [← hei] at d0
   have HEI:=Lib.hid hei
   clear he hcell hei
   by_cases hi:ei=i
   ·subst hi
    have HX:Hid (idx t ei=(j:Int)):=idx_at HE.out HEI.out.symm HN.out
    go_wp2_with fail
    go_ret
    exact ⟨by rw [HX.out];rfl,rfl⟩
   ·have hib:(ei==i)=false:=by rw [beq_eq_false_iff_ne];exact hi
    have HN1:Hid (∀ e ∈ t.take (j+1),e.nd.id≠i):=fun m hm=>by
     rw [List.take_succ_eq_append_getElem hk,List.mem_append] at hm
     rcases hm with hm|hm
     ·exact HN.out m hm
     ·simp only [List.mem_singleton] at hm
      rw [hm,(List.getElem?_eq_some_iff.1 HE.out).2,← HEI.out];exact hi
    clear hi
    go_wp2_with fail
    go_roundw
    case rel=>exact ⟨j+1,by go_num,by omega,HN1.out,by first|rfl|trivial⟩
    case measure=>simp;omega
  ·obtain rfl:j=t.length:=by omega
   have HX:Hid (idx t i=-1):=idx_no fun e he=>HN.out e (by rw [List.take_length];exact he)
   go_wp2_with fail
   go_ret
   exact ⟨by rw [HX.out];rfl,rfl⟩
end Rf
end Go.Proofs.YtjoedamiilgajaaGreat
namespace Go.Proofs.YtjoedamiilgajaaGreat
open Go.RowKit Rc
open Tr (Nm En T)
namespace Tm
set_option maxRecDepth 100000 in
theorem fresh_any (w:World) (id kind:Int) :
    Calls Tryz.prog 45 #[.int .i64 id,.int .i64 kind] w fun e w'=>∃ g,e=.returned (.pointer (some ⟨g,0,none⟩))∧EIn g (.slice none 0 0) (.slice none 0 0) (Tr.fresh id kind) w'∧g=w.heap.size∧Below w.heap.size w w':=by
 obtain ⟨b,hb⟩:∃ b,b=(kind==2):=⟨_,rfl⟩
 have HB:=Lib.hid hb
 have h2:(kind==2)=b:=hb.symm
 clear hb
 go_enter Tryz.func45,Tryz.ntmps45
 go_wp2_with fail
 go_ret
 refine ⟨_,rfl,⟨?_,⟨rfl,.inl ⟨rfl,rfl⟩⟩,NOwn.nil _ _⟩,rfl,bN w _⟩
 have h:=Blk.new w 92 (enCells (Tr.fresh id kind) (.slice none 0 0) (.slice none 0 0))
 unfold enCells Tr.fresh at h ⊢
 rw [← HB.out] at h ⊢
 exact h
theorem ptrOf_drop {gs:List Nat} {t:T} {i:Int} {j:Nat} (hl:gs.length=t.length) (hn:∀ e ∈ t.take j,e.nd.id≠i):ptrOf gs t i=ptrOf (gs.drop j) (t.drop j) i:=by
 induction j generalizing gs t with
 | zero=>rfl
 | succ j ih =>
   cases gs with
   | nil=>cases t with
     | nil=>rfl
     | cons e t=>simp at hl
   | cons g gs=>cases t with
     | nil=>simp at hl
     | cons e t =>
       rw [List.take_succ_cons] at hn
       rw [List.drop_succ_cons,List.drop_succ_cons,← ih (by simpa using hl) fun m hm=>hn m (.tail _ hm)]
       show (if _ then _ else _)=_
       rw [if_neg (hn e (.head _))]
theorem EsAt.get:∀ {gs:List Nat} {t:T} {S:Nat→Prop} {w:World},EsAt gs t S w→∀ {j:Nat} {e:En},t[j]?=some e→∃ g S1,gs[j]?=some g∧EAt g e S1 w∧∀ b,S1 b→S b
 | [],[],_,_,_,_,_,h=>by simp at h
 | g :: gs,e :: t,_,_,⟨S1,S2,h1,h2,h3,h4⟩,0,e',h=>by
   obtain rfl:e=e':=by simpa using h
   exact ⟨g,S1,rfl,h1,fun b hb=>(h4 b).2 (.inl hb)⟩
 | g :: gs,e :: t,_,_,⟨S1,S2,h1,h2,h3,h4⟩,j+1,e',h=>by
   obtain ⟨g',S',k1,k2,k3⟩:=EsAt.get h2 (j:=j) (by simpa using h)
   exact ⟨g',S',by simpa using k1,k2,fun b hb=>(h4 b).2 (.inr (k3 b hb))⟩
 | [],_ :: _,_,_,h,_,_,_=>h.elim
 | _ :: _,[],_,_,h,_,_,_=>h.elim
set_option maxRecDepth 100000 in
theorem find_any {p:Nat} {av:Value} {gs:List Nat} {S:Nat→Prop} {t:T} {w:World} (h:TIn p av gs S t w) (i:Int) (hlt:t.length≤1000000000) :
    Calls Tryz.prog 89 #[.pointer (some ⟨p,0,none⟩),.int .i64 i] w fun e w'=>e=.returned (ptrOf gs t i)∧w'=w:=by
 have H:=Lib.hid h
 have c0:w.cell? ⟨p,0,none⟩=some av:=h.box.cell 0
 have hl:=h.each.len
 obtain ⟨A,c,rfl,hc,hA⟩:=oF h.row
 have HA:=Lib.hid hA
 have HL:=Lib.hid hl
 have HLT:=Lib.hid hlt
 have hg9:gs.length≤1000000000:=by omega
 clear h hA hl hlt
 go_enter Tryz.func89,Tryz.ntmps89
 go_wp2_with fail
 go_loopw [6,12] (fun t6 t12 wr=>∃ (j:Nat) (v6:Value),t6=v6∧t12=.int .i64 j∧j≤gs.length∧Hid (∀ e ∈ t.take j,e.nd.id≠i)∧wr=w) (fun _ t12 _=>gs.length-(match t12 with|.int _ k=>k.toNat|_=>0))
 case atStart=>exact ⟨0,_,rfl,rfl,Nat.zero_le _,fun e he=>by simp at he,rfl⟩
 case round =>
  obtain ⟨j,v6,rfl,rfl,hj,HN,rfl⟩:=hrel
  by_cases hk:j<gs.length
  ·obtain ⟨e,he⟩:∃ e,t[j]?=some e:=⟨_,List.getElem?_eq_getElem (by rw [← HL.out];exact hk)⟩
   obtain ⟨g,S1,hg,hE,_⟩:=H.out.each.get he
   obtain ⟨q,rfl,_,_,_,hcell⟩:=HA.out (by omega)
   have c1:wr.cell? ⟨q,j,none⟩=some (.pointer (some ⟨g,0,none⟩)):=hcell j _ (by simp [ptrCells,hg])
   have c2:=hE.cells.1
   have hlt2:(j:Int)<(gs.length:Int):=by omega
   have HE:=Lib.hid he
   have HG:=Lib.hid hg
   clear he hg hE hcell
   by_cases hi:e.nd.id=i
   ·have HP:Hid (ptrOf gs t i=.pointer (some ⟨g,0,none⟩)):=by
     show _=_
     rw [ptrOf_drop HL.out HN.out,List.drop_eq_getElem_cons hk,List.drop_eq_getElem_cons (show j<t.length by have:=HL.out;omega),(List.getElem?_eq_some_iff.1 HG.out).2,(List.getElem?_eq_some_iff.1 HE.out).2]
     show (if _ then _ else _)=_
     rw [if_pos hi]
    have hb:(e.nd.id==i)=true:=by simpa using hi
    clear hi
    go_wp2_with fail
    go_ret
    exact ⟨by rw [HP.out];rfl,rfl⟩
   ·have HN1:Hid (∀ e ∈ t.take (j+1),e.nd.id≠i):=fun m hm=>by
     rw [List.take_succ_eq_append_getElem (show j<t.length by have:=HL.out;omega),List.mem_append] at hm
     rcases hm with hm|hm
     ·exact HN.out m hm
     ·simp only [List.mem_singleton] at hm
      rw [hm,(List.getElem?_eq_some_iff.1 HE.out).2];exact hi
    have hb:(e.nd.id==i)=false:=by simpa using hi
    clear hi
    go_wp2_with fail
    go_roundw
    case rel=>exact ⟨j+1,_,rfl,by go_num,by omega,HN1.out,by first|rfl|trivial⟩
    case measure=>simp;omega
  ·obtain rfl:j=gs.length:=by omega
   have HP:Hid (ptrOf gs t i=.pointer none):=ptrOf_none fun m hm=>HN.out m (by rw [show gs.length=t.length from HL.out,List.take_length];exact hm)
   go_wp2_with fail
   go_ret
   exact ⟨by rw [HP.out];rfl,rfl⟩
theorem get_split {l:List Nm} {x:Bs} {j:Nat} {n:Nm} (hn:l[j]?=some n) (h:∀ m ∈ l.take j,m.1≠x) (he:n.1=x):Tr.get l x=some n.2:=by
 induction j generalizing l with
 | zero =>
   cases l with
   | nil=>simp at hn
   | cons m l =>
     obtain rfl:m=n:=by simpa using hn
     rw [Tr.get_cons,if_pos he]
 | succ j ih =>
   cases l with
   | nil=>simp at hn
   | cons m l =>
     rw [List.take_succ_cons] at h
     rw [Tr.get_cons,if_neg (h m (.head _))]
     exact ih (by simpa using hn) fun y hy=>h y (.tail _ hy)
def told (o:Option Int):Value:=.tuple #[.int .i64 (o.getD 0),.bool o.isSome]
set_option maxRecDepth 100000 in
theorem id_any {g:Nat} {e:En} {S:Nat→Prop} {w:World} (h:EAt g e S w) (x:Bs) (hlt:e.names.length≤1000000000) :
    Calls Tryz.prog 105 #[.pointer (some ⟨g,0,none⟩),.string (strOf x)] w fun r w'=>r=.returned (told (Tr.get e.names x))∧Below w.heap.size w w':=by
 obtain ⟨dv,nv,h,rfl⟩:=h
 have c0:w.cell? ⟨g,7,none⟩=some nv:=h.box.cell 7
 obtain ⟨A,c,rfl,hc,hA⟩:=h.names.form
 have HA:=Lib.hid hA
 clear h hA
 obtain ⟨l,hl⟩:∃ l,l=e.names:=⟨_,rfl⟩
 rw [← hl] at HA c0 hlt hc ⊢
 clear hl
 go_enter Tryz.func105,Tryz.ntmps105
 go_wp2_with fail
 go_loopw [7,13] (fun t7 t13 wr=>∃ (j:Nat) (v7:Value),t7=v7∧t13=.int .i64 j∧j≤l.length∧Hid (∀ m ∈ l.take j,m.1≠x)∧Hid (Below w.heap.size w wr)) (fun _ t13 _=>l.length-(match t13 with|.int _ k=>k.toNat|_=>0))
 case atStart=>exact ⟨0,_,rfl,rfl,Nat.zero_le _,fun e he=>by simp at he,Below.refl _ _⟩
 case round =>
  obtain ⟨j,v7,rfl,rfl,hj,HN,HB⟩:=hrel
  by_cases hk:j<l.length
  ·obtain ⟨n,hn⟩:∃ n,l[j]?=some n:=⟨_,List.getElem?_eq_getElem hk⟩
   obtain ⟨q,rfl,_,_,hql,hcell⟩:=HA.out (by omega)
   have c1:wr.cell? ⟨q,j*2,none⟩=some (.string (strOf n.1)):=(HB.out.cell (p:=⟨q,j*2,none⟩) hql).trans (hcell j n hn).1
   have c2:wr.cell? ⟨q,j*2+1,none⟩=some (.int .i64 n.2):=(HB.out.cell (p:=⟨q,j*2+1,none⟩) hql).trans (hcell j n hn).2
   have hlt2:(j:Int)<(l.length:Int):=by omega
   have HN2:=Lib.hid hn
   have HB2:Hid (Below w.heap.size w (wr.alloc (.cells #[.string (strOf n.1),.int .i64 n.2] 116))):=HB.out.alloc HB.out.size _
   clear hn hcell hql
   by_cases hi:n.1=x
   ·have HP:Hid (Tr.get l x=some n.2):=get_split HN2.out HN.out hi
    have hb:((strOf n.1).toList==(strOf x).toList)=true:=by rw [strOf_beq];exact decide_eq_true hi
    clear hi
    go_wp2_with fail
    go_ret2
    exact ⟨by rw [HP.out];rfl,HB2.out⟩
   ·have HN1:Hid (∀ m ∈ l.take (j+1),m.1≠x):=fun m hm=>by
     rw [List.take_succ_eq_append_getElem hk,List.mem_append] at hm
     rcases hm with hm|hm
     ·exact HN.out m hm
     ·simp only [List.mem_singleton] at hm
      rw [hm,(List.getElem?_eq_some_iff.1 HN2.out).2];exact hi
    have hb:((strOf n.1).toList==(strOf x).toList)=false:=by rw [strOf_beq];exact decide_eq_false hi
    clear hi
    go_wp2_with fail
    go_roundw
    case rel=>exact ⟨j+1,_,rfl,by go_num,by omega,HN1.out,HB2.out⟩
    case measure=>simp;omega
  ·obtain rfl:j=l.length:=by omega
   have HP:Hid (Tr.get l x=none):=Tr.get_none.2 fun m hm=>HN.out m (by rw [List.take_length];exact hm)
   go_wp2_with fail
   go_ret2
   exact ⟨by rw [HP.out];rfl,HB.out⟩
set_option maxRecDepth 100000 in
theorem has_any {g:Nat} {e:En} {S:Nat→Prop} {w:World} (h:EAt g e S w) (x:Bs) (hlt:e.names.length≤1000000000) :
    Calls Tryz.prog 48 #[.pointer (some ⟨g,0,none⟩),.string (strOf x)] w fun r w'=>r=.returned (.bool (Tr.get e.names x).isSome)∧Below w.heap.size w w':=by
 have HI:=Lib.hid (id_any h x hlt)
 obtain ⟨o,ho⟩:∃ o,o=Tr.get e.names x:=⟨_,rfl⟩
 rw [← ho] at HI ⊢
 clear ho h hlt
 go_enter Tryz.func48,Tryz.ntmps48
 go_wp2_with fail
 refine HI.out.mono ?_
 rintro r w1 ⟨rfl,hb⟩
 have HB:=Lib.hid hb
 clear hb
 unfold told
 go_wp2_with fail
 go_ret
 exact ⟨rfl,HB.out⟩
end Tm
end Go.Proofs.YtjoedamiilgajaaGreat
namespace Go.Proofs.YtjoedamiilgajaaGreat
open Go.RowKit
namespace Tr
variable {t:T}
theorem Good.ris (h:Good t):Ris t:=h.rise
theorem find_isSome {i:Int}:(find t i).isSome=true↔∃ e ∈ t,e.nd.id=i:=by
 cases hf:find t i with
 | none =>
   simp only [Option.isSome_none,Bool.false_eq_true,false_iff]
   rintro ⟨e,he,h⟩
   exact find_none.1 hf e he h
 | some e =>
   obtain ⟨h1,h2⟩:=find_some hf
   simp only [Option.isSome_some,true_iff]
   exact ⟨e,h1,h2⟩
theorem kids_of {i:Int} {e:En} (h:find t i=some e):kids t i=e.names:=by unfold kids;rw [h];rfl
theorem ndOf_of {i:Int} {e:En} (h:find t i=some e):ndOf t i=e.nd:=by unfold ndOf;rw [h];rfl
theorem kO {i:Int} {e:En} (h:find t i=some e):kindOf t i=e.nd.kind:=by unfold kindOf;rw [ndOf_of h]
theorem dataOf_of {i:Int} {e:En} (h:find t i=some e):dataOf t i=e.data:=by unfold dataOf;rw [h];rfl
theorem kindOf_no {i:Int} (h:find t i=none):kindOf t i=0:=by unfold kindOf ndOf;rw [h];rfl
theorem kids_no {i:Int} (h:find t i=none):kids t i=[]:=by unfold kids;rw [h];rfl
theorem Good.zero (h:Good t):∃ r,find t 0=some r∧r.nd.kind=2∧r.nd.id=0:=by
 obtain ⟨r,rest,rfl,h1,h2⟩:=h.root
 exact ⟨r,by rw [find_cons,if_pos h1],h2,h1⟩
theorem Good.kind (h:Good t) {e:En} (he:e ∈ t):e.nd.kind=1∨e.nd.kind=2:=by
 have:=(h.each e he).nd
 exact this.2.2.2.2.2.2.2.imp id fun k=>k.1
theorem Good.has (h:Good t) {i:Int} (hk:kindOf t i=2):∃ e,find t i=some e:=by
 cases hf:find t i with
 | none=>rw [kindOf_no hf] at hk;omega
 | some e=>exact ⟨e,rfl⟩
theorem kids_mem {i:Int} {n:Nm} (h:n ∈ kids t i):∃ e,find t i=some e∧n ∈ e.names:=by
 cases hf:find t i with
 | none=>rw [kids_no hf] at h;cases h
 | some e=>rw [kids_of hf] at h;exact ⟨e,rfl,h⟩
theorem Good.rises (h:Good t) (i:Int):Rise (kids t i):=by
 cases hf:find t i with
 | none=>rw [kids_no hf];exact List.Pairwise.nil
 | some e=>rw [kids_of hf];exact (h.each e (find_some hf).1).rise
theorem Good.leads_to (h:Good t) {i:Int} {n:Nm} (hn:n ∈ kids t i):n.2≠0∧(find t n.2).isSome=true:=by
 obtain ⟨e,he,h1⟩:=kids_mem hn
 exact h.leads e (find_some he).1 n h1
theorem Good.file_kids (h:Good t) {i:Int} (hk:kindOf t i≠2):kids t i=[]:=by
 cases hf:find t i with
 | none=>exact kids_no hf
 | some e =>
   rw [kids_of hf]
   rw [kO hf] at hk
   refine (h.each e (find_some hf).1).file ?_
   rcases h.kind (find_some hf).1 with h1|h1
   ·exact h1
   ·exact absurd h1 hk
/-! How many names there are. -/
theorem flat_mem {x:Int × Nm}:x ∈ flat t↔∃ e ∈ t,e.nd.id=x.1∧x.2 ∈ e.names:=by
 unfold flat
 rw [List.mem_flatMap]
 constructor
 ·rintro ⟨e,he,hx⟩
  obtain ⟨n,hn,rfl⟩:=List.mem_map.1 hx
  exact ⟨e,he,rfl,hn⟩
 ·rintro ⟨e,he,h1,h2⟩
  exact ⟨e,he,List.mem_map.2 ⟨x.2,h2,by rw [h1]⟩⟩
theorem countP_sum {α:Type} (f:α→Int) (I:List Int):∀ L:List α,(∀ x ∈ L,f x ∈ I)→L.length≤(I.map fun i=>L.countP fun x=>f x==i).sum
 | [],_=>Nat.zero_le _
 | x :: L,h=>by
   have ih:=countP_sum f I L fun y hy=>h y (.tail _ hy)
   have hx:=h x (.head _)
   have key:∀ J:List Int,(J.map fun i=>L.countP fun x=>f x==i).sum≤(J.map fun i=>(x :: L).countP fun x=>f x==i).sum∧(f x ∈ J→(J.map fun i=>L.countP fun x=>f x==i).sum+1≤(J.map fun i=>(x :: L).countP fun x=>f x==i).sum):=by
    intro J
    induction J with
    | nil=>exact ⟨Nat.le_refl _,fun h=>by cases h⟩
    | cons j J ih2 =>
      simp only [List.map_cons,List.sum_cons]
      have h1:List.countP (fun x=>f x==j) L≤List.countP (fun x=>f x==j) (x :: L):=by rw [List.countP_cons];omega
      refine ⟨by have:=ih2.1;omega,fun hm=>?_⟩
      by_cases e:f x=j
      ·have h2:List.countP (fun x=>f x==j) (x :: L)=List.countP (fun x=>f x==j) L+1:=by rw [List.countP_cons,if_pos (by simpa using e)]
       have:=ih2.1
       omega
      ·rcases List.mem_cons.1 hm with h3|h3
       ·exact absurd h3 e
       ·have:=ih2.2 h3
        omega
   have:=(key I).2 hx
   simp only [List.length_cons]
   omega
theorem Good.flat_le (h:Good t):(flat t).length≤4194240:=by
 have h1:=countP_sum (fun x:Int × Nm=>x.2.2) (t.map fun e=>e.nd.id) (flat t) fun x hx=>by
  obtain ⟨e,he,_,h2⟩:=flat_mem.1 hx
  obtain ⟨_,h3⟩:=h.leads e he x.2 h2
  obtain ⟨e',h4,h5⟩:=find_isSome.1 h3
  exact List.mem_map.2 ⟨e',h4,h5⟩
 have h2:((t.map fun e=>e.nd.id).map fun i=>(flat t).countP fun x=>x.2.2==i).sum≤t.length*65535:=by
  have key:∀ u:T,(∀ e ∈ u,e ∈ t)→((u.map fun e=>e.nd.id).map fun i=>(flat t).countP fun x=>x.2.2==i).sum≤u.length*65535:=by
   intro u
   induction u with
   | nil=>intro _;simp
   | cons e u ih =>
     intro hu
     have h3:=ih fun m hm=>hu m (.tail _ hm)
     have he:=hu e (.head _)
     have h4:=h.linked e he
     have h5:=(h.each e he).nd.2.2.2.1
     unfold count at h4
     have h6:(flat t).countP (fun x=>x.2.2==e.nd.id)≤65535:=by
      split at h4 <;> omega
     simp only [List.map_cons,List.sum_cons,List.length_cons] at h3 ⊢
     omega
  exact key t fun e he=>he
 have:=h.few
 omega
theorem names_le_flat {e:En} (he:e ∈ t):e.names.length≤(flat t).length:=by
 obtain ⟨A,B,rfl⟩:=List.append_of_mem he
 simp only [flat,List.flatMap_append,List.flatMap_cons,List.length_append,List.length_map]
 omega
theorem Good.names_le (h:Good t) {e:En} (he:e ∈ t):e.names.length≤4194240:=Nat.le_trans (names_le_flat he) h.flat_le
/-! Looking. -/
theorem lookF_cons (i:Int) (x:Bs) (p:List Bs):lF t i (x :: p)=if kindOf t i≠2 then (0,23) else match get (kids t i) x with|none=>(0,20)|some k=>lF t k p:=rfl
theorem lookF_is {i:Int} (hi:(find t i).isSome=true) (h:Good t):∀ {p:List Bs},(lF t i p).2=0→(find t (lF t i p).1).isSome=true
 | [],_=>hi
 | x :: p,h1=>by
   rw [lookF_cons] at h1 ⊢
   split at h1
   ·simp at h1
   ·rename_i hk
    rw [if_neg hk]
    cases hg:get (kids t i) x with
    | none=>rw [hg] at h1;simp at h1
    | some k =>
      rw [hg] at h1
      exact lookF_is (h.leads_to (get_mem hg)).2 h h1
theorem Good.look_is (h:Good t) {p:List Bs} (h1:(lF t 0 p).2=0):(find t (lF t 0 p).1).isSome=true:=by
 obtain ⟨r,h2,_⟩:=h.zero
 exact lookF_is (by rw [h2];rfl) h h1
theorem lookF_app (i:Int) (p q:List Bs):lF t i (p++q)=if (lF t i p).2≠0 then lF t i p else lF t (lF t i p).1 q:=by
 induction p generalizing i with
 | nil=>simp [lF]
 | cons x p ih =>
   rw [List.cons_append,lookF_cons,lookF_cons]
   split
   ·simp
   ·cases get (kids t i) x with
    | none=>simp
    | some k=>exact ih k
theorem place_is (h:Good t) {p:List Bs} (h1:(place t p).2.2=0):∃ q x e,p=q++[x]∧lF t 0 q=((place t p).1,0)∧(place t p).2.1=x∧find t (place t p).1=some e∧e.nd.kind=2∧place t p=(e.nd.id,x,0):=by
 unfold place at h1 ⊢
 split at h1
 ·simp at h1
 ·rename_i hp
  split at h1
  ·rename_i h2
   exact absurd h1 h2
  ·rename_i h2
   split at h1
   ·simp at h1
   ·rename_i h3
    rw [if_neg hp,if_neg h2,if_neg h3]
    have h4:kindOf t (lF t 0 p.dropLast).1=2:=Decidable.byContradiction h3
    obtain ⟨e,he⟩:=h.has h4
    have h5:(lF t 0 p.dropLast).2=0:=Decidable.byContradiction h2
    refine ⟨p.dropLast,p.getLast hp,e,(List.dropLast_concat_getLast hp).symm,Prod.ext rfl h5,?_,he,?_,?_⟩
    ·rw [List.getLastD_eq_getLast?,List.getLast?_eq_some_getLast hp];rfl
    ·rw [← kO he];exact h4
    ·rw [(find_some he).2,List.getLastD_eq_getLast?,List.getLast?_eq_some_getLast hp];rfl
theorem upd_ris (h:Ris t) {i:Int} {f:En→En} (hf:∀ e,(f e).nd.id=e.nd.id):Ris (upd t i f):=by
 unfold upd Ris
 rw [List.pairwise_map]
 refine List.Pairwise.imp ?_ h
 intro a b hab
 have e:∀ x:En,(if x.nd.id==i then f x else x).nd.id=x.nd.id:=fun x=>by split <;> simp [hf]
 rw [e,e];exact hab
theorem map_ris (h:Ris t) {f:En→En} (hf:∀ e,(f e).nd.id=e.nd.id):Ris (t.map f):=by
 unfold Ris
 rw [List.pairwise_map]
 refine List.Pairwise.imp ?_ h
 intro a b hab
 rw [hf,hf];exact hab
theorem remove_ris (h:Ris t) (i:Int):Ris (remove t i):=h.filter _
theorem find_upd_same {i:Int} {e:En} {f:En→En} (hf:∀ e,(f e).nd.id=e.nd.id) (h:find t i=some e):find (upd t i f) i=some (f e):=by
 rw [find_upd hf,h];simp
theorem find_map {f:En→En} (hf:∀ e,(f e).nd.id=e.nd.id) (i:Int):find (t.map f) i=(find t i).map f:=by
 induction t with
 | nil=>rfl
 | cons e t ih =>
   rw [List.map_cons,find_cons,find_cons,hf,ih]
   split <;> rfl
theorem file_cases (t:T) (i:Int):(file t i=20∧find t i=none)∨(file t i=22∧∃ e,find t i=some e∧e.nd.kind=2)∨(file t i=0∧∃ e,find t i=some e∧e.nd.kind≠2):=by
 unfold file
 cases hf:find t i with
 | none=>exact .inl ⟨rfl,rfl⟩
 | some e =>
   rw [kO hf]
   by_cases h:e.nd.kind=2
   ·exact .inr (.inl ⟨by simp [h],e,rfl,h⟩)
   ·exact .inr (.inr ⟨by simp [h],e,rfl,h⟩)
def openN (t:T) (i:Int):Nat:=if file t i≠0 then file t i else if (ndOf t i).shut=true then 27 else 0
end Tr
end Go.Proofs.YtjoedamiilgajaaGreat
namespace Go.Proofs.YtjoedamiilgajaaGreat
open Go.RowKit
theorem usual_any (c:UInt8) (w:World):Calls Tryz.prog 142 #[.int .u8 (c.toNat:Nat)] w fun e w'=>e=.returned (.bool (Pa.okByte c))∧w=w':=by
 obtain ⟨n,hn⟩:∃ n,n=c.toNat:=⟨_,rfl⟩
 have hlt:n<256:=by rw [hn];exact c.toNat_lt
 have HB:Hid (Pa.okByte c=((decide (97≤n)&&decide (n≤122)) || (decide (48≤n)&&decide (n≤57)) || decide (n=46) || decide (n=45) || decide (n=95))):=by
  show _=_
  subst hn
  have e:∀ k:UInt8,(c==k)=decide (c.toNat=k.toNat):=fun k=>by
   by_cases h:c=k
   ·subst h;simp
   ·rw [beq_eq_false_iff_ne.2 h]
    exact (decide_eq_false fun h2=>h (UInt8.toNat_inj.1 h2)).symm
  unfold Pa.okByte
  rw [e,e,e]
  rfl
 rw [← hn]
 clear hn
 by_cases h1:n=46
 ·subst h1
  go_enter Tryz.func142,Tryz.ntmps142
  go_wp2
  all_goals go_ret;exact ⟨by rw [HB.out];rfl,rfl⟩
 by_cases h2:n=45
 ·subst h2
  go_enter Tryz.func142,Tryz.ntmps142
  go_wp2
  all_goals go_ret;exact ⟨by rw [HB.out];rfl,rfl⟩
 by_cases h3:n=95
 ·subst h3
  go_enter Tryz.func142,Tryz.ntmps142
  go_wp2
  all_goals go_ret;exact ⟨by rw [HB.out];rfl,rfl⟩
 have e1:((n:Int)==46)=false:=by simp;omega
 have e2:((n:Int)==45)=false:=by simp;omega
 have e3:((n:Int)==95)=false:=by simp;omega
 by_cases g1:97≤n <;> by_cases g2:n≤122 <;> by_cases g3:48≤n <;> by_cases g4:n≤57 <;> first
  | omega
  | (go_enter Tryz.func142,Tryz.ntmps142
     go_wp2
     all_goals go_ret;exact ⟨by rw [HB.out];(simp [g1,g2,g3,g4,h1,h2,h3] <;> omega),rfl⟩)
def Oks (l:Bs) (k:Nat):Prop:=k≤l.length∧∀ (j:Nat) (c:UInt8),j<k→l[j]?=some c→Pa.okByte c=true
theorem Oks.zero (l:Bs):Oks l 0:=⟨Nat.zero_le _,fun j _ hj=>absurd hj (Nat.not_lt_zero j)⟩
theorem Oks.step {l:Bs} {k:Nat} {c:UInt8} (h:Oks l k) (hk:l[k]?=some c) (hc:Pa.okByte c=true):Oks l (k+1):=by
 refine ⟨(List.getElem?_eq_some_iff.1 hk).1,fun j d hj hd=>?_⟩
 rcases Nat.lt_or_ge j k with h1|h1
 ·exact h.2 j d h1 hd
 ·obtain rfl:j=k:=by omega
  rw [hk] at hd
  cases hd
  exact hc
theorem Oks.all {l:Bs} (h:Oks l l.length):l.all Pa.okByte=true:=by
 rw [List.all_eq_true]
 intro c hc
 obtain ⟨j,hj,rfl⟩:=List.getElem_of_mem hc
 exact h.2 j _ hj (List.getElem?_eq_getElem hj)
theorem bad_at {l:Bs} {k:Nat} {c:UInt8} (hk:l[k]?=some c) (hc:Pa.okByte c=false):l.all Pa.okByte=false:=by
 rw [List.all_eq_false]
 exact ⟨c,List.mem_of_getElem? hk,by rw [hc];decide⟩
set_option maxRecDepth 100000 in
theorem good_any (l:Bs) (w:World) (hl:l.length≤9223372036854775807):Calls Tryz.prog 103 #[.string (strOf l)] w fun e w'=>e=.returned (.bool (Pa.good l))∧w=w':=by
 have e0:=strOf_size l
 have e1:=strOf_lit l [46]
 have e2:=strOf_lit l [46,46]
 by_cases h0:l=[]
 ·subst h0
  go_enter Tryz.func103,Tryz.ntmps103
  go_wp2
  go_ret
  exact ⟨rfl,rfl⟩
 have hp:0<l.length:=List.length_pos_iff.2 h0
 by_cases h16:16<l.length
 ·have HF:Hid (Pa.good l=false):=by
   show _=_
   unfold Pa.good
   rw [show decide (l.length≤16)=false from decide_eq_false (by omega)]
   simp
  go_enter Tryz.func103,Tryz.ntmps103
  go_wp2
  go_ret
  exact ⟨by rw [HF.out];rfl,rfl⟩
 by_cases h1:l=[46]
 ·subst h1
  go_enter Tryz.func103,Tryz.ntmps103
  go_wp2
  go_ret
  exact ⟨rfl,rfl⟩
 by_cases h2:l=[46,46]
 ·subst h2
  go_enter Tryz.func103,Tryz.ntmps103
  go_wp2
  go_ret
  exact ⟨rfl,rfl⟩
 have HG:Hid (Pa.good l=l.all Pa.okByte):=by
  show _=_
  unfold Pa.good
  rw [show decide (l.length≤16)=true from decide_eq_true (by omega),show decide (1≤l.length)=true from decide_eq_true hp,bne_iff_ne.2 h1,bne_iff_ne.2 h2]
  simp
 replace e1:((strOf l).toList==[46])=false:=by rw [e1,decide_eq_false h1]
 replace e2:((strOf l).toList==[46,46])=false:=by rw [e2,decide_eq_false h2]
 have hc0:((l.length:Int)==0)=false:=by simp;omega
 go_enter Tryz.func103,Tryz.ntmps103
 go_wp2
 go_loopw [22] (fun t22 wr=>∃ k:Nat,t22=.int .i64 k∧Hid (Oks l k)∧wr=w) (fun t22 _=>l.length-(match t22 with|.int _ k=>k.toNat|_=>0))
 case atStart=>exact ⟨0,rfl,Oks.zero l,rfl⟩
 case round =>
  obtain ⟨k,rfl,HO,rfl⟩:=hrel
  by_cases hk:k<l.length
  ·obtain ⟨c,hc⟩:∃ c,l[k]?=some c:=⟨_,List.getElem?_eq_getElem hk⟩
   have hix:=fun wx=>str_at hc wx
   have HC:=Lib.hid hc
   clear hc
   cases hok:Pa.okByte c with
   | true =>
     go_wp2_with (go_at_call 142;refine (usual_any c _).mono ?_;rintro e wx ⟨rfl,rfl⟩)
     go_roundw
     case rel=>exact ⟨k+1,rfl,HO.out.step HC.out hok,by first|rfl|trivial⟩
     case measure=>simp;omega
   | false =>
     have HF:Hid (Pa.good l=false):=HG.out.trans (bad_at HC.out hok)
     go_wp2_with (go_at_call 142;refine (usual_any c _).mono ?_;rintro e wx ⟨rfl,rfl⟩)
     go_ret
     exact ⟨by rw [HF.out];rfl,rfl⟩
  ·obtain rfl:k=l.length:=by have:=HO.out.1;omega
   have HF:Hid (Pa.good l=true):=HG.out.trans HO.out.all
   go_wp2
   go_ret
   exact ⟨by rw [HF.out];rfl,rfl⟩
end Go.Proofs.YtjoedamiilgajaaGreat
namespace Go.Proofs.YtjoedamiilgajaaGreat
open Go.RowKit
theorem take_snoc {α:Type} {l:List α} {k:Nat} {x:α} (h:l[k]?=some x):l.take (k+1)=l.take k++[x]:=by
 obtain ⟨hk,e⟩:=List.getElem?_eq_some_iff.1 h
 rw [List.take_succ_eq_append_getElem hk,e]
set_option maxRecDepth 100000 in
theorem cloneS_any (w:World) (A:Option Addr) (x:List Bs) (cap:Nat) (hr:RdS w A x) (hx:x.length≤68719476736) :
    Calls Tryz.prog 91 #[.slice A x.length cap] w fun e w'=>∃ v,e=.returned v∧TAt w.heap.size v x w w':=by
 have q22:∀ (w:World) (a:Option Addr) (n c n' c':Nat),(binOp .eql 26 (.slice a n c) (.slice none n' c')).run Tryz.prog w=.ok (.bool a.isNone) w:=fun w a n c n' c'=>Lib.run_eql_slice_nil w _ _ a n c n' c' Tryz.underlying26
 cases A with
 | none =>
   obtain rfl:x=[]:=by
    rcases Nat.eq_zero_or_pos x.length with h|h
    ·exact List.eq_nil_of_length_eq_zero h
    ·obtain ⟨b,off,h1,_⟩:=hr h
     cases h1
   go_enter Tryz.func91,Tryz.ntmps91
   go_wp2_with fail
   go_ret
   exact ⟨_,rfl,TAt.nil w⟩
 | some ad =>
   have H0:Hid (TAt w.heap.size (.slice (some ⟨w.heap.size,0,none⟩) 0 0) [] w (w.alloc (.cells #[] 9))):=TAt.empty w
   have HRW:Hid (RdS (w.alloc (.cells #[] 9)) (some ad) x):=hr.below (bN w _)
   have HN:Hid (([]:List Bs).length+x.length≤68719476736):=by show 0+_≤_;omega
   clear hr
   go_enter Tryz.func91,Tryz.ntmps91
   go_wp2_with (at_builtin;refine wpList_append_txts rfl (.tmp 5) (.tmp 6) rfl rfl H0.out (Below.refl _ _) (some ad) x x.length cap rfl rfl HRW.out HN.out ?_;intro v1 w1 HO1 HG1)
   clear HG1
   go_ret
   exact ⟨_,rfl,HO1.out⟩
set_option maxRecDepth 100000 in
theorem within_names (w:World) (l o:List Bs) (A B:Option Addr) (c d:Nat) (hr:RdS w A l) (hs:RdS w B o) (_hl:l.length≤1000000) (ho:o.length≤1000000) :
    Calls Tryz.prog 125 #[.slice A l.length c,.slice B o.length d] w fun e w'=>e=.returned (.bool (decide (o=l.take o.length)))∧w=w':=by
 by_cases hgt:l.length<o.length
 ·have HF:Hid (decide (o=l.take o.length)=false):=decide_eq_false fun e=>by have:=congrArg List.length e;rw [List.length_take] at this;omega
  go_enter Tryz.func125,Tryz.ntmps125
  go_wp2
  go_ret
  exact ⟨by rw [HF.out];rfl,rfl⟩
 have HR:=Lib.hid hr
 have HS:=Lib.hid hs
 clear hr hs
 go_enter Tryz.func125,Tryz.ntmps125
 go_wp2
 go_loopw [14] (fun t14 wr=>∃ k:Nat,t14=.int .i64 k∧k≤o.length∧Hid (o.take k=l.take k)∧wr=w) (fun t14 _=>o.length-(match t14 with|.int _ k=>k.toNat|_=>0))
 case atStart=>exact ⟨0,rfl,Nat.zero_le _,rfl,rfl⟩
 case round =>
  obtain ⟨k,rfl,hko,HK,rfl⟩:=hrel
  by_cases hk:k<o.length
  ·obtain ⟨x,hx⟩:∃ x,o[k]?=some x:=⟨_,List.getElem?_eq_getElem hk⟩
   obtain ⟨y,hy⟩:∃ y,l[k]?=some y:=⟨_,List.getElem?_eq_getElem (by omega)⟩
   obtain ⟨b1,off1,rfl,hc1⟩:=HS.out.at_ hx
   obtain ⟨b2,off2,rfl,hc2⟩:=HR.out.at_ hy
   have HX:Hid (o.take (k+1)=o.take k++[x]∧l.take (k+1)=l.take k++[y]):=⟨take_snoc hx,take_snoc hy⟩
   have HXY:Hid (o[k]?=some x∧l[k]?=some y):=⟨hx,hy⟩
   clear hx hy
   by_cases he:y=x
   ·have e1:((strOf y).toList==(strOf x).toList)=true:=by rw [strOf_beq];exact decide_eq_true he
    go_wp2
    go_roundw
    case rel=>exact ⟨k+1,rfl,by omega,by show _=_;rw [HX.out.1,HX.out.2,HK.out,he],by first|rfl|trivial⟩
    case measure=>simp;omega
   ·have e1:((strOf y).toList==(strOf x).toList)=false:=by rw [strOf_beq];exact decide_eq_false he
    have HF:Hid (decide (o=l.take o.length)=false):=decide_eq_false fun e=>he (by
     have h1:=HXY.out.1
     rw [e,List.getElem?_take_of_lt hk,HXY.out.2] at h1
     exact Option.some.inj h1)
    go_wp2
    go_ret
    exact ⟨by rw [HF.out];rfl,rfl⟩
  ·obtain rfl:k=o.length:=by omega
   have HF:Hid (decide (o=l.take o.length)=true):=decide_eq_true (by have:=HK.out;rw [List.take_length] at this;exact this)
   go_wp2
   go_ret
   exact ⟨by rw [HF.out];rfl,rfl⟩
theorem parent_none (A:Option Addr) (cap:Nat) (w:World):Calls Tryz.prog 104 #[.slice A 0 cap] w fun e w'=>e=.returned (.tuple #[.slice none 0 0,.string (strOf []),.int .i64 1])∧w=w':=by
 go_enter Tryz.func104,Tryz.ntmps104
 go_wp2
 go_ret3
 exact ⟨rfl,rfl⟩
set_option maxRecDepth 100000 in
theorem parent_any (l q:List Bs) (x:Bs) (A:Option Addr) (cap:Nat) (w:World) (hr:RdS w A l) (hc:l.length≤cap) (hl:l.length≤68719476736) (hq:l=q++[x]) :
    Calls Tryz.prog 104 #[.slice A l.length cap] w fun e w'=>∃ X c,e=.returned (.tuple #[.slice X q.length c,.string (strOf x),.int .i64 0])∧q.length≤c∧RdS w' X q∧Below w.heap.size w w':=by
 have hlq:l.length=q.length+1:=by rw [hq,List.length_append];rfl
 have hlx:l[q.length]?=some x:=by rw [hq];simp
 obtain ⟨b,off,rfl,hblt,hh⟩:=hr (by omega)
 clear hh
 obtain ⟨b',off',e,hcell⟩:=hr.at_ hlx
 cases e
 have HRQ:Hid (∀ W,Below w.heap.size w W→RdS W (some ⟨b,off,none⟩) q):=fun W hW=>by
  have h:=(hr.below hW).take q.length
  have e:l.take q.length=q:=by rw [hq];simp
  rw [e] at h
  exact h
 have hsl:∀ W,(Instr.sliceAt 26 (.slice (some ⟨b,off,none⟩) l.length cap) none (some (.int .i64 q.length)) none).run Tryz.prog W=.ok (.slice (some ⟨b,off,none⟩) q.length cap) W:=fun W=>sls_h W _ _ cap q.length (by omega)
 have HC:Hid (∀ W,Below w.heap.size w W→W.cell? ⟨b,off+q.length,none⟩=some (.string (strOf x))):=fun W hW=>(hW.cell (p:=⟨b,off+q.length,none⟩) hblt).trans hcell
 have hlen0:((l.length:Int)==0)=false:=beq_eq_false_iff_ne.2 (by omega)
 have hqc:q.length≤cap:=by omega
 have hq2:(l.length:Int)-1=q.length:=by omega
 obtain ⟨n,hn⟩:∃ n,n=q.length:=⟨_,rfl⟩
 have HN:=Lib.hid hn
 have HLQ:=Lib.hid hlq
 have hqn:q.length≤68719476736:=by omega
 clear hr hq hlx hn hlq
 go_enter Tryz.func104,Tryz.ntmps104
 go_wp2_with fail
 have hcell0:=HC.out w (Below.refl _ _)
 go_region_with (go_at_call 91;refine (cloneS_any w.drew (some ⟨b,off,none⟩) q cap (HRQ.out _ (Below.refl _ w).drew) hqn).mono ?_;rintro e w1 ⟨v,rfl,hT⟩;have HT:=Lib.hid hT;have hcell1:=HC.out w1 (undrew hT.later);clear hT)
 all_goals
  go_wp2_with fail
  go_ret3
  obtain ⟨X,c,hv,hc,hr⟩:=HT.out.form
  exact ⟨X,c,by rw [← hv];rfl,hc,hr,undrew HT.out.later⟩
end Go.Proofs.YtjoedamiilgajaaGreat
namespace Go.Proofs.YtjoedamiilgajaaGreat
open Go.RowKit Rc
open Tr (Nm En T)
namespace Tm
def RdP (w:World) (A:Option Addr) (ps:List (List Bs)):Prop :=
 0<ps.length→∃ b off,A=some ⟨b,off,none⟩∧b<w.heap.size∧∀ j p,ps[j]?=some p→∃ X c,w.cell? ⟨b,off+j,none⟩=some (.slice X p.length c)∧p.length≤c∧RdS w X p
theorem rdP_one (w:World) (p:List Bs) (X:Option Addr) (c:Nat) (t:TypeId) (hc:p.length≤c) (hr:RdS w X p):RdP (w.alloc (.cells #[.slice X p.length c] t)) (some ⟨w.heap.size,0,none⟩) [p]:=by
 intro _
 refine ⟨_,_,rfl,by rw [World.size_alloc];omega,fun j q hj=>?_⟩
 have hj0:j=0:=by
  have:=(List.getElem?_eq_some_iff.1 hj).1
  simp at this;exact this
 subst hj0
 obtain rfl:p=q:=by simpa using hj
 exact ⟨X,c,(Blk.new w t [.slice X p.length c]).cell 0,hc,hr.below (bN w _)⟩
theorem rdP_two (w:World) (p q:List Bs) (X Y:Option Addr) (c d:Nat) (t:TypeId) (hc:p.length≤c) (hr:RdS w X p) (hd:q.length≤d) (hs:RdS w Y q):RdP (w.alloc (.cells #[.slice X p.length c,.slice Y q.length d] t)) (some ⟨w.heap.size,0,none⟩) [p,q]:=by
 intro _
 refine ⟨_,_,rfl,by rw [World.size_alloc];omega,fun j r hj=>?_⟩
 have hb:=Blk.new w t [.slice X p.length c,.slice Y q.length d]
 rcases j with _|_|j
 ·obtain rfl:p=r:=by simpa using hj
  exact ⟨X,c,hb.cell 0,hc,hr.below (bN w _)⟩
 ·obtain rfl:q=r:=by simpa using hj
  exact ⟨Y,d,hb.cell 1,hd,hs.below (bN w _)⟩
 ·simp at hj
def formedL:List (List Bs)→Nat
 | []=>0
 | p :: ps=>if Tr.formed p≠0 then Tr.formed p else formedL ps
theorem formedL_drop {ps:List (List Bs)} {k:Nat} (h:∀ p ∈ ps.take k,Tr.formed p=0):formedL ps=formedL (ps.drop k):=by
 induction k generalizing ps with
 | zero=>rfl
 | succ k ih =>
   cases ps with
   | nil=>rfl
   | cons p ps =>
     rw [List.take_succ_cons] at h
     rw [List.drop_succ_cons,formedL,if_neg (by rw [h p (.head _)];simp),ih fun q hq=>h q (.tail _ hq)]
theorem formedL_at {ps:List (List Bs)} {k:Nat} {p:List Bs} (hp:ps[k]?=some p) (h:∀ p ∈ ps.take k,Tr.formed p=0) (hf:Tr.formed p≠0):formedL ps=Tr.formed p:=by
 rw [formedL_drop h,List.drop_eq_getElem_cons (List.getElem?_eq_some_iff.1 hp).1,(List.getElem?_eq_some_iff.1 hp).2,formedL,if_pos hf]
theorem take_all {α:Type} {l:List α} {k:Nat} {x:α} {P:α→Prop} (hx:l[k]?=some x) (h:∀ y ∈ l.take k,P y) (hp:P x):∀ y ∈ l.take (k+1),P y:=fun y hy=>by
 rw [List.take_succ_eq_append_getElem (List.getElem?_eq_some_iff.1 hx).1,List.mem_append] at hy
 rcases hy with hy|hy
 ·exact h y hy
 ·simp only [List.mem_singleton] at hy
  rw [hy,(List.getElem?_eq_some_iff.1 hx).2];exact hp
set_option maxRecDepth 100000 in
theorem formed_any (w:World) (A:Option Addr) (ps:List (List Bs)) (cap:Nat) (hr:RdP w A ps) (hl:ps.length≤1000000) (hs:∀ p ∈ ps,p.length≤1000000∧∀ s ∈ p,s.length≤9223372036854775807) :
    Calls Tryz.prog 46 #[.slice A ps.length cap] w fun e w'=>e=.returned (.int .i64 (formedL ps:Nat))∧w'=w:=by
 have HR:=Lib.hid hr
 have HS:=Lib.hid hs
 clear hr hs
 go_enter Tryz.func46,Tryz.ntmps46
 go_wp2_with fail
 go_loopw [4,6,9,13,14,15] (fun t4 t6 t9 t13 t14 t15 wr=>∃ (k:Nat) (v4 v6 v13 v14 v15:Value),t4=v4∧t6=v6∧t9=.int .i64 k∧t13=v13∧t14=v14∧t15=v15∧k≤ps.length∧Hid (∀ p ∈ ps.take k,Tr.formed p=0)∧wr=w) (fun _ _ t9 _ _ _ _=>ps.length-(match t9 with|.int _ k=>k.toNat|_=>0))
 case atStart=>exact ⟨0,_,_,_,_,_,rfl,rfl,rfl,rfl,rfl,rfl,Nat.zero_le _,fun e he=>by simp at he,rfl⟩
 case round =>
  obtain ⟨k,v4,v6,v13,v14,v15,rfl,rfl,rfl,rfl,rfl,rfl,hk1,HN,rfl⟩:=hrel
  by_cases hk:k<ps.length
  ·obtain ⟨p,hp⟩:∃ p,ps[k]?=some p:=⟨_,List.getElem?_eq_getElem hk⟩
   obtain ⟨b,off,rfl,_,hcell⟩:=HR.out (by omega)
   obtain ⟨X,c,c0,hpc,hrp⟩:=hcell k p hp
   have hlt:(k:Int)<(ps.length:Int):=by omega
   have HP:=Lib.hid hp
   have HRP:=Lib.hid hrp
   obtain ⟨hp1,hp2⟩:=HS.out p (List.mem_of_getElem? hp)
   have HP2:=Lib.hid hp2
   clear hp hrp hcell hp2
   go_wp2_with fail
   go_loopw [6,15] (fun t6 t15 wr2=>∃ (j:Nat) (v6:Value),t6=v6∧t15=.int .i64 j∧j≤p.length∧Hid (∀ s ∈ p.take j,Pa.good s=true)∧wr2=wr) (fun _ t15 _=>p.length-(match t15 with|.int _ k=>k.toNat|_=>0))
   case atStart=>exact ⟨0,_,rfl,rfl,Nat.zero_le _,fun e he=>by simp at he,rfl⟩
   case round =>
    obtain ⟨j,v6',rfl,rfl,hj,HG,rfl⟩:=hrel
    by_cases hjk:j<p.length
    ·obtain ⟨s,hs⟩:∃ s,p[j]?=some s:=⟨_,List.getElem?_eq_getElem hjk⟩
     obtain ⟨b2,off2,rfl,c1⟩:=HRP.out.at_ hs
     have hlt2:(j:Int)<(p.length:Int):=by omega
     have HSS:=Lib.hid hs
     have HGD:=Lib.hid (good_any s wr (HP2.out s (List.mem_of_getElem? hs)))
     clear hs
     go_wp2_with fail
     refine HGD.out.mono ?_
     rintro e w1 ⟨rfl,rfl⟩
     cases hg:Pa.good s
     ·have HF:Hid (formedL ps=12):=by
       have e:Tr.formed p=12:=by
        unfold Tr.formed
        rw [if_neg]
        intro h
        rw [List.all_eq_true] at h
        rw [h s (List.mem_of_getElem? HSS.out)] at hg
        cases hg
       show _=_
       rw [formedL_at HP.out HN.out (by rw [e];simp),e]
      go_wp2_with fail
      go_ret
      exact ⟨by rw [HF.out];rfl,rfl⟩
     ·have HG1:=Lib.hid (take_all HSS.out HG.out hg)
      go_wp2_with fail
      go_roundw
      case rel=>exact ⟨j+1,_,rfl,by go_num,by omega,HG1.out,by first|rfl|trivial⟩
      case measure=>simp;omega
    ·obtain rfl:j=p.length:=by omega
     have hall:p.all Pa.good=true:=by
      rw [List.all_eq_true]
      intro s hs
      exact HG.out s (by rw [List.take_length];exact hs)
     by_cases h8:8<p.length
     ·have HF:Hid (formedL ps=3):=by
       have e:Tr.formed p=3:=by unfold Tr.formed;rw [if_pos hall,if_pos h8]
       show _=_
       rw [formedL_at HP.out HN.out (by rw [e];simp),e]
      have h8i:(8:Int)<(p.length:Int):=by omega
      clear hall
      go_wp2_with fail
      go_ret
      exact ⟨by rw [HF.out];rfl,rfl⟩
     ·have HN1:=Lib.hid (take_all HP.out HN.out (show Tr.formed p=0 by unfold Tr.formed;rw [if_pos hall,if_neg h8]))
      have h8i:¬ (8:Int)<(p.length:Int):=by omega
      clear hall
      go_wp2_with fail
      go_roundw
      case rel=>exact ⟨k+1,_,_,_,_,_,rfl,rfl,by go_num,rfl,rfl,rfl,by omega,HN1.out,by first|rfl|trivial⟩
      case measure=>simp;omega
  ·obtain rfl:k=ps.length:=by omega
   have HF:Hid (formedL ps=0):=by
    show _=_
    rw [formedL_drop HN.out,List.drop_eq_nil_of_le (Nat.le_refl _)];rfl
   go_wp2_with fail
   go_ret
   exact ⟨by rw [HF.out];rfl,rfl⟩
end Tm
end Go.Proofs.YtjoedamiilgajaaGreat
