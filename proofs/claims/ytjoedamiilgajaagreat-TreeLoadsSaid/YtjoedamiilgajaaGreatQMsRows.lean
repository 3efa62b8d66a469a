/-
  OWN WORK. Rows of rows of texts: as they are read, and as they are a call's own.
-/
import Derived.Test.YtjoedamiilgajaaGreatQ14
namespace Go.Proofs.YtjoedamiilgajaaGreat
open Go.RowKit Rc
namespace Ms
theorem RdS.keep {w w':World} {A:Option Addr} {l:List Bs} (h:RdS w A l) (hb:∀ p:Addr,p.block<w.heap.size→A.map (·.block)=some p.block→w'.cell? p=w.cell? p) (hs:w.heap.size≤w'.heap.size):RdS w' A l:=by
 intro hl
 obtain ⟨b,off,rfl,hlt,hc⟩:=h hl
 exact ⟨b,off,rfl,by omega,fun j x hx=>(hb ⟨b,off+j,none⟩ hlt rfl).trans (hc j x hx)⟩
theorem Tryz.infoSt:(Tryz.prog.info? 26).map (fun i=>(i.zero,i.size,i.bytes))=some (some (.slice none 0 0),1,24):=by kernel_rfl
theorem info_sl:∃ i0,Tryz.prog.info? 26=some i0∧i0.zero=some (.slice none 0 0)∧i0.size=1∧i0.bytes=24:=by
 have h:=Tryz.infoSt
 simp only [Option.map_eq_some_iff,Prod.mk.injEq] at h
 obtain ⟨i0,h1,h2,h3,h4⟩:=h
 exact ⟨i0,h1,h2,h3,h4⟩
theorem rows_under2:Tryz.prog.underlying 27=some (.slice 26):=by kernel_rfl
def RdL (w:World) (A:Option Addr) (L:List (List Bs)):Prop :=
 0<L.length→∃ b off,A=some ⟨b,off,none⟩∧b<w.heap.size∧∀ j x,L[j]?=some x→∃ A' c,w.cell? ⟨b,off+j,none⟩=some (.slice A' x.length c)∧x.length≤c∧RdS w A' x
theorem RdL.nil (w:World) (A:Option Addr):RdL w A []:=fun h=>absurd h (by simp)
theorem RdL.at_ {w:World} {A:Option Addr} {L:List (List Bs)} (h:RdL w A L) (j:Nat) (hj:j<L.length):∃ b off x A' c,A=some ⟨b,off,none⟩∧L[j]?=some x∧w.cell? ⟨b,off+j,none⟩=some (.slice A' x.length c)∧x.length≤c∧RdS w A' x:=by
 obtain ⟨b,off,hA,_,hc⟩:=h (by omega)
 obtain ⟨A',c,h1,h2,h3⟩:=hc j L[j] (List.getElem?_eq_getElem hj)
 exact ⟨b,off,L[j],A',c,hA,List.getElem?_eq_getElem hj,h1,h2,h3⟩
def LOwn (B:Nat) (O:Option Addr→List Bs→Prop) (x:Value) (L:List (List Bs)) (S:Nat→Prop) (w:World):Prop :=
 ∃ xs:List Value,w.ownsRow B 26 1 x L.length xs∧(∀ b,x.ownBlock=some b→S b)∧∀ (j:Nat) (y:List Bs),L[j]?=some y→∃ A c,xs[j]?=some (Value.slice A y.length c)∧y.length≤c∧((RdS w A y∧∀ b,A.map (·.block)=some b→S b∧x.ownBlock≠some b)∨O A y)
def noOld:Option Addr→List Bs→Prop:=fun _ _=>False
theorem LOwn.mono {B B':Nat} {O O':Option Addr→List Bs→Prop} {x:Value} {L:List (List Bs)} {S S':Nat→Prop} {w:World} (h:LOwn B O x L S w) (hB:B'≤B) (hO:∀ A y,O A y→O' A y) (hS:∀ b,S b→S' b):LOwn B' O' x L S' w:=by
 obtain ⟨xs,h1,h2,h3⟩:=h
 refine ⟨xs,⟨h1.1,?_⟩,fun b hb=>hS b (h2 b hb),fun j y hj=>?_⟩
 ·rcases h1.2 with h|⟨g,cap,cur,h4,h5,h6⟩
  ·exact .inl h
  ·exact .inr ⟨g,cap,cur,h4,by omega,h6⟩
 ·obtain ⟨A,c,h4,h5,h6⟩:=h3 j y hj
  refine ⟨A,c,h4,h5,h6.imp (fun h=>⟨h.1,fun b hb=>⟨hS b (h.2 b hb).1,(h.2 b hb).2⟩⟩) (hO A y)⟩
theorem LOwn.keep {B:Nat} {O:Option Addr→List Bs→Prop} {x:Value} {L:List (List Bs)} {S:Nat→Prop} {w w':World} (h:LOwn B O x L S w) (hs:w.heap.size≤w'.heap.size) (hb:∀ b,S b→w'.heap[b]?=w.heap[b]?):LOwn B O x L S w':=by
 obtain ⟨xs,h1,h2,h3⟩:=h
 refine ⟨xs,⟨h1.1,?_⟩,h2,fun j y hj=>?_⟩
 ·rcases h1.2 with h|⟨g,cap,cur,h4,h5,h6,h7⟩
  ·exact .inl h
  ·subst h4
   exact .inr ⟨g,cap,cur,rfl,h5,(hb g (h2 g rfl)).trans h6,h7⟩
 ·obtain ⟨A,c,h4,h5,h6⟩:=h3 j y hj
  refine ⟨A,c,h4,h5,h6.imp (fun h=>⟨RdS.keep h.1 (fun p hp hA=>by unfold World.cell?;rw [hb p.block (h.2 _ hA).1]) hs,h.2⟩) id⟩
theorem LOwn.nil (B:Nat) (O:Option Addr→List Bs→Prop) (S:Nat→Prop) (w:World):LOwn B O (.slice none 0 0) [] S w:=⟨[],⟨rfl,.inl ⟨rfl,rfl⟩⟩,(fun b hb=>by simp [Value.ownBlock] at hb),(fun j y hj=>by simp at hj)⟩
theorem LOwn.rd {B:Nat} {O:Option Addr→List Bs→Prop} {x:Value} {L:List (List Bs)} {S:Nat→Prop} {w:World} (h:LOwn B O x L S w) (hO:∀ A y,O A y→RdS w A y):∃ A c,x=.slice A L.length c∧L.length≤c∧RdL w A L∧(∀ b,A.map (·.block)=some b→S b):=by
 obtain ⟨xs,h1,h2,h3⟩:=h
 rcases h1.2 with ⟨rfl,h0⟩|⟨g,cap,cur,rfl,hb,hg,hn,hm,hsz,hx⟩
 ·exact ⟨none,0,by rw [h0],by omega,fun hp=>by omega,fun b hb=>by simp at hb⟩
 ·refine ⟨_,cap,rfl,hn,fun _=>⟨g,0,rfl,?_,fun j y hj=>?_⟩,fun b hb=>h2 b (by simpa [Value.ownBlock] using hb)⟩
  ·exact (Array.getElem?_eq_some_iff.1 hg).1
  ·obtain ⟨A,c,h4,h5,h6⟩:=h3 j y hj
   refine ⟨A,c,?_,h5,h6.elim (·.1) (hO A y)⟩
   rw [cell_of_row w g (0+j) cur _ _ hg,Nat.zero_add]
   rw [← hx,List.getElem?_take] at h4
   split at h4
   ·simpa using h4
   ·cases h4
theorem LOwn.one {w:World} {A:Option Addr} {y:List Bs} {c:Nat} {O:Option Addr→List Bs→Prop} {S:Nat→Prop} (hc:y.length≤c) (hr:(RdS w A y∧∀ b,A.map (·.block)=some b→S b∧b<w.heap.size)∨O A y):LOwn w.heap.size O (.slice (some ⟨w.heap.size,0,none⟩) 1 1) [y] (fun b=>S b∨b=w.heap.size) (w.alloc (.cells #[.slice A y.length c] 26)):=by
 refine ⟨[.slice A y.length c],⟨rfl,.inr ⟨w.heap.size,1,#[.slice A y.length c],rfl,Nat.le_refl _,heap_alloc_new w _,Nat.le_refl _,by unfold maxLen;omega,rfl,rfl⟩⟩,fun b hb=>.inr (by simpa [Value.ownBlock] using hb.symm),fun j z hj=>?_⟩
 have hj0:j=0:=by
  have:=(List.getElem?_eq_some_iff.1 hj).1
  simp at this
  exact this
 subst hj0
 obtain rfl:y=z:=by simpa using hj
 refine ⟨A,c,rfl,hc,hr.imp (fun h=>⟨h.1.below (bN w _),fun b hb=>⟨.inl (h.2 b hb).1,?_⟩⟩) id⟩
 have:=(h.2 b hb).2
 simp only [Value.ownBlock,ne_eq,Option.some.injEq]
 omega
set_option maxRecDepth 100000 in
theorem run_append_rows {w:World} {B:Nat} {O:Option Addr→List Bs→Prop} {v x:Value} {L L2:List (List Bs)} {S S2:Nat→Prop} (ty:TypeId) (h:LOwn B O v L S w) (h2:LOwn B O x L2 S2 w) (hpos:0<L2.length) (hsep:∀ b,S b→¬ S2 b) (hlt:∀ b,S b∨S2 b→b<w.heap.size) (hB:B≤w.heap.size) (hn:L.length+L2.length≤1000000000) :
    ∃ v' w',(Builtin.append_ #[27,27] ty #[v,x]).run Tryz.prog w=.ok v' w'∧LOwn B O v' (L++L2) (fun b=>(S b∨S2 b)∨v'.ownBlock=some b) w'∧w.grownBy w' v.ownBlock∧(v'.ownBlock=v.ownBlock∨v'.ownBlock=some w.heap.size)∧(∀ b,v'.ownBlock=some b→b<w'.heap.size):=by
 obtain ⟨i0,hi,hz0,hz1,hz2⟩:=info_sl
 obtain ⟨xs,h3,h4,h5⟩:=h
 obtain ⟨ys,h6,h7,h8⟩:=h2
 rcases h6.2 with ⟨rfl,h0⟩|⟨g,cap,cur,rfl,hb,hg,hnc,hm,hsz,hx⟩
 ·omega
 have hyl:ys.length=L2.length:=by have:=h6.1;omega
 have hcell:∀ j u,ys[j]?=some u→w.cell? ((⟨g,0,none⟩:Addr).add j)=some u:=by
  intro j u hu
  rw [add_plain,cell_of_row w g (0+j) cur _ _ hg,Nat.zero_add]
  rw [← hx,List.getElem?_take] at hu
  split at hu
  ·simpa using hu
  ·cases hu
 have hone:∀ u ∈ ys,u.oneCell'=true:=by
  intro u hu
  obtain ⟨j,hj,rfl⟩:=List.getElem_of_mem hu
  obtain ⟨A,c,h9,_⟩:=h8 j (L2[j]'(by omega)) (List.getElem?_eq_getElem (by omega))
  rw [List.getElem?_eq_getElem hj] at h9
  injection h9 with h9
  rw [h9];rfl
 obtain ⟨v',w',r1,r2,r3,_,r5⟩:=run_append_own_at (P:=Tryz.prog) (w:=w) B 27 ty 26 i0 (.slice none 0 0) 1 24 rows_under2 hi hz0 hz1 hz2 rfl (by decide) v L.length xs h3 ⟨g,0,none⟩ L2.length cap ys (by omega) hcell hone (by unfold maxLen;omega) (by omega) hB
 have hg2:g<w.heap.size:=(Array.getElem?_eq_some_iff.1 hg).1
 have hS2:S2 g:=h7 g rfl
 refine ⟨v',w',r1,⟨xs++ys,by rw [List.length_append];exact r2,fun b hb=>?_,fun j y hj=>?_⟩,r3,r5,fun b hb=>?_⟩
 ·exact .inr hb
 ·have old:∀ A:Option Addr,RdS w A y→(∀ b,A.map (·.block)=some b→(S b∨S2 b)∧v.ownBlock≠some b)→RdS w' A y∧∀ b,A.map (·.block)=some b→((S b∨S2 b)∨v'.ownBlock=some b)∧v'.ownBlock≠some b:=by
   intro A hr hA
   refine ⟨RdS.keep hr (fun p hp hb=>?_) r3.size,fun b hb=>⟨.inl (hA b hb).1,fun e=>?_⟩⟩
   ·exact World.cell?_of_block (r3.block p.block hp (fun e=>(hA _ hb).2 e.symm))
   ·rcases r5 with e2|e2
    ·exact (hA b hb).2 (e2 ▸ e)
    ·rw [e2] at e;injection e with e
     have:=hlt b (hA b hb).1
     omega
  by_cases hj1:j<L.length
  ·rw [List.getElem?_append_left hj1] at hj
   obtain ⟨A,c,h9,h10,h11⟩:=h5 j y hj
   refine ⟨A,c,?_,h10,h11.imp (fun h=>old A h.1 fun b hb=>⟨.inl (h.2 b hb).1,(h.2 b hb).2⟩) id⟩
   rw [List.getElem?_append_left (by have:=h3.1;omega)]
   exact h9
  ·rw [List.getElem?_append_right (by omega)] at hj
   obtain ⟨A,c,h9,h10,h11⟩:=h8 _ y hj
   refine ⟨A,c,?_,h10,h11.imp (fun h=>old A h.1 fun b hb=>⟨.inr (h.2 b hb).1,fun e=>hsep b (h4 b e) (h.2 b hb).1⟩) id⟩
   have hxl:xs.length=L.length:=by have:=h3.1;omega
   rw [List.getElem?_append_right (by omega),hxl]
   exact h9
 ·rcases r2.2 with ⟨rfl,_⟩|⟨g',cap',cur',rfl,_,hg',_⟩
  ·cases hb
  ·simp only [Value.ownBlock,Option.some.injEq] at hb
   subst hb
   exact (Array.getElem?_eq_some_iff.1 hg').1
def LNew (L:List (List Bs)) (w:World) (x:Value) (w':World):Prop:=LOwn w.heap.size noOld x L (fun b=>w.heap.size≤b∧b<w'.heap.size) w'
theorem LNew.form {L:List (List Bs)} {w:World} {x:Value} {w':World} (h:LNew L w x w'):∃ A c,x=.slice A L.length c∧L.length≤c∧RdL w' A L:=by
 obtain ⟨A,c,h1,h2,h3,_⟩:=LOwn.rd h (fun _ _ h=>h.elim)
 exact ⟨A,c,h1,h2,h3⟩
def trow (l:List Bs):Rc.Fact:=⟨fun x w S=>∃ A c,x=.slice A l.length c∧l.length≤c∧RdS w A l∧∀ b,A.map (·.block)=some b→S b,fun _ _ _ _ h hs hb=>by
 obtain ⟨A,c,h1,h2,h3,h4⟩:=h
 exact ⟨A,c,h1,h2,RdS.keep h3 (fun p _ hA=>World.cell?_of_block (hb p.block (h4 _ hA))) hs,h4⟩⟩
def lrow (L:List (List Bs)):Rc.Fact:=⟨fun x w S=>LOwn 0 noOld x L S w,fun _ _ _ _ h hs hb=>h.keep hs hb⟩
section
variable {F:Nat→Rc.Fact} {cons:List (Nat × Nat)} {E:Nat→(Nat→Value)→Value→Prop} {V:Nat→Value} {S:Nat→Nat→Prop} {j:Nat} {o:Oper} {b:Act} {w:World}
theorem step_lone {i:Nat} (l:List Bs) {t:Nat} {X:Option Addr} {c:Nat} (hop:o.op=.buildSlice 27 1 #[(0,.tmp t)]) (hx:b.eval (.tmp t)=.slice X l.length c) (hF:F j=lrow [l]) (hi:(j,i) ∈ cons) (hc:l.length≤c) (hr:RdS w X l) (hX:∀ b,X.map (·.block)=some b→S i b) (hlt:∀ b,S i b→b<w.heap.size) (hE:∀ v,E j V v) (hg:Rg.Open o V):Rg.Dz Tryz.prog o V b w (Rc.Good F cons E V S j w):=by
 refine .of hg fun K hK=>?_
 have h1:=LOwn.one (w:=w) (O:=noOld) (S:=S i) hc (.inl ⟨hr,fun b hb=>⟨hX b hb,hlt b (hX b hb)⟩⟩)
 have hrun:(execOp b.eval o).run Tryz.prog w=.ok (.value (.slice (some ⟨w.heap.size,0,none⟩) 1 1)) (w.alloc (.cells #[.slice X l.length c] 26)):=by
  obtain ⟨dst,op,ty,pos,after,guard⟩:=o
  simp only at hop
  subst hop
  simp only [execOp,List.map_toArray,List.map_cons,List.map_nil,hx]
  go_simp
 unfold Oper.wp
 rw [hrun]
 exact hK _ _ ⟨fun b=>S i b∨b=w.heap.size,(Mod.of_below (bN w _) _),by rw [hF];exact h1.mono (Nat.zero_le _) (fun _ _ h=>h) (fun _ h=>h),fun k hk=>⟨hk.imp (fun h=>⟨i,hi,h⟩) (fun h=>by omega),by rw [World.size_alloc];rcases hk with h|h;have:=hlt k h;omega;omega⟩,hE _⟩
theorem step_lapp {i k:Nat} (L L2 L3:List (List Bs)) (hL:L3=L++L2) {s x:Operand} (hop:o.op=.call { callee:=.builtin .append,args:=#[s,x],argTypes:=#[27,27] }) (hs:b.eval s=V i) (hx:b.eval x=V k) (hF:F j=lrow L3) (hi:(j,i) ∈ cons) (hk:(j,k) ∈ cons)
    (h1:(lrow L).holds (V i) w (S i)) (h2:(lrow L2).holds (V k) w (S k)) (hsep:∀ b,S i b→¬ S k b) (hl1:∀ b,S i b→b<w.heap.size) (hl2:∀ b,S k b→b<w.heap.size) (hpos:0<L2.length) (hn:L.length+L2.length≤1000000000) (hE:∀ v,E j V v) (hg:Rg.Open o V):Rg.Dz Tryz.prog o V b w (Rc.Good F cons E V S j w):=by
 subst hL
 refine .of hg fun K hK=>?_
 obtain ⟨v',w',r1,r2,r3,r4,r5⟩:=run_append_rows o.type h1 h2 hpos hsep (fun b hb=>hb.elim (hl1 b) (hl2 b)) (Nat.zero_le _) hn
 unfold Oper.wp
 simp [execOp,hop,resolve,invoke,builtin,hs,hx,r1,Result.andThen]
 have ho:∀ b,(V i).ownBlock=some b→S i b:=by obtain ⟨xs,_,h,_⟩:=h1;exact h
 refine hK v' w' ⟨fun b=>(S i b∨S k b)∨v'.ownBlock=some b,⟨r3.os,r3.tape,r3.output,r3.size,fun m hm hn=>r3.block m hm fun e=>hn ⟨i,hi,ho m e.symm⟩⟩,?_,fun m hm=>?_,hE _⟩
 ·rw [hF];exact r2
 ·rcases hm with (h|h)|h
  ·exact ⟨.inl ⟨i,hi,h⟩,Nat.lt_of_lt_of_le (hl1 m h) r3.size⟩
  ·exact ⟨.inl ⟨k,hk,h⟩,Nat.lt_of_lt_of_le (hl2 m h) r3.size⟩
  ·refine ⟨?_,r5 m h⟩
   rcases r4 with e|e
   ·exact .inl ⟨i,hi,ho m (e ▸ h)⟩
   ·rw [e] at h;injection h with h;exact .inr (by omega)
end
def HNew (l:List Bs) (w:World) (x:Value) (w':World):Prop:=∃ A c,x=.slice A l.length c∧l.length≤c∧RdS w' A l∧∀ b,A.map (·.block)=some b→w.heap.size≤b∧b<w'.heap.size
def HOut (l:List Bs) (w:World) (e:Ending) (w':World):Prop:=∃ x,e=.returned x∧HNew l w x w'∧Below w.heap.size w w'
section
variable {F:Nat→Rc.Fact} {cons:List (Nat × Nat)} {E:Nat→(Nat→Value)→Value→Prop} {V:Nat→Value} {S:Nat→Nat→Prop} {j:Nat} {o:Oper} {b:Act} {w:World}
theorem step_hcall (l:List Bs) {fn:FuncId} {xs:Array Operand} {ts:Array TypeId} (args:Array Value) (hent:∀ args w,(callFunc fn args).run Tryz.prog w=.ok (.enter fn args) w)
    (hop:o.op=.call { callee:=.value (.func fn),args:=xs,argTypes:=ts }) (hargs:xs.map b.eval=args) (hF:F j=trow l) (hE:∀ v,E j V v) (hg:Rg.Open o V)
    (hcall:Calls Tryz.prog fn args w (HOut l w)):Rg.Dz Tryz.prog o V b w (Rc.Good F cons E V S j w):=by
 refine Rc.step_call args hent hop hargs hE hg (hcall.mono ?_)
 rintro e w' ⟨x,rfl,⟨A,c,rfl,hc,hr,hX⟩,hb⟩
 refine ⟨_,fun k=>A.map (·.block)=some k,rfl,Mod.of_below hb _,?_,fun k hk=>⟨.inr (hX k hk).1,(hX k hk).2⟩⟩
 rw [hF];exact ⟨A,c,rfl,hc,hr,fun _ h=>h⟩
end
end Ms
end Go.Proofs.YtjoedamiilgajaaGreat
