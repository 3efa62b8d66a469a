/-
  OWN WORK. Reading a node: what the drawn region that puts a name behind others stands on.
-/
import Derived.Test.YtjoedamiilgajaaGreatWTsRd
import Derived.Test.YtjoedamiilgajaaGreatW06
import Derived.Test.YtjoedamiilgajaaGreatW03
namespace Go.Proofs.YtjoedamiilgajaaGreat
open Go.RowKit Rc
open Tr (Nm En T)
namespace Ts
theorem nameTy:Rf.RowTy 90 116 2 (.agg #[.string .empty,.int .i64 0]) 24:=⟨by kernel_rfl,by kernel_rfl,by kernel_rfl,rfl,by decide,by decide⟩
def ncont (nv:Value) (l:List Nm):Rc.Fact:=⟨fun _ w S=>Tm.NOwn w 0 nv l∧∀ b,nv.ownBlock=some b→S b,fun _ _ _ _ h _ hb=>⟨Tm.own_keep h.1 fun b h1=>hb b (h.2 b h1),h.2⟩⟩
def nrow (l:List Nm):Rc.Fact:=⟨fun v w S=>Tm.NOwn w 0 v l∧∀ b,v.ownBlock=some b→S b,fun _ _ _ _ h _ hb=>⟨Tm.own_keep h.1 fun b h1=>hb b (h.2 b h1),h.2⟩⟩
def ebx (g:Nat) (e:En) (dv nv:Value):Rc.Fact:=⟨fun _ w S=>Blk w g 92 (Tm.enCells e dv nv)∧S g,fun _ _ _ _ h _ hb=>⟨(hb g h.2).trans h.1,h.2⟩⟩
def ebxN (g:Nat) (e:En) (dv:Value) (l:List Nm):Rc.Fact:=⟨fun _ w S=>S g∧∃ x,Blk w g 92 (Tm.enCells e dv x)∧Tm.NOwn w 0 x l∧(∀ b,x.ownBlock=some b→S b),fun _ _ _ _ h _ hb=>by
 obtain ⟨h1,x,h2,h3,h4⟩:=h
 exact ⟨h1,x,(hb g h1).trans h2,Tm.own_keep h3 fun b h5=>hb b (h4 b h5),h4⟩⟩
def rdF (g:Nat) (XB:Option Nat) (W0:World) (x:Value) (s:Co.Rs):Rc.Fact:=⟨fun v w S=>v=x∧Rr g XB s w∧S g∧∀ b,XB=some b→S b∧w.heap[b]?=W0.heap[b]?,fun _ _ _ _ h hs hb=>⟨h.1,h.2.1.keep hs (hb g h.2.2.1) fun b h1=>hb b (h.2.2.2 b h1).1,h.2.2.1,fun b h1=>⟨(h.2.2.2 b h1).1,(hb b (h.2.2.2 b h1).1).trans (h.2.2.2 b h1).2⟩⟩⟩
section
variable {F:Nat→Rc.Fact} {cons:List (Nat × Nat)} {E:Nat→(Nat→Value)→Value→Prop} {V:Nat→Value} {S:Nat→Nat→Prop} {j:Nat} {o:Oper} {b:Act} {w:World}
theorem step_nload {n0:Nat} (l:List Nm) (nv:Value) (hF:F j=nrow l) (h0:(j,n0) ∈ cons) (hc:(ncont nv l).holds (V n0) w (S n0)) (hlt:∀ b,S n0 b→b<w.heap.size) (hE:∀ v,E j V v) (hg:Rg.Open o V) (hrun:(execOp b.eval o).run Tryz.prog w=.ok (.value nv) w):Rg.Does1 Tryz.prog o V b w (Rc.Good F cons E V S j w):=by
 refine .of hg fun K hK=>?_
 unfold Oper.wp
 rw [hrun]
 exact hK _ _ ⟨S n0,Mod.refl _ _,by rw [hF];exact hc,fun b hb=>⟨.inl ⟨n0,h0,hb⟩,hlt b hb⟩,hE _⟩
theorem step_rshort {g i:Nat} {XB:Option Nat} {W0:World} {x0:Value} {s:Co.Rs} {xs:Array Operand} {ts:Array TypeId} (hop:o.op=.call { callee:=.value (.func 98),args:=xs,argTypes:=ts }) (hargs:xs.map b.eval=#[.pointer (some ⟨g,0,none⟩)]) (hF:F j=rdF g XB W0 (.int .i64 ((Co.num 2 s).1:Nat)) (Co.num 2 s).2)
    (hi:(j,i) ∈ cons) (h:(rdF g XB W0 x0 s).holds (V i) w (S i)) (hlt:∀ b,S i b→b<w.heap.size) (hne:∀ b,XB=some b→b≠g) (hE:∀ v,E j V v) (hg:Rg.Open o V):Rg.Does1 Tryz.prog o V b w (Rc.Good F cons E V S j w):=by
 obtain ⟨_,hR,hSg,hX⟩:=h
 refine Rc.step_call #[.pointer (some ⟨g,0,none⟩)] (fun args w=>Rg.call_enter Tryz.func98 (by kernel_rfl) (by kernel_rfl) args w) hop hargs hE hg ((short_rd hR).mono ?_)
 rintro e w' ⟨rfl,h1,h2⟩
 refine ⟨_,S i,rfl,⟨h2.out.os,h2.out.tape,h2.out.output,h2.out.size,fun k hk hn=>h2.out.block k hk fun e=>hn ⟨i,hi,by cases e;exact hSg⟩⟩,?_,fun k hk=>⟨.inl ⟨i,hi,hk⟩,Nat.lt_of_lt_of_le (hlt k hk) h2.out.size⟩⟩
 rw [hF]
 exact ⟨rfl,h1.out,hSg,fun b hb=>⟨(hX b hb).1,(h2.out.block b (hlt b (hX b hb).1) fun e=>by cases e;exact hne _ hb rfl).trans (hX b hb).2⟩⟩
theorem step_none (n:Nm) {t:Nat} (hop:o.op=.buildSlice 90 1 #[(0,.tmp t)]) (hx:b.eval (.tmp t)=.agg #[.string (strOf n.1),.int .i64 n.2]) (hF:F j=nrow [n]) (hE:∀ v,E j V v) (hg:Rg.Open o V):Rg.Does1 Tryz.prog o V b w (Rc.Good F cons E V S j w):=by
 have hrun:(execOp b.eval o).run Tryz.prog w=.ok (.value (.slice (some ⟨w.heap.size,0,none⟩) 1 1)) (w.alloc (.cells #[.string (strOf n.1),.int .i64 n.2] 116)):=by
  obtain ⟨dst,op,ty,pos,after,guard⟩:=o
  simp only at hop
  subst hop
  simp only [execOp,List.map_toArray,List.map_cons,List.map_nil,hx]
  go_simp
 have h1:Tm.NOwn (w.alloc (.cells #[.string (strOf n.1),.int .i64 n.2] 116)) 0 (.slice (some ⟨w.heap.size,0,none⟩) 1 1) [n]:=Tm.own_low (Rf.one_own w 116 [.string (strOf n.1),.int .i64 n.2] 2 rfl)
 refine .of hg fun K hK=>?_
 unfold Oper.wp
 rw [hrun]
 exact hK _ _ ⟨fun b=>b=w.heap.size,(Mod.of_below (below_new w _) _),by rw [hF];exact ⟨h1,fun b hb=>by simpa [Value.ownBlock,eq_comm] using hb⟩,fun k hk=>⟨.inr (by omega),by rw [World.size_alloc];omega⟩,hE _⟩
theorem step_napp {i k:Nat} (l:List Nm) (n:Nm) {s x:Operand} (hop:o.op=.call { callee:=.builtin .append,args:=#[s,x],argTypes:=#[90,90] }) (hs:b.eval s=V i) (hx:b.eval x=V k) (hF:F j=nrow (l++[n])) (hi:(j,i) ∈ cons) (hk:(j,k) ∈ cons)
    (h1:(nrow l).holds (V i) w (S i)) (h2:(nrow [n]).holds (V k) w (S k)) (hl1:∀ b,S i b→b<w.heap.size) (hl2:∀ b,S k b→b<w.heap.size) (hn:l.length≤1000000) (hE:∀ v,E j V v) (hg:Rg.Open o V):Rg.Does1 Tryz.prog o V b w (Rc.Good F cons E V S j w):=by
 obtain ⟨hA,hAS⟩:=h1
 obtain ⟨hB,hBS⟩:=h2
 obtain ⟨A2,c2,hv,hc2,hsrc,_⟩:=Rf.own_src hB
 refine .of hg fun K hK=>?_
 obtain ⟨v',w',r1,r2,r3,r4⟩:=Rf.run_cat nameTy (m:=1) (cap:=c2) o.type hA hsrc rfl (by intro u hu;exact Tm.nmCells_one [n] u hu) (by omega) (Nat.zero_le _)
 unfold Oper.wp
 rw [hv] at hx
 simp [execOp,hop,resolve,invoke,builtin,hs,hx,r1,Result.andThen]
 refine hK v' w' ⟨fun b=>S i b∨v'.ownBlock=some b,⟨r3.os,r3.tape,r3.output,r3.size,fun m hm hn=>r3.block m hm fun e=>hn ⟨i,hi,hAS m e.symm⟩⟩,?_,fun m hm=>?_,hE _⟩
 ·rw [hF]
  refine ⟨?_,fun b hb=>.inr hb⟩
  unfold Tm.NOwn
  rw [Tm.nmCells_append,List.length_append]
  exact r2
 ·rcases hm with hm|hm
  ·exact ⟨.inl ⟨i,hi,hm⟩,Nat.lt_of_lt_of_le (hl1 m hm) r3.size⟩
  ·refine ⟨?_,(Tm.own_blk r2 hm).2.1⟩
   rcases r4 with r4|r4
   ·rw [r4] at hm
    exact .inl ⟨i,hi,hAS m hm⟩
   ·rw [r4] at hm
    injection hm with hm
    exact .inr (by omega)
theorem step_nput {g n0 r:Nat} (e:En) (dv nv x:Value) (l:List Nm) (hV:V r=x) (hF:F j=ebxN g e dv l) (h0:(j,n0) ∈ cons) (hr:(j,r) ∈ cons) (hb0:(ebx g e dv nv).holds (V n0) w (S n0)) (h1:(nrow l).holds (V r) w (S r)) (hsep:∀ b,S r b→¬ S n0 b)
    (hlt:∀ b,S r b→b<w.heap.size) (hE:∀ v,E j V v) (hg:Rg.Open o V) (h:(execOp b.eval o).run Tryz.prog w=.ok .skip (w.setCell ⟨g,7,none⟩ x)):Rg.Does1 Tryz.prog o V b w (Rc.Good F cons E V S j w):=by
 subst hV
 obtain ⟨hb,hSg⟩:=hb0
 refine .of hg fun K hK=>?_
 unfold Oper.wp
 rw [h]
 have hne:∀ b,S r b→b≠g:=fun b h1 e=>hsep b h1 (e ▸ hSg)
 refine hK undef (w.setCell ⟨g,7,none⟩ (V r)) ⟨fun b=>b=g∨S r b,⟨rfl,rfl,rfl,by simp [World.setCell],fun m hm hn=>Below.heap_setCell _ _ _ _ (fun e=>hn ⟨n0,h0,e ▸ hSg⟩)⟩,?_,fun m hm=>?_,hE _⟩
 ·rw [hF]
  exact ⟨.inl rfl,V r,hb.set_ 7 (V r),Tm.own_keep h1.1 fun b hb2=>Below.heap_setCell _ _ _ _ (hne b (h1.2 b hb2)),fun b hb2=>.inr (h1.2 b hb2)⟩
 ·rcases hm with rfl|hm
  ·exact ⟨.inl ⟨n0,h0,hSg⟩,by have:=hb.lt;simpa [World.setCell] using this⟩
  ·exact ⟨.inl ⟨r,hr,hm⟩,by have:=hlt m hm;simpa [World.setCell] using this⟩
end
theorem three_inv {ge gr n:Nat} {XB:Option Nat} {nv dv:Value} {l:List Nm} {e:En} {s:Co.Rs} {w:World} (hL:Tm.NOwn w 0 nv l) (hb:Blk w ge 92 (Tm.enCells e dv nv)) (hR:Rr gr XB s w) (hX:∀ b,XB=some b→b<w.heap.size∧b≠ge∧nv.ownBlock≠some b) (hgr:gr≠ge∧nv.ownBlock≠some gr∧nv.ownBlock≠some ge)
    (F:Nat→Rc.Fact) (cons:List (Nat × Nat)) (hF:F n=ncont nv l) (hF2:F (n+1)=ebx ge e dv nv) (hF3:F (n+2)=rdF gr XB w undef s) :
    Rc.Inv F cons (Rg.alias []) w.drew (fun b=>nv.ownBlock=some b∨b=ge∨b=gr∨XB=some b) (fun i=>n≤i∧i<n+3) (fun _=>undef) (fun i b=>(i=n∧nv.ownBlock=some b)∨(i=n+1∧b=ge)∨(i=n+2∧(b=gr∨XB=some b))) w.drew:=by
 refine ⟨Mod.refl _ _,fun i hi=>?_,fun i b hi hb2=>?_,fun i k b hi hk hne h1 h2=>?_,fun j _=>fun i f hm=>by simp at hm⟩
 ·rcases (show i=n∨i=n+1∨i=n+2 by have:=hi.1;omega) with rfl|rfl|rfl
  ·rw [hF];exact ⟨Tm.own_keep hL fun _ _=>rfl,fun b hb=>.inl ⟨rfl,hb⟩⟩
  ·rw [hF2];exact ⟨hb,.inr (.inl ⟨rfl,rfl⟩)⟩
  ·rw [hF3];exact ⟨rfl,hR.keep (Nat.le_refl _) rfl fun _ _=>rfl,.inr (.inr ⟨rfl,.inl rfl⟩),fun b hb=>⟨.inr (.inr ⟨rfl,.inr hb⟩),rfl⟩⟩
 ·rcases hb2 with ⟨_,h⟩|⟨_,rfl⟩|⟨_,rfl|h⟩
  ·exact ⟨(Tm.own_blk hL h).2.1,.inl (.inl h)⟩
  ·exact ⟨hb.lt,.inl (.inr (.inl rfl))⟩
  ·exact ⟨hR.lt,.inl (.inr (.inr (.inl rfl)))⟩
  ·exact ⟨(hX b h).1,.inl (.inr (.inr (.inr h)))⟩
 ·obtain ⟨g1,g2,g3⟩:=hgr
  rcases h1 with ⟨h3,h4⟩|⟨h3,h4⟩|⟨h3,h4⟩ <;> rcases h2 with ⟨h5,h6⟩|⟨h5,h6⟩|⟨h5,h6⟩
  ·omega
  ·subst h6;exact g3 h4
  ·rcases h6 with rfl|h6
   ·exact g2 h4
   ·exact (hX b h6).2.2 h4
  ·subst h4;exact g3 h6
  ·omega
  ·subst h4
   rcases h6 with h6|h6
   ·exact g1 h6.symm
   ·exact (hX b h6).2.1 rfl
  ·rcases h4 with rfl|h4
   ·exact g2 h6
   ·exact (hX b h4).2.2 h6
  ·subst h6
   rcases h4 with h4|h4
   ·exact g1 h4.symm
   ·exact (hX b h4).2.1 rfl
  ·omega
end Ts
end Go.Proofs.YtjoedamiilgajaaGreat
