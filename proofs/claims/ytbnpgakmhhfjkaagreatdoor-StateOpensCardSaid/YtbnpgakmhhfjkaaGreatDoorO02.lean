/-
  OWN WORK. Rc, BaObj, MkRows, ShPure, ShRot, ShMem, ShSpread, ShMix, MkFrame, BaInts, BaSet, CoPure, CpNum, CpBase, CpBack, BaIn64, NoPure
-/
import Derived.Test.YtbnpgakmhhfjkaaGreatDoorO01
import Derived.Laws.BitsAllLaws
import Derived.Test.YtbnpgakmhhfjkaaGreatDoorChecked
import Derived.WalkKit
import Derived.Outline
import Derived.WalkLawsBesides
import Derived.Below
import Derived.Laws.OwnMore
import Derived.Deep.Draws
import Derived.Laws.Rows
import Derived.Deep.AppendLies
import Derived.Laws.CopyOwn
import Derived.Deep.WholeRow
import Derived.Deep.RegionLaw
import Derived.RegionTactic
import Derived.BigRegion
import Derived.Deep.QuietTactic
import Derived.BigQuiet
import Derived.Lib.Hide
import Derived.Deep.Cut
namespace Go.Proofs.YtbnpgakmhhfjkaaGreatDoor.Rc
open Go Go.RowKit Go.Proofs.YtbnpgakmhhfjkaaGreatDoor.Rg
structure Mod (w w':World) (X:Nat→Prop):Prop where
 os:w'.os=w.os
 tape:w'.tape=w.tape
 output:w'.output=w.output
 size:w.heap.size≤w'.heap.size
 block:∀ k,k<w.heap.size→¬ X k→w'.heap[k]?=w.heap[k]?
theorem Mod.refl (w:World) (X:Nat→Prop):Mod w w X:=⟨rfl,rfl,rfl,Nat.le_refl _,fun _ _ _=>rfl⟩
theorem Mod.trans {a b c:World} {X:Nat→Prop} (h:Mod a b X) (k:Mod b c X):Mod a c X :=
 ⟨k.os.trans h.os,k.tape.trans h.tape,k.output.trans h.output,Nat.le_trans h.size k.size,fun i hi hn=>(k.block i (Nat.lt_of_lt_of_le hi h.size) hn).trans (h.block i hi hn)⟩
theorem Mod.mono {a b:World} {X Y:Nat→Prop} (h:Mod a b X) (hXY:∀ k,k<a.heap.size→X k→Y k):Mod a b Y:=⟨h.os,h.tape,h.output,h.size,fun k hk hn=>h.block k hk fun hx=>hn (hXY k hk hx)⟩
theorem Mod.of_below {a b:World} (h:Below a.heap.size a b) (X:Nat→Prop):Mod a b X:=⟨h.os,h.tape,h.output,h.size,fun k hk _=>h.block k hk⟩
theorem Mod.below {a b:World} {X:Nat→Prop} (h:Mod a b X) (hX:∀ k,X k→a.heap.size≤k):Below a.heap.size a b:=⟨h.os,h.tape,h.output,h.size,fun k hk=>h.block k hk fun hx=>Nat.not_lt.2 (hX k hx) hk⟩
theorem Mod.undrew {a b:World} {X:Nat→Prop} (h:Mod a.drew b X):Mod a b X:=⟨h.os,h.tape,h.output,h.size,h.block⟩
structure Fact where
 holds:Value→World→(Nat→Prop)→Prop
 keep:∀ v w w' S,holds v w S→w.heap.size≤w'.heap.size→(∀ b,S b→w'.heap[b]?=w.heap[b]?)→holds v w' S
def Live (cons:List (Nat × Nat)) (L:Nat→Prop) (i:Nat):Prop:=L i∧∀ k,L k→(k,i) ∉ cons
structure Inv (F:Nat→Fact) (cons:List (Nat × Nat)) (E:Nat→(Nat→Value)→Value→Prop) (W0:World) (X0:Nat→Prop) (L:Nat→Prop) (V:Nat→Value) (S:Nat→Nat→Prop) (w:World):Prop where
 mod:Mod W0 w X0
 holds:∀ i,Live cons L i→(F i).holds (V i) w (S i)
 lt:∀ i b,Live cons L i→S i b→b<w.heap.size∧(X0 b∨W0.heap.size≤b)
 sep:∀ i j b,Live cons L i→Live cons L j→i≠j→S i b→¬ S j b
 eqs:∀ j,L j→E j V (V j)
def Taken (cons:List (Nat × Nat)) (S:Nat→Nat→Prop) (j:Nat) (b:Nat):Prop:=∃ i,(j,i) ∈ cons∧S i b
def Good (F:Nat→Fact) (cons:List (Nat × Nat)) (E:Nat→(Nat→Value)→Value→Prop) (V:Nat→Value) (S:Nat→Nat→Prop) (j:Nat) (w:World) (v:Value) (w':World):Prop :=
 ∃ T:Nat→Prop,Mod w w' (Taken cons S j)∧(F j).holds v w' T∧(∀ b,T b→(Taken cons S j b∨w.heap.size≤b)∧b<w'.heap.size)∧E j V v
section
variable {P:Program} {ops:Array Oper} {Q:Exit→Act→World→Prop} {F:Nat→Fact} {cons:List (Nat × Nat)} {E:Nat→(Nat→Value)→Value→Prop}
theorem Inv.step {W0:World} {X0:Nat→Prop} {L:Nat→Prop} {V:Nat→Value} {S:Nat→Nat→Prop} {w w':World} {j:Nat} {v:Value} (h:Inv F cons E W0 X0 L V S w) (hj:¬ L j) (hc:∀ i,(j,i) ∈ cons→Live cons L i) (hnc:∀ k,L k→(k,j) ∉ cons) (hjj:(j,j) ∉ cons)
    (hse:∀ k,L k→∀ V',(∀ i,L i→V i=V' i)→E k V (V k)→E k V' (V k)) (hsj:∀ V',(∀ i,L i→V i=V' i)→E j V v→E j V' v) (hg:Good F cons E V S j w v w') :
    ∃ T,Inv F cons E W0 X0 (fun k=>k=j∨L k) (fun k=>if k=j then v else V k) (fun k=>if k=j then T else S k) w':=by
 obtain ⟨T,hg,hf,ho,heq⟩:=hg
 have live:∀ k,k≠j→Live cons (fun k=>k=j∨L k) k→Live cons L k∧(j,k) ∉ cons:=fun k hk ⟨h1,h2⟩=>⟨⟨h1.resolve_left hk,fun m hm=>h2 m (.inr hm)⟩,h2 j (.inl rfl)⟩
 have far:∀ k,k≠j→Live cons (fun k=>k=j∨L k) k→∀ b,S k b→b<w.heap.size∧¬ Taken cons S j b:=fun k hk hl b hb=>by
  obtain ⟨h1,h2⟩:=live k hk hl
  refine ⟨(h.lt k b h1 hb).1,fun ⟨i,hi,hib⟩=>?_⟩
  exact h.sep k i b h1 (hc i hi) (fun e=>h2 (by rw [e];exact hi)) hb hib
 have agree:∀ i,L i→V i=(fun k=>if k=j then v else V k) i:=fun i hi=>by
  have:i≠j:=fun e=>hj (e ▸ hi)
  simp [this]
 refine ⟨T,?_,fun k hk=>?_,fun k b hk hb=>?_,fun i k b hi hk hne hib hkb=>?_,fun k hk=>?_⟩
 ·refine ⟨hg.os.trans h.mod.os,hg.tape.trans h.mod.tape,hg.output.trans h.mod.output,Nat.le_trans h.mod.size hg.size,fun k hk hn=>?_⟩
  refine (hg.block k (Nat.lt_of_lt_of_le hk h.mod.size) fun ⟨i,hi,hib⟩=>?_).trans (h.mod.block k hk hn)
  rcases (h.lt i k (hc i hi) hib).2 with h1|h1
  ·exact hn h1
  ·omega
 ·by_cases e:k=j
  ·subst e;simp only [if_true];exact hf
  ·simp only [if_neg e]
   refine (F k).keep _ _ _ _ (h.holds k (live k e hk).1) hg.size fun b hb=>?_
   have:=far k e hk b hb
   exact hg.block b this.1 this.2
 ·by_cases e:k=j
  ·subst e
   simp only [if_true] at hb
   obtain ⟨h1,h2⟩:=ho b hb
   refine ⟨h2,?_⟩
   rcases h1 with ⟨i,hi,hib⟩|h1
   ·exact (h.lt i b (hc i hi) hib).2
   ·exact .inr (Nat.le_trans h.mod.size h1)
  ·simp only [if_neg e] at hb
   have:=h.lt k b (live k e hk).1 hb
   exact ⟨Nat.lt_of_lt_of_le this.1 hg.size,this.2⟩
 ·by_cases ei:i=j
  ·subst ei
   simp only [if_true] at hib
   simp only [if_neg (Ne.symm hne)] at hkb
   obtain ⟨h1,h2⟩:=far k (Ne.symm hne) hk b hkb
   rcases (ho b hib).1 with h3|h3
   ·exact h2 h3
   ·omega
  ·simp only [if_neg ei] at hib
   by_cases ek:k=j
   ·subst ek
    simp only [if_true] at hkb
    obtain ⟨h1,h2⟩:=far i ei hi b hib
    rcases (ho b hkb).1 with h3|h3
    ·exact h2 h3
    ·omega
   ·simp only [if_neg ek] at hkb
    exact h.sep i k b (live i ei hi).1 (live k ek hk).1 hne hib hkb
 ·by_cases e:k=j
  ·subst e
   simp only [if_true]
   exact hsj _ agree heq
  ·simp only [if_neg e]
   have hk2:=hk.resolve_left e
   exact hse k hk2 _ agree (h.eqs k hk2)
def check (ops:Array Oper) (nv:Nat) (use:List (List (Nat × Nat))) (bef reads:List (List Nat)) (cons:List (Nat × Nat)):Bool :=
 Rg.distinct ops&&Region.noSelect ops &&
 (List.range ops.size).all (fun j=>match ops[j]? with
  | none=>false
  | some o =>
    (use.getD j []).all (fun i=>(ops[i.1]?).bind (·.dst)==some i.2&&(bef.getD j []).contains i.1) &&
    (bef.getD j []).all (fun i=>decide (i<j)&&o.after.any (fun e=>Region.binds .any e&&(e.on==i || (bef.getD e.on []).contains i))) &&
    o.after.all (fun e=>!Region.binds .any e || decide (e.on<j)) &&
    (o.looksAt ops).all (fun t=>(List.range ops.size).all fun i=>(nums use j).contains i || (match ops[i]? with|some x=>x.dst != some t|none=>true)) &&
    decide ((nums use j).Nodup) &&
    (reads.getD j []).all (fun i=>((bef.getD j []).contains i || (decide (ops.size≤i)&&decide (i<ops.size+nv)))&&cons.all (fun x=>x.2 != i || x.1==j || (bef.getD x.1 []).contains j)) &&
    (match o.guard with|some (g,_)=>(nums use j).contains g|none=>true)) &&
 cons.all (fun x=>(reads.getD x.1 []).contains x.2&&decide (x.1<ops.size))
structure Use (F:Nat→Fact) (V:Nat→Value) (S:Nat→Nat→Prop) (w:World) (l:List Nat):Prop where
 holds:∀ i,i ∈ l→(F i).holds (V i) w (S i)
 lt:∀ i,i ∈ l→∀ b,S i b→b<w.heap.size
 sep:∀ i,i ∈ l→∀ k,k ∈ l→i≠k→∀ b,S i b→¬ S k b
theorem run_all (nv:Nat) (use:List (List (Nat × Nat))) (bef reads:List (List Nat)) (hchk:Rc.check ops nv use bef reads cons=true) (hE:∀ j V V' v,(∀ i ∈ nums use j,V i=V' i)→E j V v→E j V' v) (a0:Act) (W0:World) (X0:Nat→Prop)
    (hE0:∀ j,ops.size≤j→∀ V v,E j V v)
    (hstep:∀ j o,ops[j]?=some o→∀ V S w,Mod W0 w X0→Use F V S w (reads.getD j [])→(∀ i ∈ nums use j,E i V (V i))→Does P ops o (putUse V (use.getD j []) a0) w (Good F cons E V S j w))
    (hend:∀ V S w a,Inv F cons E W0 X0 (fun i=>i<ops.size+nv) V S w→Frm ops (fun i=>i<ops.size) V a0 a→Q .normal a w) :
    ∀ (fuel:Nat) (listed:Array Bool) (V:Nat→Value) (S:Nat→Nat→Prop) (a:Act) (w:World),listed.size=ops.size→(listed.toList.filter (!·)).length≤fuel →
     (∀ k o,ops[k]?=some o→listed.getD k false=true→∀ e ∈ o.after,Region.binds .any e=true→listed.getD e.on false=true) →
     Inv F cons E W0 X0 (fun i=>listed.getD i false=true∨(ops.size≤i∧i<ops.size+nv)) V S w→Frm ops (fun i=>listed.getD i false=true) V a0 a→wpAny P .any ops Q fuel listed a w:=by
 simp only [Rc.check,Bool.and_eq_true] at hchk
 obtain ⟨⟨⟨hdis,hsel⟩,hops⟩,hcons⟩:=hchk
 have hO:∀ j o,ops[j]?=some o→(∀ x ∈ use.getD j [],(ops[x.1]?).bind (·.dst)=some x.2∧x.1 ∈ bef.getD j [])∧(∀ i ∈ bef.getD j [],i<j∧∃ e ∈ o.after,Region.binds .any e=true∧(e.on=i∨i ∈ bef.getD e.on []))∧(∀ e ∈ o.after,Region.binds .any e=true→e.on<j) ∧
     (∀ t ∈ o.looksAt ops,∀ i x,ops[i]?=some x→x.dst=some t→i ∈ nums use j)∧(nums use j).Nodup∧(∀ i ∈ reads.getD j [],(i ∈ bef.getD j []∨(ops.size≤i∧i<ops.size+nv))∧∀ x ∈ cons,x.2=i→x.1=j∨j ∈ bef.getD x.1 []):=by
  intro j o ho
  have h:=List.all_eq_true.1 hops j (List.mem_range.2 (Array.getElem?_eq_some_iff.1 ho).1)
  simp only [ho,Bool.and_eq_true] at h
  obtain ⟨⟨⟨⟨⟨⟨h1,h2⟩,h3⟩,h4⟩,h5⟩,h6⟩,_⟩:=h
  refine ⟨fun x hx=>?_,fun i hi=>?_,fun e he hb=>?_,fun t ht i x hx hd=>?_,by simpa using h5,fun i hi=>?_⟩
  ·have:=List.all_eq_true.1 h1 x hx
   simp only [Bool.and_eq_true,beq_iff_eq] at this
   exact ⟨this.1,by simpa using this.2⟩
  ·have:=List.all_eq_true.1 h2 i hi
   simp only [Bool.and_eq_true,decide_eq_true_eq] at this
   obtain ⟨e,he,hb⟩:=Array.any_eq_true'.1 this.2
   simp only [Bool.and_eq_true,Bool.or_eq_true,beq_iff_eq] at hb
   exact ⟨this.1,e,he,hb.1,hb.2.imp id (fun h=>by simpa using h)⟩
  ·have:=Array.all_eq_true_iff_forall_mem.1 h3 e he
   simpa [hb] using this
  ·have:=List.all_eq_true.1 (List.all_eq_true.1 h4 t ht) i (List.mem_range.2 (Array.getElem?_eq_some_iff.1 hx).1)
   simpa [hx,hd] using this
  ·have:=List.all_eq_true.1 h6 i hi
   simp only [Bool.and_eq_true,Bool.or_eq_true,decide_eq_true_eq] at this
   refine ⟨this.1.imp (fun h=>by simpa using h) id,fun x hx e=>?_⟩
   have h7:=List.all_eq_true.1 this.2 x hx
   simpa [e] using h7
 have hC:∀ j i,(j,i) ∈ cons→i ∈ reads.getD j []∧j<ops.size:=fun j i h=>by
  have:=List.all_eq_true.1 hcons _ h
  simpa using this
 intro fuel
 have all_of:∀ listed:Array Bool,listed.size=ops.size→Region.ready .any ops listed=[]→∀ k,k<ops.size→listed.getD k false=true:=by
  intro listed hsz hr k
  induction k using Nat.strongRecOn with
  | _ k ih =>
    intro hk
    by_cases hl:listed.getD k false=true
    ·exact hl
    ·exfalso
     have:k ∈ Region.ready .any ops listed:=mem_ready.2 ⟨by
      simp only [Array.getD_eq_getD_getElem?] at hl ⊢
      rw [Array.getElem?_eq_getElem (by omega)] at hl ⊢
      simpa using hl,_,Array.getElem?_eq_getElem hk,fun e he hb=>ih e.on ((hO k _ (Array.getElem?_eq_getElem hk)).2.2.1 e he hb) (Nat.lt_trans ((hO k _ (Array.getElem?_eq_getElem hk)).2.2.1 e he hb) hk)⟩
     rw [hr] at this
     cases this
 have lis_lt:∀ (listed:Array Bool),listed.size=ops.size→∀ i,listed.getD i false=true→i<ops.size:=fun listed hsz i h=>by
  rcases Nat.lt_or_ge i ops.size with h1|h1
  ·exact h1
  ·simp [Array.getD_eq_getD_getElem?,Array.getElem?_eq_none (show listed.size≤i by omega)] at h
 have fin:∀ (listed:Array Bool) (V:Nat→Value) (S:Nat→Nat→Prop) (a:Act) (w:World),listed.size=ops.size→Region.ready .any ops listed=[] →
     Inv F cons E W0 X0 (fun i=>listed.getD i false=true∨(ops.size≤i∧i<ops.size+nv)) V S w→Frm ops (fun i=>listed.getD i false=true) V a0 a→Q .normal a w:=by
  intro listed V S a w hsz hr hi hf
  have hall:=all_of listed hsz hr
  have heq:∀ i,(listed.getD i false=true)↔i<ops.size:=fun i=>⟨lis_lt listed hsz i,hall i⟩
  refine hend V S w a ?_ (hf.congr heq fun _ _=>rfl)
  have:(fun i=>listed.getD i false=true∨(ops.size≤i∧i<ops.size+nv))=(fun i=>i<ops.size+nv):=funext fun i=>propext (by rw [heq];omega)
  rwa [this] at hi
 /- what is listed has all that comes before it listed -/
 have befL:∀ listed:Array Bool,(∀ k o,ops[k]?=some o→listed.getD k false=true→∀ e ∈ o.after,Region.binds .any e=true→listed.getD e.on false=true) →
     ∀ j o,ops[j]?=some o→(∀ e ∈ o.after,Region.binds .any e=true→listed.getD e.on false=true)→∀ i ∈ bef.getD j [],listed.getD i false=true:=by
  intro listed hcl j
  induction j using Nat.strongRecOn with
  | _ j ih =>
    intro o ho haft i hi
    obtain ⟨_,e,he,hb,h⟩:=(hO j o ho).2.1 i hi
    have hel:=haft e he hb
    rcases h with rfl|h
    ·exact hel
    ·have hlt:=(hO j o ho).2.2.1 e he hb
     have hon:e.on<ops.size:=Nat.lt_trans hlt (Array.getElem?_eq_some_iff.1 ho).1
     exact ih e.on hlt _ (Array.getElem?_eq_getElem hon) (hcl _ _ (Array.getElem?_eq_getElem hon) hel) i h
 induction fuel with
 | zero =>
   intro listed V S a w hsz hfu hcl hi hf
   have hr:Region.ready .any ops listed=[]:=by
    apply List.eq_nil_iff_forall_not_mem.2
    intro j hj
    obtain ⟨h1,o,ho,_⟩:=mem_ready.1 hj
    have h2:=left_none listed.toList (by omega) j (by simp;rw [hsz];exact (Array.getElem?_eq_some_iff.1 ho).1)
    simp only [Array.getElem?_toList] at h2
    simp [Array.getD_eq_getD_getElem?,h2] at h1
   exact ⟨hr,fin listed V S a w hsz hr hi hf⟩
 | succ fuel ih =>
   intro listed V S a w hsz hfu hcl hi hf
   refine ⟨fun hr=>fin listed V S a w hsz hr hi hf,fun j hj=>?_⟩
   obtain ⟨hjf,o,ho,haft⟩:=mem_ready.1 hj
   have hjlt:j<ops.size:=(Array.getElem?_eq_some_iff.1 ho).1
   have hjs:listed[j]?=some false:=by
    simp only [Array.getD_eq_getD_getElem?,Array.getElem?_eq_getElem (show j<listed.size by omega),Option.getD_some] at hjf ⊢
    rw [hjf]
   have hjn:¬ listed.getD j false=true:=by simp [Array.getD_eq_getD_getElem?,hjs]
   obtain ⟨h0,h1,h2,h3,h4,h5⟩:=hO j o ho
   have hBL:=befL listed hcl j o ho haft
   have hUL:∀ i,i ∈ nums use j→listed.getD i false=true:=fun i hi=>by
    obtain ⟨x,hx,rfl⟩:=List.mem_map.1 hi
    exact hBL _ (h0 x hx).2
   have hjL:¬ (listed.getD j false=true∨(ops.size≤j∧j<ops.size+nv)):=by
    rintro (h|h)
    ·exact hjn h
    ·omega
   have kL:∀ k,(listed.getD k false=true∨(ops.size≤k∧k<ops.size+nv))→k<ops.size→listed.getD k false=true:=fun k hk hlt=>hk.resolve_right (by omega)
   have jbef:∀ k,k<ops.size→listed.getD k false=true→¬ j ∈ bef.getD k []:=fun k hkl hk hb =>
    hjn (befL listed hcl k _ (Array.getElem?_eq_getElem hkl) (hcl k _ (Array.getElem?_eq_getElem hkl) hk) j hb)
   have hlive:∀ i,i ∈ reads.getD j []→Live cons (fun i=>listed.getD i false=true∨(ops.size≤i∧i<ops.size+nv)) i:=fun i hir=>by
    obtain ⟨h6,h7⟩:=h5 i hir
    refine ⟨h6.imp (hBL i) id,fun k hk hck=>?_⟩
    have hkl:=(hC k i hck).2
    rcases h7 _ hck rfl with h8|h8
    ·simp only at h8
     subst h8
     exact hjL hk
    ·exact jbef k hkl (kL k hk hkl) h8
   have hd:=hstep j o ho V S w hi.mod ⟨fun i hir=>hi.holds i (hlive i hir),fun i hir b hb=>(hi.lt i b (hlive i hir) hb).1,fun i hir k hkr hne b hib=>hi.sep i k b (hlive i hir) (hlive k hkr) hne hib⟩ (fun i hiu=>hi.eqs i (.inl (hUL i hiu)))
   have hb:=Frm.putUse (V:=V) (a0:=a0) hdis (use.getD j []) (fun x hx=>(h0 x hx).1) h4
   refine Does.at_ ho (Region.noSelect_spec hsel j o · · ho) (hf.size.trans hb.size.symm) (fun t ht=>hf.at_ hb t (fun i x hx hd=>?_)) hd (fun v w' hg=>?_)
   ·exact ⟨fun _=>h3 t ht i x hx hd,fun h=>hUL i h⟩
   ·have hus:∀ k,(listed.getD k false=true∨(ops.size≤k∧k<ops.size+nv))→∀ i ∈ nums use k,k<ops.size→listed.getD i false=true:=fun k hk i hik hkl=>by
     obtain ⟨x,hx,rfl⟩:=List.mem_map.1 hik
     exact befL listed hcl k _ (Array.getElem?_eq_getElem hkl) (hcl k _ (Array.getElem?_eq_getElem hkl) (kL k hk hkl)) _ ((hO k _ (Array.getElem?_eq_getElem hkl)).1 x hx).2
    obtain ⟨T,h6⟩:=hi.step (v:=v) hjL (fun i hci=>hlive i (hC j i hci).1) (fun k hk hck=>by
        have hkl:k<ops.size:=(hC k j hck).2
        have:=(hO k _ (Array.getElem?_eq_getElem hkl)).2.2.2.2.2 j (hC k j hck).1
        rcases this.1 with h7|h7
        ·exact jbef k hkl (kL k hk hkl) h7
        ·omega) (fun hcj=>by
        have:=(h5 j (hC j j hcj).1).1
        rcases this with h7|h7
        ·exact Nat.lt_irrefl j (h1 j h7).1
        ·omega) (fun k hk V' hV h=>by
        rcases Nat.lt_or_ge k ops.size with hkl|hkl
        ·exact hE k V V' _ (fun i hik=>hV i (.inl (hus k hk i hik hkl))) h
        ·exact hE0 k hkl _ _) (fun V' hV=>hE j V V' _ (fun i hij=>hV i (.inl (hUL i hij)))) hg
    refine ih (listed.setIfInBounds j true) (fun k=>if k=j then v else V k) (fun k=>if k=j then T else S k) (a.put o.dst v) w' (by simpa using hsz) ?_ ?_ ?_ ?_
    ·have:=left_set listed.toList j (by simpa using hjs)
     rw [Array.toList_setIfInBounds]
     omega
    ·intro k ok hok hk e he hb2
     rw [getD_set] at hk ⊢
     rcases hk with ⟨rfl,_⟩|hk
     ·obtain rfl:ok=o:=by rw [ho] at hok;exact (Option.some.inj hok).symm
      exact .inr (haft e he hb2)
     ·exact .inr (hcl k ok hok hk e he hb2)
    ·have e:(fun i=>(listed.setIfInBounds j true).getD i false=true∨(ops.size≤i∧i<ops.size+nv))=(fun k=>k=j∨(listed.getD k false=true∨(ops.size≤k∧k<ops.size+nv))):=funext fun k=>propext (by
      rw [getD_set];constructor
      ·rintro ((⟨h,_⟩|h)|h)
       ·exact .inl h
       ·exact .inr (.inl h)
       ·exact .inr (.inr h)
      ·rintro (h|h|h)
       ·exact .inl (.inl ⟨h,by omega⟩)
       ·exact .inl (.inr h)
       ·exact .inr h)
     rw [e];exact h6
    ·refine (hf.step hdis j o ho hjn v).congr (fun k=>?_) (fun _ _=>rfl)
     rw [getD_set];constructor
     ·rintro (h|h)
      ·exact .inl ⟨h,by omega⟩
      ·exact .inr h
     ·rintro (⟨h,_⟩|h)
      ·exact .inl h
      ·exact .inr h
theorem wp_region {id:Nat} {a0:Act} {w0:World} (hm:P.follows .mixedOrders=true) (F:Nat→Fact) (nv:Nat) (al:List (Nat × Nat × (Value→Value))) (use:List (List (Nat × Nat))) (bef reads:List (List Nat)) (cons:List (Nat × Nat)) (hchk:Rc.check ops nv use bef reads cons=true)
    (hal:(al.all fun x=>decide (x.1<ops.size)&&(nums use x.1).contains x.2.1)=true) (hsz:(ops.all fun o=>(o.dst.map fun d=>decide (d<a0.tmps.size)).getD true)=true)
    (X0:Nat→Prop) (S0:Nat→Nat→Prop) (h0:Inv F cons (alias al) w0.drew X0 (fun i=>ops.size≤i∧i<ops.size+nv) (fun _=>undef) S0 w0.drew)
    (hstep:∀ a1,a1=a0→Rg.Steps (fun j o=>∀ V S w,Mod w0 w X0→Use F V S w (reads.getD j [])→(∀ i ∈ nums use j,alias al i V (V i))→Does1 P o V (putUse V (use.getD j []) a1) w (Good F cons (alias al) V S j w)) 0 ops.toList)
    (hend:∀ V S w,Inv F cons (alias al) w0.drew X0 (fun i=>i<ops.size+nv) V S w→Q .normal (putList ops.toList 0 V a0) w):(Code.region id ops true).wp P Q a0 w0:=by
 refine wp_region_any hm ?_
 have hchk0:=hchk
 simp only [Rc.check,Bool.and_eq_true] at hchk
 obtain ⟨⟨⟨hdis,_⟩,hops⟩,_⟩:=hchk
 have hal2:(al.all fun x=>(nums use x.1).contains x.2.1)=true:=List.all_eq_true.2 fun x hx=>by
  have:=List.all_eq_true.1 hal x hx
  simp only [Bool.and_eq_true] at this
  exact this.2
 have no:∀ i,¬ ((Array.replicate ops.size false).getD i false=true):=fun i h=>by
  simp [Array.getD_eq_getD_getElem?,Array.getElem?_replicate] at h
  split at h <;> simp at h
 refine run_all (F:=F) (cons:=cons) nv use bef reads hchk0 (alias_dep hal2) a0 w0.drew X0 (fun j hj V v i f hm=>?_) (fun j o ho=>?_) (fun V S w a hi hf=>?_) _ _ (fun _=>undef) S0 _ _ (by simp) ?_ ?_ ?_ ?_
 ·have:=List.all_eq_true.1 hal _ hm
  simp only [Bool.and_eq_true,decide_eq_true_eq] at this
  omega
 ·intro V S w hl hh he
  have h1:=(hstep a0 rfl).get j o (by simpa using ho) V S w hl.undrew (by simpa using hh) (by simpa using he)
  simp only [Nat.zero_add] at h1
  unfold Does1 at h1
  unfold Does
  cases hgd:o.guard with
  | none =>
    rw [hgd] at h1
    exact .inr ⟨by unfold Region.wanted;rw [hgd],h1⟩
  | some gw =>
    obtain ⟨g,want⟩:=gw
    rw [hgd] at h1
    simp only at h1
    have hy:∀ x,V g=.bool x→yielded ops (putUse V (use.getD j []) a0).tmps g=some x:=by
     intro x hx
     have h:=List.all_eq_true.1 hops j (List.mem_range.2 (Array.getElem?_eq_some_iff.1 ho).1)
     simp only [ho,Bool.and_eq_true,hgd] at h
     obtain ⟨⟨⟨⟨⟨⟨h1,_⟩,_⟩,_⟩,h4⟩,_⟩,h6⟩:=h
     have h0:∀ x ∈ use.getD j [],(ops[x.1]?).bind (·.dst)=some x.2:=fun x hx=>by
      have:=List.all_eq_true.1 h1 x hx
      simp only [Bool.and_eq_true,beq_iff_eq] at this
      exact this.1
     have hb:=Frm.putUse (V:=V) (a0:=a0) hdis (use.getD j []) h0 (by simpa [nums] using h4)
     have h6:g ∈ nums use j:=by simpa using h6
     obtain ⟨y,hy,rfl⟩:=List.mem_map.1 h6
     obtain ⟨og,hog,hdg⟩:=Option.bind_eq_some_iff.1 (h0 y hy)
     have hlt:=Array.all_eq_true_iff_forall_mem.1 hsz og (Array.mem_of_getElem? hog)
     simp only [hdg,Option.map_some,Option.getD_some,decide_eq_true_eq] at hlt
     have h7:=hb.put y.1 og y.2 hog hdg h6
     rw [if_pos hlt,hx] at h7
     unfold yielded
     rw [h0 y hy]
     simp only [Option.bind_some]
     rw [h7]
    rcases h1 with ⟨h1,h2⟩|⟨h1,h2⟩
    ·exact .inr ⟨by unfold Region.wanted;rw [hgd];simp only [];rw [hy _ h1];exact beq_self_eq_true _,h2⟩
    ·refine .inl ⟨?_,h2⟩
     unfold Region.wanted;rw [hgd];simp only [];rw [hy _ h1]
     cases want <;> rfl
 ·have h1:=Frm.putList (V:=V) (a0:=a0) hdis ops.toList 0 a0 (fun k _=>by simp) ((Frm.refl ops V a0).congr (fun i=>by simp) fun _ _=>rfl)
  have h2:a=putList ops.toList 0 V a0:=hf.uniq (h1.congr (fun i=>by simp) fun _ _=>rfl)
  rw [h2];exact hend V S w hi
 ·exact Nat.le_trans (List.length_filter_le _ _) (by simp)
 ·intro k o _ hk
  exact absurd hk (no k)
 ·have e:(fun i=>(Array.replicate ops.size false).getD i false=true∨(ops.size≤i∧i<ops.size+nv))=(fun i=>ops.size≤i∧i<ops.size+nv):=funext fun i=>propext ⟨fun h=>h.resolve_left (no i),.inr⟩
  rw [e];exact h0
 ·exact (Frm.refl ops _ a0).congr (fun i=>⟨fun h=>h.elim,fun h=>absurd h (no i)⟩) fun _ _=>rfl
end
theorem Inv.get {F:Nat→Fact} {cons:List (Nat × Nat)} {E:Nat→(Nat→Value)→Value→Prop} {W0:World} {X0:Nat→Prop} {V:Nat→Value} {S:Nat→Nat→Prop} {w:World} {n:Nat} (h:Inv F cons E W0 X0 (fun i=>i<n) V S w) (i:Nat) (hi:i<n) (hc:cons.all (fun x=>x.2 != i)=true):(F i).holds (V i) w (S i) :=
 h.holds i ⟨hi,fun k _ hk=>by have:=List.all_eq_true.1 hc _ hk;simp at this⟩
theorem Inv.none {F:Nat→Fact} {cons:List (Nat × Nat)} {E:Nat→(Nat→Value)→Value→Prop} {w:World} {n:Nat}:Inv F cons E w (fun _=>False) (fun i=>n≤i∧i<n+0) (fun _=>undef) (fun _ _=>False) w :=
 ⟨Mod.refl _ _,fun i h=>by have:=h.1;omega,fun i b h=>by have:=h.1;omega,fun i j b h=>by have:=h.1;omega,fun j h=>by omega⟩
def val (x:Value):Fact:=⟨fun v _ _=>v=x,fun _ _ _ _ h _ _=>h⟩
def any:Fact:=⟨fun _ _ _=>True,fun _ _ _ _ h _ _=>h⟩
section
variable {P:Program} {F:Nat→Fact} {cons:List (Nat × Nat)} {E:Nat→(Nat→Value)→Value→Prop} {V:Nat→Value} {S:Nat→Nat→Prop} {j:Nat} {o:Oper} {b:Act} {w:World}
theorem step_val (x:Value) (hE:E j V x) (hg:Rg.Open o V) (h:(execOp b.eval o).run P w=.ok (.value x) w) (hf:(F j).holds x w (fun _=>False)):Does1 P o V b w (Good F cons E V S j w) :=
 .of hg fun K hK=>by unfold Oper.wp;rw [h];exact hK x w ⟨_,Mod.refl _ _,hf,fun b hb=>hb.elim,hE⟩
theorem step_call {f:FuncId} {xs:Array Operand} {ts:Array TypeId} (args:Array Value) (hent:∀ args w,(callFunc f args).run P w=.ok (.enter f args) w) (hop:o.op=.call { callee:=.value (.func f),args:=xs,argTypes:=ts }) (hargs:xs.map b.eval=args) (hE:∀ v,E j V v) (hg:Rg.Open o V)
    (h:Calls P f args w fun e w'=>∃ v T,e=.returned v∧Mod w w' (Taken cons S j)∧(F j).holds v w' T∧∀ k,T k→(Taken cons S j k∨w.heap.size≤k)∧k<w'.heap.size):Does1 P o V b w (Good F cons E V S j w) :=
 .of hg fun K hK=>by
  have he:(execOp b.eval o).run P w=.ok (.enter f args) w:=by
   subst hargs
   have:execOp b.eval o=callFunc f (#[]++xs.map b.eval++#[]):=by
    obtain ⟨dst,op,ty,pos,after,guard⟩:=o
    simp only at hop
    subst hop
    rfl
   rw [this,hent]
   simp
  unfold Oper.wp;rw [he]
  refine h.mono ?_
  rintro e w' ⟨v,T,rfl,hb,hf,ho⟩
  exact hK v w' ⟨T,hb,hf,ho,hE v⟩
end
end Go.Proofs.YtbnpgakmhhfjkaaGreatDoor.Rc
namespace Go.Proofs.YtbnpgakmhhfjkaaGreatDoor
open Go.RowKit Rc
namespace Ob
structure Obj (σ:Type) where
 At:Value→σ→(Nat→Prop)→World→Prop
 keep:∀ {v s S w w'},At v s S w→w.heap.size≤w'.heap.size→(∀ b,S b→w'.heap[b]?=w.heap[b]?)→At v s S w'
 lt:∀ {v s S w},At v s S w→∀ b,S b→b<w.heap.size
 ptr:∀ {v s S w},At v s S w→∃ a,v=.pointer (some a)
def Turns {σ:Type} (O:Obj σ) (v:Value) (s':σ) (x:Value) (S:Nat→Prop) (w:World) (e:Ending) (w':World):Prop :=
 e=.returned x∧∃ S',O.At v s' S' w'∧Mod w w' S∧∀ b,S' b→S b∨w.heap.size≤b
def Fresh (l:List UInt8) (w:World) (x:Value) (w':World):Prop:=w'.ownsRow w.heap.size 5 1 x l.length (Lib.byteCells l)
theorem Fresh.form {l:List UInt8} {w:World} {x:Value} {w':World} (h:Fresh l w x w'):∃ X c,x=.slice X l.length c∧l.length≤c∧Rd w' X l∧(∀ b,X.map (·.block)=some b→w.heap.size≤b∧b<w'.heap.size):=by
 have h0:=own_base h
 rcases h.2 with ⟨rfl,h1⟩|⟨g,cap,cur,rfl,hb,hh,_⟩
 ·have:l=[]:=List.eq_nil_of_length_eq_zero (by omega)
  subst this
  exact ⟨none,0,rfl,Nat.le_refl _,Rd.nil _ _,fun b hb=>by simp at hb⟩
 ·obtain ⟨X,c,e,hc,hr⟩:=bRow_form (show (bRow l).holds _ w' from h0)
  injection e with e1 e2 e3
  subst e1 e3
  refine ⟨_,_,rfl,hc,hr,fun b hb2=>?_⟩
  simp only [Option.map_some,Option.some.injEq] at hb2
  subst hb2
  exact ⟨hb,(Array.getElem?_eq_some_iff.1 hh).1⟩
structure One {σ:Type} (O:Obj σ) (v:Value) (w0 W0:World) (X0:Nat→Prop) (s:σ) (B:Nat→Prop) (w:World):Prop where
 at_:O.At v s B w
 mod:Mod W0 w X0
 sub:∀ b,B b→X0 b∨W0.heap.size≤b
 low:Below w0.heap.size w0 w
 up:∀ b,B b→w0.heap.size≤b
def Own {σ:Type} (O:Obj σ) (v:Value) (w0 W0:World) (X0:Nat→Prop) (s:σ) (w:World):Prop:=∃ B,One O v w0 W0 X0 s B w
section
variable {σ:Type} {O:Obj σ} {v:Value} {w0 W0:World} {X0 B:Nat→Prop} {s s':σ} {w w':World}
theorem mod_more {X:Nat→Prop} (h:Mod W0 w X0) (hm:Mod w w' X) (hX:∀ b,X b→X0 b∨W0.heap.size≤b):Mod W0 w' X0 :=
 ⟨hm.os.trans h.os,hm.tape.trans h.tape,hm.output.trans h.output,Nat.le_trans h.size hm.size,fun k hk hn=>(hm.block k (Nat.lt_of_lt_of_le hk h.size) fun hx=>by
  rcases hX k hx with h1|h1
  ·exact hn h1
  ·omega).trans (h.block k hk hn)⟩
theorem low_more {X:Nat→Prop} (h:Below w0.heap.size w0 w) (hm:Mod w w' X) (hX:∀ b,X b→w0.heap.size≤b):Below w0.heap.size w0 w':=((Mod.of_below h X).trans hm).below hX
theorem One.turn {S':Nat→Prop} (h:One O v w0 W0 X0 s B w) (ha:O.At v s' S' w') (hm:Mod w w' B) (hs:∀ b,S' b→B b∨w.heap.size≤b):One O v w0 W0 X0 s' S' w' :=
 ⟨ha,mod_more h.mod hm h.sub,fun b hB=>(hs b hB).elim (h.sub b) (fun h1=>.inr (Nat.le_trans h.mod.size h1)),low_more h.low hm h.up,fun b hB=>(hs b hB).elim (h.up b) (fun h1=>Nat.le_trans h.low.size h1)⟩
theorem One.later (h:One O v w0 W0 X0 s B w) (hb:Below w.heap.size w w'):One O v w0 W0 X0 s B w' :=
 ⟨O.keep h.at_ hb.size (fun b hB=>hb.block b (O.lt h.at_ b hB)),mod_more h.mod (Mod.of_below hb (fun _=>False)) (fun _ h=>h.elim),h.sub,h.low.trans (hb.mono h.low.size),h.up⟩
theorem One.own (h:One O v w0 W0 X0 s B w):Own O v w0 W0 X0 s w:=⟨B,h⟩
end
def Ups (B:Nat→Prop) (w0:World):Nat→Prop:=fun b=>B b∨w0.heap.size≤b
section
variable {σ:Type} {F:Nat→Rc.Fact} {cons:List (Nat × Nat)} {E:Nat→(Nat→Value)→Value→Prop} {V:Nat→Value} {S:Nat→Nat→Prop} {j:Nat} {o:Oper} {b:Act} {w w0:World} {B:Nat→Prop}
theorem rc_mv (x:Value) {al:List (Nat × Nat × (Value→Value))} (h:(execOp b.eval o).run Tryz.prog w=.ok (.value x) w) (hF:F j=Rc.val x) (ha:(al.all fun x=>x.1 != j)=true) (hg:Rg.Open o V):Rg.Does1 Tryz.prog o V b w (Rc.Good F cons (Rg.alias al) V S j w) :=
 Rc.step_val x (Rg.alias_none ha V _) hg h (by rw [hF];rfl)
end
theorem One.after {σ:Type} {O:Obj σ} {v:Value} {w0 W0:World} {X0:Nat→Prop} {s s':σ} {B:Nat→Prop} {w w2:World} (h:One O v w0 W0 X0 s B w) (hm:Mod w w2 B) {S:Nat→Prop} (hu:∃ S1,O.At v s' S1 w2∧(∀ b,S1 b→S b)∧∀ b,S1 b→Ups B w b):Own O v w0 W0 X0 s' w2:=by
 obtain ⟨S1,hat,_,hup⟩:=hu
 exact ⟨S1,h.turn hat hm hup⟩
end Ob
end Go.Proofs.YtbnpgakmhhfjkaaGreatDoor
namespace Go.Proofs.YtbnpgakmhhfjkaaGreatDoor
open Go.RowKit Rc
def RdL (w:World) (A:Option Addr) (L:List (List UInt8)):Prop :=
 0<L.length→∃ b off,A=some ⟨b,off,none⟩∧b<w.heap.size∧∀ j x,L[j]?=some x→∃ A' c,w.cell? ⟨b,off+j,none⟩=some (.slice A' x.length c)∧x.length≤c∧Rd w A' x
theorem RdL.below {w w':World} {A:Option Addr} {L:List (List UInt8)} (h:RdL w A L) (hb:Below w.heap.size w w'):RdL w' A L:=by
 intro hl
 obtain ⟨b,off,rfl,hlt,hc⟩:=h hl
 refine ⟨b,off,rfl,Nat.lt_of_lt_of_le hlt hb.size,fun j x hx=>?_⟩
 obtain ⟨A',c,h1,h2,h3⟩:=hc j x hx
 exact ⟨A',c,(hb.cell (p:=⟨b,off+j,none⟩) hlt).trans h1,h2,h3.below hb⟩
def LOwn (B:Nat) (O:Option Addr→List UInt8→Prop) (x:Value) (L:List (List UInt8)) (S:Nat→Prop) (w:World):Prop :=
 ∃ xs:List Value,w.ownsRow B 23 1 x L.length xs∧(∀ b,x.ownBlock=some b→S b)∧∀ (j:Nat) (y:List UInt8),L[j]?=some y→∃ A c,xs[j]?=some (Value.slice A y.length c)∧y.length≤c∧((Rd w A y∧∀ b,A.map (·.block)=some b→S b∧x.ownBlock≠some b)∨O A y)
theorem LOwn.mono {B B':Nat} {O O':Option Addr→List UInt8→Prop} {x:Value} {L:List (List UInt8)} {S S':Nat→Prop} {w:World} (h:LOwn B O x L S w) (hB:B'≤B) (hO:∀ A y,O A y→O' A y) (hS:∀ b,S b→S' b):LOwn B' O' x L S' w:=by
 obtain ⟨xs,h1,h2,h3⟩:=h
 refine ⟨xs,⟨h1.1,?_⟩,fun b hb=>hS b (h2 b hb),fun j y hj=>?_⟩
 ·rcases h1.2 with h|⟨g,cap,cur,h4,h5,h6⟩
  ·exact .inl h
  ·exact .inr ⟨g,cap,cur,h4,by omega,h6⟩
 ·obtain ⟨A,c,h4,h5,h6⟩:=h3 j y hj
  refine ⟨A,c,h4,h5,h6.imp (fun h=>⟨h.1,fun b hb=>⟨hS b (h.2 b hb).1,(h.2 b hb).2⟩⟩) (hO A y)⟩
theorem LOwn.rd {B:Nat} {O:Option Addr→List UInt8→Prop} {x:Value} {L:List (List UInt8)} {S:Nat→Prop} {w:World} (h:LOwn B O x L S w) (hO:∀ A y,O A y→Rd w A y):∃ A c,x=.slice A L.length c∧L.length≤c∧RdL w A L∧(∀ b,A.map (·.block)=some b→S b):=by
 obtain ⟨xs,h1,h2,h3⟩:=h
 rcases h1.2 with ⟨rfl,h0⟩|⟨g,cap,cur,rfl,hb,hg,hn,hm,hsz,hx⟩
 ·exact ⟨none,0,by rw [h0],by omega,fun hp=>by omega,fun b hb=>by simp at hb⟩
 ·refine ⟨_,cap,rfl,hn,fun _=>⟨g,0,rfl,?_,fun j y hj=>?_⟩,fun b hb=>h2 b (by simpa [Value.ownBlock] using hb)⟩
  ·exact (Array.getElem?_eq_some_iff.1 hg).1
  ·obtain ⟨A,c,h4,h5,h6⟩:=h3 j y hj
   refine ⟨A,c,?_,h5,h6.elim (·.1) (hO A y)⟩
   rw [cell_of_row w g (0+j) cur _ _ hg,Nat.zero_add]
   rw [← hx,List.getElem?_take] at h4
   split at h4
   ·simpa using h4
   ·cases h4
section
variable {F:Nat→Rc.Fact} {cons:List (Nat × Nat)} {E:Nat→(Nat→Value)→Value→Prop} {V:Nat→Value} {S:Nat→Nat→Prop} {j:Nat} {o:Oper} {b:Act} {w:World}
end
section
variable {F:Nat→Rc.Fact} {cons:List (Nat × Nat)} {E:Nat→(Nat→Value)→Value→Prop} {V:Nat→Value} {S:Nat→Nat→Prop} {j:Nat} {o:Oper} {b:Act} {w:World}
end
end Go.Proofs.YtbnpgakmhhfjkaaGreatDoor
namespace Go.Proofs.YtbnpgakmhhfjkaaGreatDoor
namespace Sh
def rot (k:Nat) (x:Int):Int:=bits .or .u32 (x*2 ^ (32-k) % 4294967296) (x / 2 ^ k)
def big0 (a:Int):Int:=bits .xor .u32 (bits .xor .u32 (rot 2 a) (rot 13 a)) (rot 22 a)
def big1 (e:Int):Int:=bits .xor .u32 (bits .xor .u32 (rot 6 e) (rot 11 e)) (rot 25 e)
def small0 (x:Int):Int:=bits .xor .u32 (bits .xor .u32 (rot 7 x) (rot 18 x)) (x / 8)
def small1 (x:Int):Int:=bits .xor .u32 (bits .xor .u32 (rot 17 x) (rot 19 x)) (x / 1024)
def cho (e f g:Int):Int:=bits .xor .u32 (bits .and .u32 e f) (bits .and .u32 (bits .xor .u32 IntKind.u32.max e) g)
def maj (a b c:Int):Int:=bits .xor .u32 (bits .xor .u32 (bits .and .u32 a b) (bits .and .u32 a c)) (bits .and .u32 b c)
def roundK:List Int:=[1116352408,1899447441,3049323471,3921009573,961987163,1508970993,2453635748,2870763221,3624381080,310598401,607225278,1426881987,1925078388,2162078206,2614888103,3248222580,3835390401,4022224774,264347078,604807628,770255983,1249150122,1555081692,1996064986,2554220882,2821834349,2952996808,3210313671,3336571891,3584528711,113926993,338241895,666307205,773529912,1294757372,1396182291,1695183700,1986661051,2177026350,2456956037,2730485921,2820302411,3259730800,3345764771,3516065817,3600352804,4094571909,275423344,430227734,506948616,659060556,883997877,958139571,1322822218,1537002063,1747873779,1955562222,2024104815,2227730452,2361852424,2428436474,2756734187,3204031479,3329325298]
def hash0:List Int:=[1779033703,3144134277,1013904242,2773480762,1359893119,2600822924,528734635,1541459225]
structure Reg where
 a:Int
 b:Int
 c:Int
 d:Int
 e:Int
 f:Int
 g:Int
 h:Int
def Reg.one (r:Reg) (k w:Int):Int:=(r.h+big1 r.e+cho r.e r.f r.g+k+w) % 4294967296
def Reg.next (r:Reg) (k w:Int):Reg:={ a:=(r.one k w+big0 r.a+maj r.a r.b r.c) % 4294967296,b:=r.a,c:=r.b,d:=r.c,e:=(r.d+r.one k w) % 4294967296,f:=r.e,g:=r.f,h:=r.g }
theorem next_a (x0 x1 x2 x3 x4 x5 x6 x7 xk xw:Int):((x7+big1 x4+cho x4 x5 x6+xk+xw+big0 x0) % 4294967296+maj x0 x1 x2) % 4294967296=(Reg.next ⟨x0,x1,x2,x3,x4,x5,x6,x7⟩ xk xw).a:=by
 unfold Reg.next Reg.one
 generalize big1 x4=p;generalize cho x4 x5 x6=q;generalize big0 x0=r;generalize maj x0 x1 x2=s
 show _=((x7+p+q+xk+xw) % 4294967296+r+s) % 4294967296
 omega
def regs (ws:List Int) (r:Reg):Nat→Reg
 | 0=>r
 | i+1=>(regs ws r i).next (roundK.getD i 0) (ws.getD i 0)
def more (ws:List Int) (i:Nat):Int:=(ws.getD (i-16) 0+small0 (ws.getD (i-15) 0)+ws.getD (i-7) 0+small1 (ws.getD (i-2) 0)) % 4294967296
def spreadTo (ws:List Int):Nat→List Int
 | 0=>ws
 | n+1=>spreadTo ws n++[more (spreadTo ws n) (16+n)]
def spread (ws:List Int):List Int:=spreadTo ws 48
def Reg.of (l:List Int):Reg:={ a:=l.getD 0 0,b:=l.getD 1 0,c:=l.getD 2 0,d:=l.getD 3 0,e:=l.getD 4 0,f:=l.getD 5 0,g:=l.getD 6 0,h:=l.getD 7 0 }
def Reg.list (r:Reg):List Int:=[r.a,r.b,r.c,r.d,r.e,r.f,r.g,r.h]
def mix (h:List Int) (block:List Int):List Int:=List.zipWith (fun x y=>(x+y) % 4294967296) h (regs (spread block) (Reg.of h) 64).list
def words32 (l:List Int):List Value:=l.map (Value.int .u32)
@[simp] theorem words32_length (l:List Int):(words32 l).length=l.length:=by simp [words32]
theorem words32_get (l:List Int) (i:Nat) (h:i<l.length):(words32 l)[i]?=some (.int .u32 (l.getD i 0)):=by
 simp [words32,List.getElem?_eq_getElem h]
theorem words32_append (a b:List Int):words32 (a++b)=words32 a++words32 b:=by simp [words32]
theorem spreadTo_length (ws:List Int) (n:Nat):(spreadTo ws n).length=ws.length+n:=by
 induction n with
 | zero=>rfl
 | succ n ih=>simp [spreadTo,ih];omega
theorem spread_length (ws:List Int) (h:ws.length=16):(spread ws).length=64:=by simp [spread,spreadTo_length,h]
theorem mix_length (h b:List Int) (hh:h.length=8):(mix h b).length=8:=by simp [mix,hh,Reg.list]
end Sh
end Go.Proofs.YtbnpgakmhhfjkaaGreatDoor
namespace Go.Proofs.YtbnpgakmhhfjkaaGreatDoor
open Go.RowKit Sh
theorem rot2_any (x:Int) (w:World) :
    Calls Tryz.prog 202 #[.int .u32 x,.int .i64 (-2)] w fun e w'=>e=.returned (.int .u32 (rot 2 x))∧w=w':=by
 have h6:bits .and .u64 (IntKind.u64.wrap (-2)) 31=30:=by decide
 have HD:Hid (rot 2 x=bits .or .u32 (x*1073741824 % 4294967296) (x / 4)):=show _=_ from rfl
 go_enter Tryz.func202,Tryz.ntmps202
 go_wp2
 go_ret
 exact ⟨ret_num HD.out,rfl⟩
theorem rot6_any (x:Int) (w:World) :
    Calls Tryz.prog 202 #[.int .u32 x,.int .i64 (-6)] w fun e w'=>e=.returned (.int .u32 (rot 6 x))∧w=w':=by
 have h6:bits .and .u64 (IntKind.u64.wrap (-6)) 31=26:=by decide
 have HD:Hid (rot 6 x=bits .or .u32 (x*67108864 % 4294967296) (x / 64)):=show _=_ from rfl
 go_enter Tryz.func202,Tryz.ntmps202
 go_wp2
 go_ret
 exact ⟨ret_num HD.out,rfl⟩
theorem rot7_any (x:Int) (w:World) :
    Calls Tryz.prog 202 #[.int .u32 x,.int .i64 (-7)] w fun e w'=>e=.returned (.int .u32 (rot 7 x))∧w=w':=by
 have h6:bits .and .u64 (IntKind.u64.wrap (-7)) 31=25:=by decide
 have HD:Hid (rot 7 x=bits .or .u32 (x*33554432 % 4294967296) (x / 128)):=show _=_ from rfl
 go_enter Tryz.func202,Tryz.ntmps202
 go_wp2
 go_ret
 exact ⟨ret_num HD.out,rfl⟩
theorem rot11_any (x:Int) (w:World) :
    Calls Tryz.prog 202 #[.int .u32 x,.int .i64 (-11)] w fun e w'=>e=.returned (.int .u32 (rot 11 x))∧w=w':=by
 have h6:bits .and .u64 (IntKind.u64.wrap (-11)) 31=21:=by decide
 have HD:Hid (rot 11 x=bits .or .u32 (x*2097152 % 4294967296) (x / 2048)):=show _=_ from rfl
 go_enter Tryz.func202,Tryz.ntmps202
 go_wp2
 go_ret
 exact ⟨ret_num HD.out,rfl⟩
theorem rot13_any (x:Int) (w:World) :
    Calls Tryz.prog 202 #[.int .u32 x,.int .i64 (-13)] w fun e w'=>e=.returned (.int .u32 (rot 13 x))∧w=w':=by
 have h6:bits .and .u64 (IntKind.u64.wrap (-13)) 31=19:=by decide
 have HD:Hid (rot 13 x=bits .or .u32 (x*524288 % 4294967296) (x / 8192)):=show _=_ from rfl
 go_enter Tryz.func202,Tryz.ntmps202
 go_wp2
 go_ret
 exact ⟨ret_num HD.out,rfl⟩
theorem rot17_any (x:Int) (w:World) :
    Calls Tryz.prog 202 #[.int .u32 x,.int .i64 (-17)] w fun e w'=>e=.returned (.int .u32 (rot 17 x))∧w=w':=by
 have h6:bits .and .u64 (IntKind.u64.wrap (-17)) 31=15:=by decide
 have HD:Hid (rot 17 x=bits .or .u32 (x*32768 % 4294967296) (x / 131072)):=show _=_ from rfl
 go_enter Tryz.func202,Tryz.ntmps202
 go_wp2
 go_ret
 exact ⟨ret_num HD.out,rfl⟩
theorem rot18_any (x:Int) (w:World) :
    Calls Tryz.prog 202 #[.int .u32 x,.int .i64 (-18)] w fun e w'=>e=.returned (.int .u32 (rot 18 x))∧w=w':=by
 have h6:bits .and .u64 (IntKind.u64.wrap (-18)) 31=14:=by decide
 have HD:Hid (rot 18 x=bits .or .u32 (x*16384 % 4294967296) (x / 262144)):=show _=_ from rfl
 go_enter Tryz.func202,Tryz.ntmps202
 go_wp2
 go_ret
 exact ⟨ret_num HD.out,rfl⟩
theorem rot19_any (x:Int) (w:World) :
    Calls Tryz.prog 202 #[.int .u32 x,.int .i64 (-19)] w fun e w'=>e=.returned (.int .u32 (rot 19 x))∧w=w':=by
 have h6:bits .and .u64 (IntKind.u64.wrap (-19)) 31=13:=by decide
 have HD:Hid (rot 19 x=bits .or .u32 (x*8192 % 4294967296) (x / 524288)):=show _=_ from rfl
 go_enter Tryz.func202,Tryz.ntmps202
 go_wp2
 go_ret
 exact ⟨ret_num HD.out,rfl⟩
theorem rot22_any (x:Int) (w:World) :
    Calls Tryz.prog 202 #[.int .u32 x,.int .i64 (-22)] w fun e w'=>e=.returned (.int .u32 (rot 22 x))∧w=w':=by
 have h6:bits .and .u64 (IntKind.u64.wrap (-22)) 31=10:=by decide
 have HD:Hid (rot 22 x=bits .or .u32 (x*1024 % 4294967296) (x / 4194304)):=show _=_ from rfl
 go_enter Tryz.func202,Tryz.ntmps202
 go_wp2
 go_ret
 exact ⟨ret_num HD.out,rfl⟩
theorem rot25_any (x:Int) (w:World) :
    Calls Tryz.prog 202 #[.int .u32 x,.int .i64 (-25)] w fun e w'=>e=.returned (.int .u32 (rot 25 x))∧w=w':=by
 have h6:bits .and .u64 (IntKind.u64.wrap (-25)) 31=7:=by decide
 have HD:Hid (rot 25 x=bits .or .u32 (x*128 % 4294967296) (x / 33554432)):=show _=_ from rfl
 go_enter Tryz.func202,Tryz.ntmps202
 go_wp2
 go_ret
 exact ⟨ret_num HD.out,rfl⟩
end Go.Proofs.YtbnpgakmhhfjkaaGreatDoor
namespace Go.Proofs.YtbnpgakmhhfjkaaGreatDoor
open Go.RowKit
section
variable {w w':World} {g:Nat} {t:TypeId} {cs:List Value}
end
def noughts (n:Nat):List Value:=Sh.words32 (List.replicate n 0)
theorem noughts_length (n:Nat):(noughts n).length=n:=by simp [noughts]
theorem words32_one (l:List Int):∀ v ∈ Sh.words32 l,v.oneCell'=true:=by
 intro v hv
 obtain ⟨x,_,rfl⟩:=List.mem_map.1 hv
 rfl
end Go.Proofs.YtbnpgakmhhfjkaaGreatDoor
namespace Go.Proofs.YtbnpgakmhhfjkaaGreatDoor
open Go.RowKit Sh
theorem spread_start (b:List Int) (hb:b.length=16):splice (noughts 64) 0 (words32 b)=words32 (spreadTo b 0++List.replicate 48 0):=by
 simp [splice,noughts,spreadTo,words32,hb]
theorem words32_append_noughts (l:List Int) (n:Nat):words32 (l++List.replicate n 0)=words32 l++noughts n:=by simp [words32,noughts]
def SpreadAt (b:List Int) (B:Nat) (w0 wr:World) (i:Nat):Prop :=
 16≤i∧b.length=16∧Blk wr (B+1+1) 244 (words32 (spreadTo b (i-16))++noughts (64-i))∧Blk wr (B+1) 244 (noughts 64)∧Below B w0 wr
theorem SpreadAt.cell {b:List Int} {B:Nat} {w0 wr:World} {i:Nat} (h:SpreadAt b B w0 wr i) (j:Nat) (hj:j<i):wr.cell? ⟨B+1+1,j,none⟩=some (.int .u32 ((spreadTo b (i-16)).getD j 0)):=by
 obtain ⟨h0,hb,h1,_⟩:=h
 have hl:j<(spreadTo b (i-16)).length:=by rw [spreadTo_length];omega
 rw [h1.cell,List.getElem?_append_left (by simpa using hl),words32_get _ _ hl]
theorem SpreadAt.room {b:List Int} {B:Nat} {w0 wr:World} {i:Nat} (h:SpreadAt b B w0 wr i) (hi:i<64):wr.cell? ⟨B+1+1,i,none⟩=some (.int .u32 0):=by
 obtain ⟨h0,hb,h1,_⟩:=h
 have hl:(words32 (spreadTo b (i-16))).length=i:=by rw [words32_length,spreadTo_length];omega
 rw [h1.cell,List.getElem?_append_right (by omega),hl,Nat.sub_self]
 unfold noughts
 rw [words32_get _ _ (by simp;omega)]
 obtain ⟨m,hm⟩:∃ m,64-i=m+1:=⟨63-i,by omega⟩
 rw [hm];rfl
theorem SpreadAt.frozen {b:List Int} {B:Nat} {w0 wr:World} {i:Nat} (h:SpreadAt b B w0 wr i) (j:Nat):wr.frozen? ⟨B+1+1,j,none⟩=false:=h.2.2.1.frozen j
theorem SpreadAt.drewN {b:List Int} {B:Nat} {w0 wr:World} {i:Nat} (h:SpreadAt b B w0 wr i) (n:Nat):SpreadAt b B w0 (wr.drewN n) i:=⟨h.1,h.2.1,h.2.2.1,h.2.2.2.1,⟨h.2.2.2.2.os,h.2.2.2.2.tape,h.2.2.2.2.output,h.2.2.2.2.size,h.2.2.2.2.block⟩⟩
theorem SpreadAt.drew {b:List Int} {B:Nat} {w0 wr:World} {i:Nat} (h:SpreadAt b B w0 wr i):SpreadAt b B w0 wr.drew i:=⟨h.1,h.2.1,h.2.2.1,h.2.2.2.1,h.2.2.2.2.drew⟩
theorem SpreadAt.step {b:List Int} {B:Nat} {w0 wr:World} {i:Nat} (h:SpreadAt b B w0 wr i) (hi:i<64) (x:Int) (hx:x=more (spreadTo b (i-16)) i):SpreadAt b B w0 (wr.setCell ⟨B+1+1,i,none⟩ (.int .u32 x)) (i+1):=by
 obtain ⟨h0,hb,h1,h2,h3⟩:=h
 refine ⟨by omega,hb,?_,h2.far (by simp) _,h3.setCell (by simp;omega) _⟩
 have h4:=h1.set_ i (.int .u32 x)
 have hl:(words32 (spreadTo b (i-16))).length=i:=by rw [words32_length,spreadTo_length];omega
 obtain ⟨n,rfl⟩:∃ n,i=16+n:=⟨i-16,by omega⟩
 have e1:16+n-16=n:=by omega
 have e2:16+n+1-16=n+1:=by omega
 rw [e1] at hl hx h4
 rw [e2]
 have e3:noughts (64-(16+n))=.int .u32 0 :: noughts (64-(16+n+1)):=by
  have:64-(16+n)=(64-(16+n+1))+1:=by omega
  rw [this];rfl
 rw [e3] at h4
 have e4:(words32 (spreadTo b n)++Value.int IntKind.u32 0 :: noughts (64-(16+n+1))).set (16+n) (.int .u32 x)=words32 (spreadTo b (n+1))++noughts (64-(16+n+1)):=by
  rw [List.set_append_right _ _ (by omega),hl,Nat.sub_self,List.set_cons_zero,spreadTo,words32_append,hx]
  simp [words32]
 rw [e4] at h4
 exact h4
theorem spread_facts (b:List Int) (hb:b.length=16):Hid ((Tryz.prog.info? 244).map (·.size)=some (words32 (spread b)).toArray.size)∧Hid ((words32 (spread b)).toArray.all (·.oneCell')=true)∧Hid ((noughts 64).toArray.size=(words32 (spread b)).toArray.size):=by
 have hsz:(words32 (spread b)).toArray.size=64:=by simp [spread_length b hb]
 refine ⟨?_,?_,?_⟩
 ·show _=_
  rw [hsz];kernel_rfl
 ·show _=_
  rw [Array.all_eq_true]
  intro j hj
  exact words32_one (spread b) _ (by simp)
 ·show _=_
  rw [hsz];rfl
set_option maxHeartbeats 1000000 in
set_option maxRecDepth 100000 in
theorem spread_any (b:List Int) (hb:b.length=16) (w:World) :
    Calls Tryz.prog 201 #[.agg (words32 b).toArray] w fun e w'=>e=.returned (.agg (words32 (spread b)).toArray)∧Below w.heap.size w w':=by
 have HB:=Lib.hid hb
 clear hb
 go_enter Tryz.func201,Tryz.ntmps201
 go_wp2
 refine wp_world (fun W=>Hid (Blk W (w.heap.size+1+1) 244 (noughts 64))∧Hid (Blk W (w.heap.size+1) 244 (noughts 64))∧Hid (Blk W w.heap.size 229 (words32 b))∧Hid (Below w.heap.size w W)) ?_ ?_
 ·have e1:=Blk.new w 229 (words32 b)
  have e2:=Blk.new (w.alloc (.cells (words32 b).toArray 229)) 244 (noughts 64)
  have e3:=Blk.new ((w.alloc (.cells (words32 b).toArray 229)).alloc (.cells (noughts 64).toArray 244)) 244 (noughts 64)
  rw [World.size_alloc] at e2
  rw [World.size_alloc,World.size_alloc] at e3
  exact ⟨e3,e2.alloc _,(e1.alloc _).alloc _,(((Below.refl _ _).alloc (Nat.le_refl _) _).alloc (by simp) _).alloc (by simp;omega) _⟩
 rintro W ⟨h1,h2,h3,h4⟩
 have hn:Hid ((words32 b).length=Nat.min 16 64):=by show (words32 b).length=16;rw [words32_length];exact HB.out
 have hf:Hid (0+(words32 b).length≤(noughts 64).length):=by show 0+(words32 b).length≤(noughts 64).length;rw [words32_length,noughts_length,HB.out];decide
 go_region_law (refine step_copy_splice rfl (.tmp 7) (.tmp 8) 252 252 rfl 213 Tryz.underlying252 (by kernel_rfl) (some ⟨w.heap.size+1+1,0,none⟩) (some ⟨w.heap.size,0,none⟩) 64 64 16 16 rfl rfl (w.heap.size+1+1) 0 (noughts 64) 244 h1.out (words32 b) hn.out (fun _=>⟨rfl,_,rfl,fun j v hv=>(Blk.drew h3.out).src0 hv⟩) hf.out (words32_one b) (w.heap.size+1+1) W.drew (Below.refl _ _) (Nat.le_refl _) ?_;intro w1 hg1 hb1)
 have HS:Hid (SpreadAt b w.heap.size w w1 16):=⟨by decide,HB.out,by have:=hg1.out;rw [spread_start b HB.out] at this;rw [words32_append_noughts] at this;exact this,h2.out.below (w:=W.drew) hb1 (by omega),(Below.drew h4.out).trans (hb1.mono (by omega))⟩
 clear hg1 hb1 h1 h2 h3 h4 hn hf
 go_wp2
 go_loopw [4] (fun v wr=>∃ i:Nat,16≤i∧i≤64∧v=.int .i64 i∧Hid (SpreadAt b w.heap.size w wr i)) (fun v _=>64-(intOf v).toNat)
 case atStart=>exact ⟨16,by omega,by omega,rfl,HS⟩
 case round =>
  obtain ⟨i,h16,h64,rfl,H⟩:=hrel
  by_cases hlt:i<64
  ·have c15:=H.out.cell (i-15) (by omega)
   have c2:=H.out.cell (i-2) (by omega)
   have c16:=H.out.cell (i-16) (by omega)
   have c7:=H.out.cell (i-7) (by omega)
   have cr:=H.out.room hlt
   have cf:=H.out.frozen i
   have HM:Hid (more (spreadTo b (i-16)) i=((spreadTo b (i-16)).getD (i-16) 0+small0 ((spreadTo b (i-16)).getD (i-15) 0)+(spreadTo b (i-16)).getD (i-7) 0+small1 ((spreadTo b (i-16)).getD (i-2) 0)) % 4294967296):=show _=_ from rfl
   generalize (spreadTo b (i-16)).getD (i-15) 0=x15 at *
   generalize (spreadTo b (i-16)).getD (i-2) 0=x2 at *
   generalize (spreadTo b (i-16)).getD (i-16) 0=x16 at *
   generalize (spreadTo b (i-16)).getD (i-7) 0=x7 at *
   go_wp2_with fail
   go_quiet (fail)
   go_wp2_with fail
   refine (rot7_any x15 _).mono ?_
   rintro e w' ⟨rfl,rfl⟩
   go_wp2_with fail
   refine (rot18_any x15 _).mono ?_
   rintro e w' ⟨rfl,rfl⟩
   go_wp2_with fail
   refine (rot17_any x2 _).mono ?_
   rintro e w' ⟨rfl,rfl⟩
   go_wp2_with fail
   refine (rot19_any x2 _).mono ?_
   rintro e w' ⟨rfl,rfl⟩
   go_wp2_with fail
   go_region
   all_goals
    go_wp2
    go_roundw
    case rel=>exact ⟨i+1,by omega,by omega,by go_num,((H.out.step hlt _ HM.out.symm).drewN nq).drew⟩
    case measure=>simp [intOf];omega
  ·go_upto_region 10 with (fail)
   have HL:Hid (Blk wr (w.heap.size+1+1) 244 (words32 (spread b))):=by
    have hi:i=64:=by omega
    have:=H.out.2.2.1
    rw [hi] at this
    show Blk wr _ _ _
    simpa [noughts,spread,words32] using this
   have HR:Hid (Blk wr (w.heap.size+1) 244 (noughts 64)):=H.out.2.2.2.1
   have HW:Hid (Below w.heap.size w wr):=H.out.2.2.2.2
   obtain ⟨HI,HA,HZ⟩:=spread_facts b HB.out
   clear H h16 h64 hlt
   go_wp2_with (first
    | (refine wpList_load_row rfl 244 (.tmp 3) rfl (w.heap.size+1+1) rfl 244 (words32 (spread b)).toArray (0,0) _ HL.out Tryz.underlying244 rfl HI.out ?_)
    | (refine wpList_store_row rfl 244 (.tmp 2) (.tmp 53) rfl (w.heap.size+1) (words32 (spread b)).toArray rfl rfl 244 (noughts 64).toArray HR.out HI.out HZ.out HA.out ?_))
   exact bodyPost_ret (v:=.agg (words32 (spread b)).toArray) (results_cell_row rfl _ _ (w.heap.size+1) 244 (words32 (spread b)).toArray (0,0) _ rfl (Blk.row HR.out _) Tryz.underlying244 rfl HI.out) rfl ⟨rfl,below_setRow HW.out (by omega) _⟩
end Go.Proofs.YtbnpgakmhhfjkaaGreatDoor
namespace Go.Proofs.YtbnpgakmhhfjkaaGreatDoor
open Go.RowKit Sh
def KAt (w:World):Prop:=∀ i,i<64→w.cell? ⟨1,i,none⟩=some (.int .u32 (roundK.getD i 0))
theorem KAt.pos {w:World} (h:KAt w):1<w.heap.size:=by
 have:=h 0 (by omega)
 rcases Nat.lt_or_ge 1 w.heap.size with hlt|hge
 ·exact hlt
 ·exfalso
  simp only [World.cell?] at this
  rw [Array.getElem?_eq_none hge] at this
  cases this
theorem KAt.below {B:Nat} {w w':World} (h:KAt w) (hb:Below B w w') (hB:1<B):KAt w':=fun i hi=>(hb.cell hB).trans (h i hi)
theorem KAt.keeps {g:Nat} {w w':World} (h:KAt w) (hb:Keeps w w' g) (hg:1<g):KAt w':=fun i hi=>(hb.cell h.pos (by simp only [ne_eq];omega)).trans (h i hi)
def addTo (h r:List Int):Nat→List Int
 | 0=>h
 | k+1=>(addTo h r k).set k (((addTo h r k).getD k 0+r.getD k 0) % 4294967296)
theorem addTo_length (h r:List Int) (k:Nat):(addTo h r k).length=h.length:=by
 induction k with
 | zero=>rfl
 | succ k ih=>simp [addTo,ih]
theorem addTo_all (h r:List Int) (hh:h.length=8) (hr:r.length=8):addTo h r 8=List.zipWith (fun x y=>(x+y) % 4294967296) h r:=by
 match h,r,hh,hr with
 | [a0,a1,a2,a3,a4,a5,a6,a7],[b0,b1,b2,b3,b4,b5,b6,b7],_,_=>rfl
def MixAt (B T n2:Nat) (tail:List Value) (h ws:List Int) (w0 wr:World):Prop :=
 Blk wr B T (words32 h++tail)∧Blk wr n2 244 (words32 ws)∧KAt wr∧Keeps w0 wr B
theorem MixAt.drewN {B T n2:Nat} {tail:List Value} {h ws:List Int} {w0 wr:World} (x:MixAt B T n2 tail h ws w0 wr) (n:Nat):MixAt B T n2 tail h ws w0 (wr.drewN n):=⟨x.1,x.2.1,x.2.2.1,x.2.2.2.drewN n⟩
theorem MixAt.drew {B T n2:Nat} {tail:List Value} {h ws:List Int} {w0 wr:World} (x:MixAt B T n2 tail h ws w0 wr):MixAt B T n2 tail h ws w0 wr.drew:=⟨x.1,x.2.1,x.2.2.1,x.2.2.2.drew⟩
theorem MixAt.cell {B T n2:Nat} {tail:List Value} {h ws:List Int} {w0 wr:World} (x:MixAt B T n2 tail h ws w0 wr) (i:Nat) (hi:i<h.length):wr.cell? ⟨B,i,none⟩=some (.int .u32 (h.getD i 0)):=by
 rw [x.1.cell,List.getElem?_append_left (by simpa using hi),words32_get _ _ hi]
theorem MixAt.word {B T n2:Nat} {tail:List Value} {h ws:List Int} {w0 wr:World} (x:MixAt B T n2 tail h ws w0 wr) (i:Nat) (hi:i<ws.length):wr.cell? ⟨n2,i,none⟩=some (.int .u32 (ws.getD i 0)):=by
 rw [x.2.1.cell,words32_get _ _ hi]
theorem MixAt.set_ {B T n2:Nat} {tail:List Value} {h ws:List Int} {w0 wr:World} (x:MixAt B T n2 tail h ws w0 wr) (hne:n2≠B) (hB:1<B) (i:Nat) (hi:i<h.length) (v:Int) :
    MixAt B T n2 tail (h.set i v) ws w0 (wr.setCell ⟨B,i,none⟩ (.int .u32 v)):=by
 refine ⟨?_,x.2.1.far hne _,x.2.2.1.keeps ((Keeps.refl wr B).setCell i _) hB,x.2.2.2.setCell i _⟩
 have:=x.1.set_ i (.int .u32 v)
 rw [List.set_append_left _ _ (by simpa using hi)] at this
 have e:(words32 h).set i (.int .u32 v)=words32 (h.set i v):=by simp [words32,List.map_set]
 rw [e] at this
 exact this
theorem block_facts (b:List Int) (hb:b.length=16):Hid ((Tryz.prog.info? 229).map (·.size)=some (words32 b).toArray.size):=by
 have hsz:(words32 b).toArray.size=16:=by simp [hb]
 show _=_
 rw [hsz];kernel_rfl
set_option maxHeartbeats 2000000 in
set_option maxRecDepth 100000 in
theorem mix_any (h:List Int) (hh:h.length=8) (tail:List Value) (blk:List Int) (hb:blk.length=16) (B T:Nat) (w:World) (hB:Blk w B T (words32 h++tail)) (hK:KAt w) (h0:1<B) :
    Calls Tryz.prog 184 #[.pointer (some ⟨B,0,none⟩),.agg (words32 blk).toArray] w fun e w'=>e=.returned (.tuple #[])∧Blk w' B T (words32 (Sh.mix h blk)++tail)∧Keeps w w' B:=by
 have HH:=Lib.hid hh
 have HB:=Lib.hid hb
 have HBLK:Hid (Blk w B T (words32 h++tail)):=hB
 have HK:Hid (KAt w):=hK
 have hlt:=hB.lt
 clear hh hb hB hK
 go_enter Tryz.func184,Tryz.ntmps184
 go_upto_region 1 with (fail)
 obtain ⟨HI,HA,HZ⟩:=spread_facts blk HB.out
 have HJ:=block_facts blk HB.out
 have h1:Hid (Blk (w.alloc (.cells (words32 blk).toArray 229)) w.heap.size 229 (words32 blk)):=Blk.new w _ _
 go_wp2_with (first
  | (refine wpList_load_row rfl 229 (.tmp 3) rfl w.heap.size rfl 229 (words32 blk).toArray (0,0) _ h1.out Tryz.underlying229 rfl HJ.out ?_))
 refine (spread_any blk HB.out _).mono ?_
 rintro e w1 ⟨rfl,hb1⟩
 have HB1:Hid (Below (w.heap.size+1) (w.alloc (.cells (words32 blk).toArray 229)) w1):=by rw [World.size_alloc] at hb1;exact hb1
 have hs1:w.heap.size<w1.heap.size:=by have:=HB1.out.size;rw [World.size_alloc] at this;omega
 clear hb1
 have h2:Hid (Blk (w1.alloc (.cells (noughts 64).toArray 244)) w1.heap.size 244 (noughts 64)):=Blk.new w1 _ _
 go_wp2_with (first
  | (refine wpList_store_row rfl 244 (.tmp 4) (.tmp 21) rfl w1.heap.size (words32 (spread blk)).toArray rfl rfl 244 (noughts 64).toArray h2.out HI.out HZ.out HA.out ?_))
 refine wp_world (fun W=>Hid (MixAt B T w1.heap.size tail h (spread blk) w W)) ?_ ?_
 ·have k1:Keeps w w1 B:=(Keeps.of_below ((Below.refl _ _).alloc (Nat.le_refl _) _)).trans (Keeps.of_below (by rw [World.size_alloc];exact HB1.out))
  have k2:Keeps w ((w1.alloc (.cells (noughts 64).toArray 244)).setRow w1.heap.size (words32 (spread blk)).toArray) B :=
   k1.trans (Keeps.of_below (below_setRow ((Below.refl _ _).alloc (Nat.le_refl _) _) (Nat.le_refl _) _))
  refine ⟨?_,h2.out.row _,HK.out.keeps k2 h0,k2⟩
  exact ((((HBLK.out.alloc _).below HB1.out (by omega))).alloc _).rowFar (by omega) _
 intro W HM
 obtain ⟨a,b,c,d,e5,f,g,h8,rfl⟩:∃ a b c d e5 f g h8,h=[a,b,c,d,e5,f,g,h8]:=by
  match h,HH.out with
  | [a,b,c,d,e5,f,g,h8],_=>exact ⟨a,b,c,d,e5,f,g,h8,rfl⟩
 have c0:=HM.out.cell 0 (by simp)
 have c1:=HM.out.cell 1 (by simp)
 have c2:=HM.out.cell 2 (by simp)
 have c3:=HM.out.cell 3 (by simp)
 have c4:=HM.out.cell 4 (by simp)
 have c5:=HM.out.cell 5 (by simp)
 have c6:=HM.out.cell 6 (by simp)
 have c7:=HM.out.cell 7 (by simp)
 simp only [List.getD_cons_zero,List.getD_cons_succ] at c0 c1 c2 c3 c4 c5 c6 c7
 clear HI HA HZ HJ h1 h2
 go_quiet (fail)
 go_wp2_with fail
 have HM2:Hid (MixAt B T w1.heap.size tail [a,b,c,d,e5,f,g,h8] (spread blk) w (W.drewN nq)):=HM.out.drewN nq
 clear c0 c1 c2 c3 c4 c5 c6 c7 HM
 have hne:w1.heap.size≠B:=by omega
 have HNE:=Lib.hid hne
 clear hne
 generalize w1.heap.size=n2 at *
 go_loopw [5,6,7,8,9,10,11,12,54] (fun t5 t6 t7 t8 t9 t10 t11 t12 t54 wr=>∃ (k:Nat) (R:Reg),k≤64∧t54=.int .i64 k∧Hid (R=regs (spread blk) (Reg.of [a,b,c,d,e5,f,g,h8]) k)∧t5=.int .u32 R.a∧t6=.int .u32 R.b∧t7=.int .u32 R.c∧t8=.int .u32 R.d∧t9=.int .u32 R.e∧t10=.int .u32 R.f∧t11=.int .u32 R.g∧t12=.int .u32 R.h∧Hid (MixAt B T n2 tail [a,b,c,d,e5,f,g,h8] (spread blk) w wr)) (fun _ _ _ _ _ _ _ _ t54 _=>64-(intOf t54).toNat)
 case atStart=>exact ⟨0,Reg.of [a,b,c,d,e5,f,g,h8],by omega,rfl,rfl,rfl,rfl,rfl,rfl,rfl,rfl,rfl,rfl,HM2⟩
 case round =>
  obtain ⟨k,⟨x0,x1,x2,x3,x4,x5,x6,x7⟩,hk,rfl,HR,rfl,rfl,rfl,rfl,rfl,rfl,rfl,rfl,HM⟩:=hrel
  by_cases hlt:k<64
  ·have cw:=HM.out.word k (by rw [spread_length blk HB.out];exact hlt)
   have ck:=HM.out.2.2.1 k hlt
   have HN:Hid (regs (spread blk) (Reg.of [a,b,c,d,e5,f,g,h8]) (k+1)=(regs (spread blk) (Reg.of [a,b,c,d,e5,f,g,h8]) k).next (roundK.getD k 0) ((spread blk).getD k 0)):=rfl
   generalize (spread blk).getD k 0=xw at *
   generalize roundK.getD k 0=xk at *
   go_wp2_with fail
   refine (rot6_any x4 _).mono ?_
   rintro e w' ⟨rfl,rfl⟩
   go_wp2_with fail
   refine (rot11_any x4 _).mono ?_
   rintro e w' ⟨rfl,rfl⟩
   go_wp2_with fail
   refine (rot25_any x4 _).mono ?_
   rintro e w' ⟨rfl,rfl⟩
   go_wp2_with fail
   go_quiet (fail)
   go_wp2_with fail
   refine (rot2_any x0 _).mono ?_
   rintro e w' ⟨rfl,rfl⟩
   go_wp2_with fail
   refine (rot13_any x0 _).mono ?_
   rintro e w' ⟨rfl,rfl⟩
   go_wp2_with fail
   refine (rot22_any x0 _).mono ?_
   rintro e w' ⟨rfl,rfl⟩
   go_wp2_with fail
   go_roundw
   case rel =>
    exact ⟨k+1,Reg.next ⟨x0,x1,x2,x3,x4,x5,x6,x7⟩ xk xw,by omega,by go_num,by show _=_;rw [HN.out,← HR.out],congrArg _ (next_a x0 x1 x2 x3 x4 x5 x6 x7 xk xw),rfl,rfl,rfl,rfl,rfl,rfl,rfl,HM.out.drewN nq⟩
   case measure=>simp [intOf];omega
  ·go_upto_region 13 with (fail)
   have HR8:Hid (Sh.mix [a,b,c,d,e5,f,g,h8] blk=addTo [a,b,c,d,e5,f,g,h8] [x0,x1,x2,x3,x4,x5,x6,x7] 8):=by
    show _=_
    have hk64:k=64:=by omega
    rw [addTo_all _ _ rfl rfl]
    unfold Sh.mix
    have:=HR.out
    rw [hk64] at this
    rw [← this]
    rfl
   clear HR hlt hk
   have hidx:∀ (j:Nat) (w:World),j<8→(Instr.index 223 (.agg #[.int .u32 x0,.int .u32 x1,.int .u32 x2,.int .u32 x3,.int .u32 x4,.int .u32 x5,.int .u32 x6,.int .u32 x7]) (.int .i64 j)).run Tryz.prog w=.ok (.int .u32 ([x0,x1,x2,x3,x4,x5,x6,x7].getD j 0)) w:=by
    intro j w hj
    obtain rfl|rfl|rfl|rfl|rfl|rfl|rfl|rfl:j=0∨j=1∨j=2∨j=3∨j=4∨j=5∨j=6∨j=7:=by omega
    all_goals kernel_rfl
   have HIDX:=Lib.hid hidx
   clear hidx
   go_wp2_with fail
   go_loopw [129] (fun t wr2=>∃ j:Nat,j≤8∧t=.int .i64 j∧Hid (MixAt B T n2 tail (addTo [a,b,c,d,e5,f,g,h8] [x0,x1,x2,x3,x4,x5,x6,x7] j) (spread blk) w wr2)) (fun t _=>8-(intOf t).toNat)
   case atStart=>exact ⟨0,by omega,rfl,HM⟩
   case round =>
    obtain ⟨j,hj,rfl,HJ⟩:=hrel
    by_cases hlt2:j<8
    ·have hlen:j<(addTo [a,b,c,d,e5,f,g,h8] [x0,x1,x2,x3,x4,x5,x6,x7] j).length:=by rw [addTo_length];exact hlt2
     have cj:=HJ.out.cell j hlen
     have cf:=HJ.out.1.frozen j
     have hix:=fun w=>HIDX.out j w hlt2
     have HA:Hid (addTo [a,b,c,d,e5,f,g,h8] [x0,x1,x2,x3,x4,x5,x6,x7] (j+1)=(addTo [a,b,c,d,e5,f,g,h8] [x0,x1,x2,x3,x4,x5,x6,x7] j).set j (((addTo [a,b,c,d,e5,f,g,h8] [x0,x1,x2,x3,x4,x5,x6,x7] j).getD j 0+[x0,x1,x2,x3,x4,x5,x6,x7].getD j 0) % 4294967296)):=rfl
     have HL:=Lib.hid hlen
     clear hlen
     generalize (addTo [a,b,c,d,e5,f,g,h8] [x0,x1,x2,x3,x4,x5,x6,x7] j).getD j 0=y at *
     generalize [x0,x1,x2,x3,x4,x5,x6,x7].getD j 0=z at *
     go_wp2_with fail
     go_region
     all_goals
      go_wp2_with fail
      go_roundw
      case rel=>exact ⟨j+1,by omega,by go_num,by show MixAt _ _ _ _ _ _ _ _;rw [HA.out];exact (HJ.out.set_ HNE.out h0 j HL.out _).drew⟩
      case measure=>simp [intOf];omega
    ·obtain rfl:j=8:=by omega
     have HF:Hid (Blk wr B T (words32 (Sh.mix [a,b,c,d,e5,f,g,h8] blk)++tail)∧Keeps w wr B):=by
      show _∧_
      rw [HR8.out]
      exact ⟨HJ.out.1,HJ.out.2.2.2⟩
     clear HJ HR8
     go_wp2_with fail
     go_end0
     exact ⟨rfl,HF.out⟩
end Go.Proofs.YtbnpgakmhhfjkaaGreatDoor
namespace Go.Proofs.YtbnpgakmhhfjkaaGreatDoor
open Go.ChangeShapes Go.WideShapes Go.RowKit Go.Deep Sh
theorem Tryz.kname:Tryz.prog.globalNamed "permafrost/sha.roundWords"=some 1:=by kernel_rfl
theorem Tryz.ktype:(Tryz.prog.globals[1]?).map (·.type)=some 244:=by kernel_rfl
theorem Tryz.cellsU32:Tryz.prog.cellsOf 213=1:=by kernel_rfl
theorem laid_is:(Rows.laid_permafrost_sha_roundWords:DataW Unit)=.agg (roundK.map fun n=>.lit (.int .u32 n)):=by rfl
theorem kat_of_laid {W:World} (h:laidMetH Tryz.prog [("permafrost/sha.roundWords",Rows.laid_permafrost_sha_roundWords)] W):KAt W:=by
 have h':laidMet Tryz.prog [("permafrost/sha.roundWords",Rows.laid_permafrost_sha_roundWords)] W:=h
 obtain ⟨ps,⟨g,t,cs,fuel,p,q,e1,e2,e3,e4,_,_⟩,_⟩:=h'
 obtain rfl:=Option.some.inj (Tryz.kname.symm.trans e1)
 obtain rfl:=Option.some.inj (Tryz.ktype.symm.trans e2)
 obtain ⟨xs,m,_,hx,hcl,hxl,hi⟩:=DataW.trod_array Tryz.underlying244 e4
 simp only [Prod.mk.injEq] at hx
 rw [laid_is] at hx
 have hx1:roundK.map (fun n=>(DataW.lit (.int .u32 n):DataW Unit))=xs.map (·.1):=by
  have:=hx.1
  injection this
 intro i hlt
 have h1:=hi i hlt
 rw [Tryz.cellsU32,Nat.mul_one] at h1
 have hxi:xs[i]?=some (xs[i]'(by omega)):=List.getElem?_eq_getElem _
 rw [hxi] at h1
 obtain ⟨n,hn1,hn2,_⟩:=DataW.trod_int Tryz.underlying213 h1
 have hk:(roundK.map (fun n=>(DataW.lit (.int .u32 n):DataW Unit)))[i]?=(xs.map (·.1))[i]?:=by rw [hx1]
 rw [List.getElem?_map,List.getElem?_map,hxi,hn2] at hk
 have hlen:roundK.length=64:=rfl
 have hr:roundK[i]?=some (roundK[i]'(by omega)):=List.getElem?_eq_getElem _
 rw [hr] at hk
 simp only [Option.map_some,Option.some.injEq,DataW.lit.injEq,Lit.int.injEq,true_and] at hk
 rw [World.var?_cell e1 e3 i]
 have h2:(cs.toList.drop i)[0]?=some (.int .u32 n):=by
  have:((cs.toList.drop i).take 1)[0]?=some (.int .u32 n):=by rw [hn1];rfl
  rwa [List.getElem?_take_of_lt (by omega)] at this
 simp only [List.getElem?_drop,Nat.add_zero,Array.getElem?_toList] at h2
 rw [h2,← hk]
 simp [List.getD,hr]
noncomputable def laidWorld (os:Os):World :=
 let w0:=World.holding Tryz.prog os ⟨#[],#[],[]⟩
 { w0 with heap:=w0.heap.modify 1 fun
     | .cells _ t frozen=>.cells (words32 roundK).toArray t frozen
     | o=>o }
theorem laidWorld_met (os:Os) (args:Array Value):laidMetH Tryz.prog [("permafrost/sha.roundWords",Rows.laid_permafrost_sha_roundWords)] ((laidWorld os).forCall (fun _ _=>0) ⟨#[],args,[]⟩).memory :=
 laidMet_of_run' 8 (by kernel_rfl) (by kernel_rfl)
end Go.Proofs.YtbnpgakmhhfjkaaGreatDoor
namespace Go.Proofs.YtbnpgakmhhfjkaaGreatDoor
open Go.ChangeShapes Go.WideShapes Go.RowKit Go.Deep
theorem Tryz.cellsInt:Tryz.prog.cellsOf 3=1:=by kernel_rfl
theorem ints_of {H:Type} {enc:TypeId × Value→H} {W:World} {fuel:Nat} {v:Value} {x:DataW H × List MemPlace}
    (h:DataW.trod enc Tryz.prog W 0 (fun _=>true) true fuel 50 [v]=some x) :
    ∃ (l:List Int) (A:Option Addr) (cap:Nat),v=.slice A l.length cap∧l.length≤cap∧l.length≤9223372036854775807∧RdI W A l:=by
 obtain ⟨ns,A,cap,hv,hl,hm,hn⟩:=nums_of Tryz.underlying50 Tryz.underlying3 Tryz.cellsInt h
 exact ⟨ns,A,cap,hv,hl,max_le (Nat.le_trans hl hm),fun j n hj=>⟨bounds_i64 (hn j n hj).1,(hn j n hj).2⟩⟩
end Go.Proofs.YtbnpgakmhhfjkaaGreatDoor
namespace Go.Proofs.YtbnpgakmhhfjkaaGreatDoor
open Go.RowKit
theorem own_far {w:World} {base n:Nat} {v:Value} {xs:List Value} (h:w.ownsRow base 5 1 v n xs) (p:Addr) (hne:v.ownBlock≠some p.block) (u:Value):(w.setCell p u).ownsRow base 5 1 v n xs:=by
 refine ⟨h.1,?_⟩
 rcases h.2 with h2|⟨g,cap,cur,h3,h4,h5,h6⟩
 ·exact .inl h2
 ·subst h3
  refine .inr ⟨g,cap,cur,rfl,h4,?_,h6⟩
  rw [Below.heap_setCell w p u g (fun e=>hne (by rw [← e];rfl))]
  exact h5
end Go.Proofs.YtbnpgakmhhfjkaaGreatDoor
namespace Go.Proofs.YtbnpgakmhhfjkaaGreatDoor
open Go.RowKit
namespace Co
def wByte (n:Nat):List UInt8:=[UInt8.ofNat n]
def wShort (n:Nat):List UInt8:=[UInt8.ofNat (n / 256),UInt8.ofNat n]
def wLong (n:Nat):List UInt8:=(List.range 8).map fun j=>UInt8.ofNat (n / 2 ^ (56-8*j))
def wFlag (f:Bool):List UInt8:=[if f then 1 else 0]
def wBytes (x:List UInt8):List UInt8:=wShort (x.take 65535).length++x.take 65535
theorem wLong_length (n:Nat):(wLong n).length=8:=by simp [wLong]
structure Rs where
 rem:List UInt8
 why:Nat
def raw (n:Int) (s:Rs):List UInt8 × Rs :=
 if s.why≠0∨n<1 then ([],s) else if (s.rem.length:Int)<n then ([],{ s with why:=10 }) else (s.rem.take n.toNat,{ s with rem:=s.rem.drop n.toNat })
def beVal (l:List UInt8):Nat:=l.foldl (fun x b=>(x*256+b.toNat) % 18446744073709551616) 0
def num (n:Int) (s:Rs):Nat × Rs:=(beVal (raw n s).1,(raw n s).2)
def flag (s:Rs):Bool × Rs:=(decide ((num 1 s).1=1),if 1<(num 1 s).1 then { (num 1 s).2 with why:=12 } else (num 1 s).2)
def bytes (s:Rs):List UInt8 × Rs:=raw ((num 2 s).1:Nat) (num 2 s).2
def left (s:Rs):Nat:=if s.why≠0 then 0 else s.rem.length
def fin (s:Rs):Nat:=if s.why≠0 then s.why else if 0<s.rem.length then 11 else 0
end Co
theorem MAt.empty (w:World):MAt w.heap.size (.slice (some ⟨w.heap.size,0,none⟩) 0 0) [] w (w.alloc (.cells #[] 5)) :=
 ⟨⟨rfl,.inr ⟨w.heap.size,0,#[],rfl,Nat.le_refl _,heap_alloc_new w _,Nat.le_refl _,by unfold maxLen;omega,rfl,rfl⟩⟩,below_new w _,rfl⟩
theorem rd_cells (w:World) (l:List UInt8) (cs:Array Value) (t:TypeId) (fz:Nat × Nat) (h:cs=(Lib.byteCells l).toArray):Rd (w.alloc (.cells cs t fz)) (some ⟨w.heap.size,0,none⟩) l:=by
 subst h;exact rd_alloc w l t fz
theorem u8_cast (n:Nat):(((UInt8.ofNat n).toNat:Nat):Int)=(n:Int) % 256:=by rw [UInt8.toNat_ofNat'];omega
end Go.Proofs.YtbnpgakmhhfjkaaGreatDoor
namespace Go.Proofs.YtbnpgakmhhfjkaaGreatDoor
open Go.RowKit
namespace Co
theorem raw_app (x r:List UInt8) (n:Int) (h:n=x.length) (h1:1≤n):raw n ⟨x++r,0⟩=(x,⟨r,0⟩):=by
 subst h
 unfold raw
 rw [if_neg (by simp only [ne_eq,not_true_eq_false,false_or];omega),if_neg (by simp only [List.length_append];omega)]
 simp
theorem num_app (x r:List UInt8) (n:Int) (h:n=x.length) (h1:1≤n):num n ⟨x++r,0⟩=(beVal x,⟨r,0⟩):=by
 unfold num;rw [raw_app x r n h h1]
theorem num_byte (n:Nat) (r:List UInt8):num 1 ⟨wByte n++r,0⟩=(n % 256,⟨r,0⟩):=by
 rw [num_app _ _ _ (by rfl) (by decide)]
 simp only [beVal,wByte,List.foldl_cons,List.foldl_nil,UInt8.toNat_ofNat']
 congr 1;omega
theorem num_short (n:Nat) (r:List UInt8):num 2 ⟨wShort n++r,0⟩=(n % 65536,⟨r,0⟩):=by
 rw [num_app _ _ _ (by rfl) (by decide)]
 simp only [beVal,wShort,List.foldl_cons,List.foldl_nil,UInt8.toNat_ofNat']
 congr 1;omega
theorem wLong_is (n:Nat):wLong n=[UInt8.ofNat (n / 72057594037927936),UInt8.ofNat (n / 281474976710656),UInt8.ofNat (n / 1099511627776),UInt8.ofNat (n / 4294967296),UInt8.ofNat (n / 16777216),UInt8.ofNat (n / 65536),UInt8.ofNat (n / 256),UInt8.ofNat n]:=by
 have e:List.range 8=[0,1,2,3,4,5,6,7]:=by decide
 unfold wLong
 rw [e]
 simp
theorem dig (n d:Nat) (hn:n≤18446744073709551615):(n / (d*256)*256+n / d % 2 ^ 8) % 18446744073709551616=n / d:=by
 rw [← Nat.div_div_eq_div_mul]
 have h:=Nat.div_le_self n d
 generalize n / d=q at h
 omega
theorem num_long (n:Nat) (hn:n≤18446744073709551615) (r:List UInt8):num 8 ⟨wLong n++r,0⟩=(n,⟨r,0⟩):=by
 rw [num_app _ _ _ (by rw [wLong_length];rfl) (by decide)]
 simp only [beVal,wLong_is,List.foldl_cons,List.foldl_nil,UInt8.toNat_ofNat']
 have s0:(0*256+n / 72057594037927936 % 2 ^ 8) % 18446744073709551616=n / 72057594037927936:=by
  have:=Nat.div_lt_of_lt_mul (m:=n) (n:=72057594037927936) (k:=256) (by omega)
  generalize n / 72057594037927936=q at this
  omega
 have s1:=dig n 281474976710656 hn
 have s2:=dig n 1099511627776 hn
 have s3:=dig n 4294967296 hn
 have s4:=dig n 16777216 hn
 have s5:=dig n 65536 hn
 have s6:=dig n 256 hn
 have s7:=dig n 1 hn
 simp only [Nat.reduceMul,Nat.div_one] at s1 s2 s3 s4 s5 s6 s7
 rw [s0,s1,s2,s3,s4,s5,s6,s7]
theorem num_one (b:UInt8) (r:List UInt8):num 1 ⟨b :: r,0⟩=(b.toNat,⟨r,0⟩):=by
 rw [show b :: r=[b]++r from rfl,num_app _ _ _ (by rfl) (by decide)]
 simp only [beVal,List.foldl_cons,List.foldl_nil]
 have:=b.toNat_lt
 congr 1;omega
theorem flag_one (b:UInt8) (r:List UInt8):flag ⟨b :: r,0⟩=(decide (b.toNat=1),if 1<b.toNat then ⟨r,12⟩ else ⟨r,0⟩):=by
 unfold flag;rw [num_one]
theorem flag_app (f:Bool) (r:List UInt8):flag ⟨wFlag f++r,0⟩=(f,⟨r,0⟩):=by
 cases f
 ·exact flag_one 0 r
 ·exact flag_one 1 r
theorem bytes_app (x r:List UInt8) (hx:x.length≤65535):bytes ⟨wBytes x++r,0⟩=(x,⟨r,0⟩):=by
 have ht:x.take 65535=x:=List.take_of_length_le hx
 unfold bytes wBytes
 rw [ht,List.append_assoc,num_short]
 show raw ((x.length % 65536:Nat):Int) ⟨x++r,0⟩=_
 rw [Nat.mod_eq_of_lt (by omega)]
 by_cases h:x=[]
 ·subst h;rfl
 ·have:0<x.length:=List.length_pos_iff.2 h
  exact raw_app x r _ rfl (by omega)
end Co
end Go.Proofs.YtbnpgakmhhfjkaaGreatDoor
namespace Go.Proofs.YtbnpgakmhhfjkaaGreatDoor
open Go.RowKit
namespace Co
theorem bits_or64 (x b:Nat) (hb:b<256):bits .or .u64 (IntKind.u64.wrap ((x:Int)*(256:Int))) (b:Int)=(((x*256+b) % 18446744073709551616:Nat):Int):=by
 show IntKind.u64.wrap ((BitVec.ofInt 64 _ ||| BitVec.ofInt 64 _).toNat:Int)=_
 obtain ⟨y,hy⟩:∃ y:Nat,y=(x % 72057594037927936) <<< 8:=⟨_,rfl⟩
 have hy2:y=(x % 72057594037927936)*256:=by rw [hy,Nat.shiftLeft_eq]
 have hx:IntKind.u64.wrap ((x:Int)*(256:Int))=(y:Int):=by rw [IntKind.wrap_u64];omega
 have hor:y ||| b=y+b:=by rw [hy];exact (Nat.shiftLeft_add_eq_or_of_lt (by omega:b<2 ^ 8) _).symm
 rw [hx,BitVec.ofInt_natCast,BitVec.ofInt_natCast,BitVec.toNat_or,BitVec.toNat_ofNat,BitVec.toNat_ofNat,Nat.mod_eq_of_lt (by omega),Nat.mod_eq_of_lt (by omega),hor]
 rw [IntKind.wrap_u64]
 omega
theorem beVal_snoc (l:List UInt8) (k:Nat) (h:k<l.length):beVal (l.take (k+1))=(beVal (l.take k)*256+(l.getD k 0).toNat) % 18446744073709551616:=by
 rw [List.take_succ_eq_append_getElem h,beVal,beVal,List.foldl_append]
 simp only [List.foldl_cons,List.foldl_nil,List.getD,List.getElem?_eq_getElem h,Option.getD_some]
end Co
theorem own_up {w:World} {B n:Nat} {v:Value} {xs:List Value} (h:w.ownsRow 0 5 1 v n xs) (hb:∀ b,v.ownBlock=some b→B≤b):w.ownsRow B 5 1 v n xs:=by
 refine ⟨h.1,?_⟩
 rcases h.2 with h2|⟨g,cap,cur,rfl,h4,h5⟩
 ·exact .inl h2
 ·exact .inr ⟨g,cap,cur,rfl,hb g rfl,h5⟩
theorem own_nil (w:World) (B:Nat):w.ownsRow B 5 1 (.slice none 0 0) 0 (Lib.byteCells []):=⟨rfl,.inl ⟨rfl,rfl⟩⟩
theorem own_form {w:World} {B:Nat} {v:Value} {l:List UInt8} (h:w.ownsRow B 5 1 v l.length (Lib.byteCells l)):∃ X c,v=.slice X l.length c∧l.length≤c∧Rd w X l:=bRow_form (own_base h)
theorem num_small1 (s:Co.Rs):(Co.num 1 s).1<256:=by
 unfold Co.num Co.raw
 split
 ·exact (by decide:Co.beVal []<256)
 ·split
  ·exact (by decide:Co.beVal []<256)
  ·show Co.beVal (s.rem.take 1)<256
   rcases s.rem with _|⟨a,t⟩
   ·decide
   ·have:=a.toNat_lt
    simp [Co.beVal]
    omega
theorem num_small2 (s:Co.Rs):(Co.num 2 s).1<65536:=by
 unfold Co.num Co.raw
 split
 ·exact (by decide:Co.beVal []<65536)
 ·split
  ·exact (by decide:Co.beVal []<65536)
  ·show Co.beVal (s.rem.take 2)<65536
   rcases s.rem with _|⟨a,_|⟨b,t⟩⟩
   ·decide
   ·have:=a.toNat_lt
    simp [Co.beVal]
    omega
   ·have:=a.toNat_lt
    have:=b.toNat_lt
    simp [Co.beVal]
    omega
theorem one_eq (x:Nat):((x:Int)==1)=decide (x=1):=by rw [Bool.eq_iff_iff];simp;omega
end Go.Proofs.YtbnpgakmhhfjkaaGreatDoor
namespace Go.Proofs.YtbnpgakmhhfjkaaGreatDoor
open Go.RowKit
namespace Co
theorem raw_inv (k:Nat) (s:Rs) (hk:1≤k) (h:(raw (k:Int) s).2.why=0):s.why=0∧(raw (k:Int) s).1.length=k∧s.rem=(raw (k:Int) s).1++(raw (k:Int) s).2.rem:=by
 unfold raw at h ⊢
 by_cases h1:s.why≠0∨(k:Int)<1
 ·rw [if_pos h1] at h
  rcases h1 with h1|h1
  ·exact absurd h h1
  ·omega
 ·rw [if_neg h1] at h ⊢
  by_cases h2:(s.rem.length:Int)<(k:Int)
  ·rw [if_pos h2] at h
   exact absurd h (by simp)
  ·rw [if_neg h2] at h ⊢
   refine ⟨h,?_,?_⟩
   ·show (s.rem.take (k:Int).toNat).length=k
    rw [List.length_take];omega
   ·show s.rem=s.rem.take (k:Int).toNat++s.rem.drop (k:Int).toNat
    rw [List.take_append_drop]
theorem num_inv (k:Nat) (s:Rs) (hk:1≤k) (h:(num (k:Int) s).2.why=0):s.why=0∧∃ x:List UInt8,x.length=k∧(num (k:Int) s).1=beVal x∧s.rem=x++(num (k:Int) s).2.rem:=by
 obtain ⟨h1,h2,h3⟩:=raw_inv k s hk h
 exact ⟨h1,_,h2,rfl,h3⟩
theorem byte_inv (s:Rs) (h:(num 1 s).2.why=0):s.why=0∧(num 1 s).1<256∧s.rem=wByte (num 1 s).1++(num 1 s).2.rem:=by
 obtain ⟨h1,x,h2,h3,h4⟩:=num_inv 1 s (by omega) h
 have h5:(num 1 s).1=beVal x:=h3
 have h6:s.rem=x++(num 1 s).2.rem:=h4
 match x,h2 with
 | [a],_ =>
   have ha:=a.toNat_lt
   have e:beVal [a]=a.toNat:=by
    simp only [beVal,List.foldl_cons,List.foldl_nil]
    omega
   rw [e] at h5
   refine ⟨h1,by omega,?_⟩
   rw [h6,h5]
   simp [wByte]
theorem short_inv (s:Rs) (h:(num 2 s).2.why=0):s.why=0∧(num 2 s).1<65536∧s.rem=wShort (num 2 s).1++(num 2 s).2.rem:=by
 obtain ⟨h1,x,h2,h3,h4⟩:=num_inv 2 s (by omega) h
 have h5:(num 2 s).1=beVal x:=h3
 have h6:s.rem=x++(num 2 s).2.rem:=h4
 match x,h2 with
 | [a,b],_ =>
   have ha:=a.toNat_lt
   have hb:=b.toNat_lt
   have e:beVal [a,b]=a.toNat*256+b.toNat:=by
    simp only [beVal,List.foldl_cons,List.foldl_nil]
    omega
   rw [e] at h5
   refine ⟨h1,by omega,?_⟩
   rw [h6,h5]
   have e1:UInt8.ofNat ((a.toNat*256+b.toNat) / 256)=a:=by
    apply UInt8.toNat_inj.1
    rw [UInt8.toNat_ofNat']
    omega
   have e2:UInt8.ofNat (a.toNat*256+b.toNat)=b:=by
    apply UInt8.toNat_inj.1
    rw [UInt8.toNat_ofNat']
    omega
   simp only [wShort,e1,e2]
theorem long_inv (s:Rs) (h:(num 8 s).2.why=0):s.why=0∧(num 8 s).1≤18446744073709551615∧s.rem=wLong (num 8 s).1++(num 8 s).2.rem:=by
 obtain ⟨h1,x,h2,h3,h4⟩:=num_inv 8 s (by omega) h
 have h5:(num 8 s).1=beVal x:=h3
 have h6:s.rem=x++(num 8 s).2.rem:=h4
 match x,h2 with
 | [a0,a1,a2,a3,a4,a5,a6,a7],_ =>
   have b0:=a0.toNat_lt
   have b1:=a1.toNat_lt
   have b2:=a2.toNat_lt
   have b3:=a3.toNat_lt
   have b4:=a4.toNat_lt
   have b5:=a5.toNat_lt
   have b6:=a6.toNat_lt
   have b7:=a7.toNat_lt
   obtain ⟨v,hv⟩:∃ v,v=beVal [a0,a1,a2,a3,a4,a5,a6,a7]:=⟨_,rfl⟩
   have e:v=((((((a0.toNat*256+a1.toNat)*256+a2.toNat)*256+a3.toNat)*256+a4.toNat)*256+a5.toNat)*256+a6.toNat)*256+a7.toNat:=by
    rw [hv]
    simp only [beVal,List.foldl_cons,List.foldl_nil]
    omega
   rw [← hv] at h5
   refine ⟨h1,by omega,?_⟩
   rw [h6,h5,wLong_is]
   have f:∀ (d:Nat) (a:UInt8),v / d % 256=a.toNat→UInt8.ofNat (v / d)=a:=fun d a hh=>by
    apply UInt8.toNat_inj.1
    rw [UInt8.toNat_ofNat']
    exact hh
   have f7:UInt8.ofNat v=a7:=by
    apply UInt8.toNat_inj.1
    rw [UInt8.toNat_ofNat']
    omega
   rw [f 72057594037927936 a0 (by omega),f 281474976710656 a1 (by omega),f 1099511627776 a2 (by omega),f 4294967296 a3 (by omega),f 16777216 a4 (by omega),f 65536 a5 (by omega),f 256 a6 (by omega),f7]
theorem flag_inv (s:Rs) (h:(flag s).2.why=0):s.why=0∧s.rem=wFlag (flag s).1++(flag s).2.rem:=by
 by_cases h1:1<(num 1 s).1
 ·exfalso
  unfold flag at h
  rw [if_pos h1] at h
  exact absurd h (by simp)
 ·have e:flag s=(decide ((num 1 s).1=1),(num 1 s).2):=by unfold flag;rw [if_neg h1]
  rw [e] at h ⊢
  obtain ⟨h2,h3,h4⟩:=byte_inv s h
  refine ⟨h2,?_⟩
  rw [h4]
  show wByte _++_=wFlag (decide ((num 1 s).1=1))++_
  congr 1
  rcases Nat.lt_or_ge (num 1 s).1 1 with h5|h5
  ·have h6:(num 1 s).1=0:=by omega
   rw [h6];rfl
  ·have h6:(num 1 s).1=1:=by omega
   rw [h6];rfl
theorem fin_inv (s:Rs) (h:fin s=0):s.why=0∧s.rem=[]:=by
 unfold fin at h
 by_cases h1:s.why=0
 ·rw [if_neg (by simpa using h1)] at h
  refine ⟨h1,?_⟩
  by_cases h2:0<s.rem.length
  ·rw [if_pos h2] at h
   exact absurd h (by decide)
  ·exact List.eq_nil_of_length_eq_zero (by omega)
 ·rw [if_pos h1] at h
  exact absurd h h1
end Co
end Go.Proofs.YtbnpgakmhhfjkaaGreatDoor
namespace Go.Proofs.YtbnpgakmhhfjkaaGreatDoor
open Go.RowKit
end Go.Proofs.YtbnpgakmhhfjkaaGreatDoor
namespace Go.Proofs.YtbnpgakmhhfjkaaGreatDoor
open Go.RowKit
structure Nd where
 id:Int
 kind:Int
 links:Int
 size:Int
 till:Nat
 shut:Bool
namespace Nd
def val (n:Nd):Value:=.agg #[.int .i64 n.id,.int .i64 n.kind,.int .i64 n.links,.int .i64 n.size,.int .u64 (n.till:Nat),.bool n.shut]
def zero:Nd:=⟨0,0,0,0,0,false⟩
def Right (n:Nd):Prop :=
 0≤n.id∧n.id≤65535∧0≤n.links∧n.links≤65535∧0≤n.size∧n.size≤4096∧n.till≤1099511627776∧(n.kind=1∨n.kind=2∧n.size=0∧n.till=0∧n.shut=true)
instance (n:Nd):Decidable n.Right:=by unfold Right;infer_instance
def right (n:Nd):Bool:=decide n.Right
def lo16 (x:Int):Nat:=(x % 65536).toNat
def lo8 (x:Int):Nat:=(x % 256).toNat
def bytes (n:Nd):List UInt8:=Co.wShort (lo16 n.id)++(Co.wByte (lo8 n.kind)++(Co.wShort (lo16 n.links)++(Co.wShort (lo16 n.size)++(Co.wLong n.till++Co.wFlag n.shut))))
theorem bytes_length (n:Nd):n.bytes.length=16:=by
 simp only [bytes,List.length_append,Co.wLong_length]
 rfl
end Nd
def ndRead (L:List UInt8):Nd × Co.Rs :=
 let p1:=Co.num 2 ⟨L,0⟩
 let p2:=Co.num 1 p1.2
 let p3:=Co.num 2 p2.2
 let p4:=Co.num 2 p3.2
 let p5:=Co.num 8 p4.2
 let p6:=Co.flag p5.2
 (⟨(p1.1:Nat),(p2.1:Nat),(p3.1:Nat),(p4.1:Nat),p5.1,p6.1⟩,p6.2)
def ndDec (L:List UInt8):Nd × Nat :=
 if Co.fin (ndRead L).2≠0∨(ndRead L).1.right=false then (Nd.zero,12) else ((ndRead L).1,0)
theorem ndDec_bytes (n:Nd) (h:n.Right):ndDec n.bytes=(n,0):=by
 have hr:n.right=true:=by simpa [Nd.right] using h
 obtain ⟨h1,h2,h3,h4,h5,h6,h7,h8⟩:=h
 obtain ⟨id,kind,links,size,till,shut⟩:=n
 simp only at h1 h2 h3 h4 h5 h6 h7 h8
 have e:ndRead (Nd.bytes ⟨id,kind,links,size,till,shut⟩)=(⟨id,kind,links,size,till,shut⟩,⟨[],0⟩):=by
  unfold ndRead Nd.bytes
  simp only [Co.num_short,Co.num_byte,Co.num_long till (by omega)]
  have ef:=Co.flag_app shut []
  rw [List.append_nil] at ef
  rw [ef]
  have e1:((Nd.lo16 id % 65536:Nat):Int)=id:=by unfold Nd.lo16;omega
  have e2:((Nd.lo8 kind % 256:Nat):Int)=kind:=by unfold Nd.lo8;omega
  have e3:((Nd.lo16 links % 65536:Nat):Int)=links:=by unfold Nd.lo16;omega
  have e4:((Nd.lo16 size % 65536:Nat):Int)=size:=by unfold Nd.lo16;omega
  rw [e1,e2,e3,e4]
 unfold ndDec
 rw [e]
 rw [if_neg (by simp [hr,Co.fin])]
theorem ndDec_inv (L:List UInt8) (h:(ndDec L).2=0):(ndDec L).1.Right∧(ndDec L).1.bytes=L:=by
 by_cases h0:Co.fin (ndRead L).2≠0∨(ndRead L).1.right=false
 ·unfold ndDec at h
  rw [if_pos h0] at h
  exact absurd h (by decide)
 ·have e:ndDec L=((ndRead L).1,0):=by unfold ndDec;rw [if_neg h0]
  rw [e]
  have hf:Co.fin (ndRead L).2=0:=Decidable.byContradiction fun hc=>h0 (.inl hc)
  have hr:(ndRead L).1.right=true:=by
   cases hh:(ndRead L).1.right
   ·exact absurd (.inr hh) h0
   ·rfl
  refine ⟨by simpa [Nd.right] using hr,?_⟩
  obtain ⟨w6,r6⟩:=Co.fin_inv _ hf
  obtain ⟨w5,f6⟩:=Co.flag_inv _ w6
  obtain ⟨w4,l5,f5⟩:=Co.long_inv _ w5
  obtain ⟨w3,l4,f4⟩:=Co.short_inv _ w4
  obtain ⟨w2,l3,f3⟩:=Co.short_inv _ w3
  obtain ⟨w1,l2,f2⟩:=Co.byte_inv _ w2
  obtain ⟨w0,l1,f1⟩:=Co.short_inv _ w1
  have r6':(Co.flag (Co.num 8 (Co.num 2 (Co.num 2 (Co.num 1 (Co.num 2 ⟨L,0⟩).2).2).2).2).2).2.rem=[]:=r6
  rw [r6',List.append_nil] at f6
  have f1':L=Co.wShort (Co.num 2 ⟨L,0⟩).1++(Co.num 2 ⟨L,0⟩).2.rem:=f1
  have k16:∀ x:Nat,x<65536→Nd.lo16 ((x:Nat):Int)=x:=fun x hx=>by unfold Nd.lo16;omega
  have k8:∀ x:Nat,x<256→Nd.lo8 ((x:Nat):Int)=x:=fun x hx=>by unfold Nd.lo8;omega
  dsimp only [Nd.bytes,ndRead]
  rw [k16 _ l1,k8 _ l2,k16 _ l3,k16 _ l4,← f6,← f5,← f4,← f3,← f2,← f1']
end Go.Proofs.YtbnpgakmhhfjkaaGreatDoor
