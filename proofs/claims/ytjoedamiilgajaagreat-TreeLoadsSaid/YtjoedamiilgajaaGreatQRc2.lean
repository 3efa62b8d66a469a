/-
  OWN WORK. Regions that draw their order, by facts (Rc): a slot may be read ahead and written behind, where the order says so.
-/
import Derived.Test.YtjoedamiilgajaaGreatQ02
namespace Go.Proofs.YtjoedamiilgajaaGreat.Rc
open Go Go.RowKit Go.Proofs.YtjoedamiilgajaaGreat.Rg
def check2 (ops:Array Oper) (nv:Nat) (use:List (List (Nat × Nat))) (bef reads:List (List Nat)) (cons:List (Nat × Nat)):Bool :=
 Rg.distinct ops&&Region.noSelect ops &&
 (List.range ops.size).all (fun j=>match ops[j]? with
  | none=>false
  | some o =>
    (use.getD j []).all (fun i=>(ops[i.1]?).bind (·.dst)==some i.2&&(bef.getD j []).contains i.1) &&
    (bef.getD j []).all (fun i=>decide (i<j)&&o.after.any (fun e=>Region.binds .any e&&(e.on==i || (bef.getD e.on []).contains i))) &&
    o.after.all (fun e=>!Region.binds .any e || decide (e.on<j)) &&
    (o.looksAt ops).all (fun t=>(List.range ops.size).all fun i=>(nums use j).contains i || (bef.getD i []).contains j || (match ops[i]? with|some x=>x.dst != some t|none=>true)) &&
    decide ((nums use j).Nodup) &&
    (reads.getD j []).all (fun i=>((bef.getD j []).contains i || (decide (ops.size≤i)&&decide (i<ops.size+nv)))&&cons.all (fun x=>x.2 != i || x.1==j || (bef.getD x.1 []).contains j)) &&
    (match o.guard with|some (g,_)=>(nums use j).contains g|none=>true)) &&
 cons.all (fun x=>(reads.getD x.1 []).contains x.2&&decide (x.1<ops.size))
section
variable {P:Program} {ops:Array Oper} {Q:Exit→Act→World→Prop} {F:Nat→Fact} {cons:List (Nat × Nat)} {E:Nat→(Nat→Value)→Value→Prop}
theorem run_all2 (nv:Nat) (use:List (List (Nat × Nat))) (bef reads:List (List Nat)) (hchk:Rc.check2 ops nv use bef reads cons=true) (hE:∀ j V V' v,(∀ i ∈ nums use j,V i=V' i)→E j V v→E j V' v) (a0:Act) (W0:World) (X0:Nat→Prop)
    (hE0:∀ j,ops.size≤j→∀ V v,E j V v)
    (hstep:∀ j o,ops[j]?=some o→∀ V S w,Mod W0 w X0→Use F V S w (reads.getD j [])→(∀ i ∈ nums use j,E i V (V i))→Does P ops o (pU V (use.getD j []) a0) w (Good F cons E V S j w))
    (hend:∀ V S w a,Inv F cons E W0 X0 (fun i=>i<ops.size+nv) V S w→Frm ops (fun i=>i<ops.size) V a0 a→Q .normal a w) :
    ∀ (fuel:Nat) (listed:Array Bool) (V:Nat→Value) (S:Nat→Nat→Prop) (a:Act) (w:World),listed.size=ops.size→(listed.toList.filter (!·)).length≤fuel →
     (∀ k o,ops[k]?=some o→listed.getD k false=true→∀ e ∈ o.after,Region.binds .any e=true→listed.getD e.on false=true) →
     Inv F cons E W0 X0 (fun i=>listed.getD i false=true∨(ops.size≤i∧i<ops.size+nv)) V S w→Frm ops (fun i=>listed.getD i false=true) V a0 a→wpAny P .any ops Q fuel listed a w:=by
 simp only [Rc.check2,Bool.and_eq_true] at hchk
 obtain ⟨⟨⟨hdis,hsel⟩,hops⟩,hcons⟩:=hchk
 have hO:∀ j o,ops[j]?=some o→(∀ x ∈ use.getD j [],(ops[x.1]?).bind (·.dst)=some x.2∧x.1 ∈ bef.getD j [])∧(∀ i ∈ bef.getD j [],i<j∧∃ e ∈ o.after,Region.binds .any e=true∧(e.on=i∨i ∈ bef.getD e.on []))∧(∀ e ∈ o.after,Region.binds .any e=true→e.on<j) ∧
     (∀ t ∈ o.looksAt ops,∀ i x,ops[i]?=some x→x.dst=some t→i ∈ nums use j∨j ∈ bef.getD i [])∧(nums use j).Nodup∧(∀ i ∈ reads.getD j [],(i ∈ bef.getD j []∨(ops.size≤i∧i<ops.size+nv))∧∀ x ∈ cons,x.2=i→x.1=j∨j ∈ bef.getD x.1 []):=by
  intro j o ho
  have h:=List.all_eq_true.1 hops j (List.mem_range.2 (Array.getElem?_eq_some_iff.1 ho).1)
  simp only [ho,Bool.and_eq_true] at h
  obtain ⟨⟨⟨⟨⟨⟨h1,h2⟩,h3⟩,h4⟩,h5⟩,h6⟩,_⟩:=h
  refine ⟨fun x hx=>?_,fun i hi=>?_,fun e he hb=>?_,fun t ht i x hx hd=>?_,by simpa using h5,fun i hi=>?_⟩
  ·have:=List.all_eq_true.1 h1 x hx
   simp only [Bool.and_eq_true,beq_iff_eq] at this
   exact ⟨this.1,by simpa using this.2⟩
  ·have:=List.all_eq_true.1 h2 i hi
   simp only [Bool.and_eq_true,decide_eq_true_eq] at this
   obtain ⟨e,he,hb⟩:=Array.any_eq_true'.1 this.2
   simp only [Bool.and_eq_true,Bool.or_eq_true,beq_iff_eq] at hb
   exact ⟨this.1,e,he,hb.1,hb.2.imp id (fun h=>by simpa using h)⟩
  ·have:=Array.all_eq_true_iff_forall_mem.1 h3 e he
   simpa [hb] using this
  ·have:=List.all_eq_true.1 (List.all_eq_true.1 h4 t ht) i (List.mem_range.2 (Array.getElem?_eq_some_iff.1 hx).1)
   simpa [hx,hd] using this
  ·have:=List.all_eq_true.1 h6 i hi
   simp only [Bool.and_eq_true,Bool.or_eq_true,decide_eq_true_eq] at this
   refine ⟨this.1.imp (fun h=>by simpa using h) id,fun x hx e=>?_⟩
   have h7:=List.all_eq_true.1 this.2 x hx
   simpa [e] using h7
 have hC:∀ j i,(j,i) ∈ cons→i ∈ reads.getD j []∧j<ops.size:=fun j i h=>by
  have:=List.all_eq_true.1 hcons _ h
  simpa using this
 intro fuel
 have all_of:∀ listed:Array Bool,listed.size=ops.size→Region.ready .any ops listed=[]→∀ k,k<ops.size→listed.getD k false=true:=by
  intro listed hsz hr k
  induction k using Nat.strongRecOn with
  | _ k ih =>
    intro hk
    by_cases hl:listed.getD k false=true
    ·exact hl
    ·exfalso
     have:k ∈ Region.ready .any ops listed:=mem_ready.2 ⟨by
      simp only [Array.getD_eq_getD_getElem?] at hl ⊢
      rw [Array.getElem?_eq_getElem (by omega)] at hl ⊢
      simpa using hl,_,Array.getElem?_eq_getElem hk,fun e he hb=>ih e.on ((hO k _ (Array.getElem?_eq_getElem hk)).2.2.1 e he hb) (Nat.lt_trans ((hO k _ (Array.getElem?_eq_getElem hk)).2.2.1 e he hb) hk)⟩
     rw [hr] at this
     cases this
 have lis_lt:∀ (listed:Array Bool),listed.size=ops.size→∀ i,listed.getD i false=true→i<ops.size:=fun listed hsz i h=>by
  rcases Nat.lt_or_ge i ops.size with h1|h1
  ·exact h1
  ·simp [Array.getD_eq_getD_getElem?,Array.getElem?_eq_none (show listed.size≤i by omega)] at h
 have fin:∀ (listed:Array Bool) (V:Nat→Value) (S:Nat→Nat→Prop) (a:Act) (w:World),listed.size=ops.size→Region.ready .any ops listed=[] →
     Inv F cons E W0 X0 (fun i=>listed.getD i false=true∨(ops.size≤i∧i<ops.size+nv)) V S w→Frm ops (fun i=>listed.getD i false=true) V a0 a→Q .normal a w:=by
  intro listed V S a w hsz hr hi hf
  have hall:=all_of listed hsz hr
  have heq:∀ i,(listed.getD i false=true)↔i<ops.size:=fun i=>⟨lis_lt listed hsz i,hall i⟩
  refine hend V S w a ?_ (hf.congr heq fun _ _=>rfl)
  have:(fun i=>listed.getD i false=true∨(ops.size≤i∧i<ops.size+nv))=(fun i=>i<ops.size+nv):=funext fun i=>propext (by rw [heq];omega)
  rwa [this] at hi
 /- what is listed has all that comes before it listed -/
 have befL:∀ listed:Array Bool,(∀ k o,ops[k]?=some o→listed.getD k false=true→∀ e ∈ o.after,Region.binds .any e=true→listed.getD e.on false=true) →
     ∀ j o,ops[j]?=some o→(∀ e ∈ o.after,Region.binds .any e=true→listed.getD e.on false=true)→∀ i ∈ bef.getD j [],listed.getD i false=true:=by
  intro listed hcl j
  induction j using Nat.strongRecOn with
  | _ j ih =>
    intro o ho haft i hi
    obtain ⟨_,e,he,hb,h⟩:=(hO j o ho).2.1 i hi
    have hel:=haft e he hb
    rcases h with rfl|h
    ·exact hel
    ·have hlt:=(hO j o ho).2.2.1 e he hb
     have hon:e.on<ops.size:=Nat.lt_trans hlt (Array.getElem?_eq_some_iff.1 ho).1
     exact ih e.on hlt _ (Array.getElem?_eq_getElem hon) (hcl _ _ (Array.getElem?_eq_getElem hon) hel) i h
 induction fuel with
 | zero =>
   intro listed V S a w hsz hfu hcl hi hf
   have hr:Region.ready .any ops listed=[]:=by
    apply List.eq_nil_iff_forall_not_mem.2
    intro j hj
    obtain ⟨h1,o,ho,_⟩:=mem_ready.1 hj
    have h2:=left_none listed.toList (by omega) j (by simp;rw [hsz];exact (Array.getElem?_eq_some_iff.1 ho).1)
    simp only [Array.getElem?_toList] at h2
    simp [Array.getD_eq_getD_getElem?,h2] at h1
   exact ⟨hr,fin listed V S a w hsz hr hi hf⟩
 | succ fuel ih =>
   intro listed V S a w hsz hfu hcl hi hf
   refine ⟨fun hr=>fin listed V S a w hsz hr hi hf,fun j hj=>?_⟩
   obtain ⟨hjf,o,ho,haft⟩:=mem_ready.1 hj
   have hjlt:j<ops.size:=(Array.getElem?_eq_some_iff.1 ho).1
   have hjs:listed[j]?=some false:=by
    simp only [Array.getD_eq_getD_getElem?,Array.getElem?_eq_getElem (show j<listed.size by omega),Option.getD_some] at hjf ⊢
    rw [hjf]
   have hjn:¬ listed.getD j false=true:=by simp [Array.getD_eq_getD_getElem?,hjs]
   obtain ⟨h0,h1,h2,h3,h4,h5⟩:=hO j o ho
   have hBL:=befL listed hcl j o ho haft
   have hUL:∀ i,i ∈ nums use j→listed.getD i false=true:=fun i hi=>by
    obtain ⟨x,hx,rfl⟩:=List.mem_map.1 hi
    exact hBL _ (h0 x hx).2
   have hjL:¬ (listed.getD j false=true∨(ops.size≤j∧j<ops.size+nv)):=by
    rintro (h|h)
    ·exact hjn h
    ·omega
   have kL:∀ k,(listed.getD k false=true∨(ops.size≤k∧k<ops.size+nv))→k<ops.size→listed.getD k false=true:=fun k hk hlt=>hk.resolve_right (by omega)
   have jbef:∀ k,k<ops.size→listed.getD k false=true→¬ j ∈ bef.getD k []:=fun k hkl hk hb =>
    hjn (befL listed hcl k _ (Array.getElem?_eq_getElem hkl) (hcl k _ (Array.getElem?_eq_getElem hkl) hk) j hb)
   have hlive:∀ i,i ∈ reads.getD j []→Live cons (fun i=>listed.getD i false=true∨(ops.size≤i∧i<ops.size+nv)) i:=fun i hir=>by
    obtain ⟨h6,h7⟩:=h5 i hir
    refine ⟨h6.imp (hBL i) id,fun k hk hck=>?_⟩
    have hkl:=(hC k i hck).2
    rcases h7 _ hck rfl with h8|h8
    ·simp only at h8
     subst h8
     exact hjL hk
    ·exact jbef k hkl (kL k hk hkl) h8
   have hd:=hstep j o ho V S w hi.mod ⟨fun i hir=>hi.holds i (hlive i hir),fun i hir b hb=>(hi.lt i b (hlive i hir) hb).1,fun i hir k hkr hne b hib=>hi.sep i k b (hlive i hir) (hlive k hkr) hne hib⟩ (fun i hiu=>hi.eqs i (.inl (hUL i hiu)))
   have hb:=Frm.pU (V:=V) (a0:=a0) hdis (use.getD j []) (fun x hx=>(h0 x hx).1) h4
   refine Does.at_ ho (Region.noSelect_spec hsel j o · · ho) (hf.size.trans hb.size.symm) (fun t ht=>hf.at_ hb t (fun i x hx hd=>?_)) hd (fun v w' hg=>?_)
   ·exact ⟨fun hl=>(h3 t ht i x hx hd).resolve_right fun hjb=>jbef i (Array.getElem?_eq_some_iff.1 hx).1 hl hjb,fun h=>hUL i h⟩
   ·have hus:∀ k,(listed.getD k false=true∨(ops.size≤k∧k<ops.size+nv))→∀ i ∈ nums use k,k<ops.size→listed.getD i false=true:=fun k hk i hik hkl=>by
     obtain ⟨x,hx,rfl⟩:=List.mem_map.1 hik
     exact befL listed hcl k _ (Array.getElem?_eq_getElem hkl) (hcl k _ (Array.getElem?_eq_getElem hkl) (kL k hk hkl)) _ ((hO k _ (Array.getElem?_eq_getElem hkl)).1 x hx).2
    obtain ⟨T,h6⟩:=hi.step (v:=v) hjL (fun i hci=>hlive i (hC j i hci).1) (fun k hk hck=>by
        have hkl:k<ops.size:=(hC k j hck).2
        have:=(hO k _ (Array.getElem?_eq_getElem hkl)).2.2.2.2.2 j (hC k j hck).1
        rcases this.1 with h7|h7
        ·exact jbef k hkl (kL k hk hkl) h7
        ·omega) (fun hcj=>by
        have:=(h5 j (hC j j hcj).1).1
        rcases this with h7|h7
        ·exact Nat.lt_irrefl j (h1 j h7).1
        ·omega) (fun k hk V' hV h=>by
        rcases Nat.lt_or_ge k ops.size with hkl|hkl
        ·exact hE k V V' _ (fun i hik=>hV i (.inl (hus k hk i hik hkl))) h
        ·exact hE0 k hkl _ _) (fun V' hV=>hE j V V' _ (fun i hij=>hV i (.inl (hUL i hij)))) hg
    refine ih (listed.setIfInBounds j true) (fun k=>if k=j then v else V k) (fun k=>if k=j then T else S k) (a.put o.dst v) w' (by simpa using hsz) ?_ ?_ ?_ ?_
    ·have:=left_set listed.toList j (by simpa using hjs)
     rw [Array.toList_setIfInBounds]
     omega
    ·intro k ok hok hk e he hb2
     rw [getD_set] at hk ⊢
     rcases hk with ⟨rfl,_⟩|hk
     ·obtain rfl:ok=o:=by rw [ho] at hok;exact (Option.some.inj hok).symm
      exact .inr (haft e he hb2)
     ·exact .inr (hcl k ok hok hk e he hb2)
    ·have e:(fun i=>(listed.setIfInBounds j true).getD i false=true∨(ops.size≤i∧i<ops.size+nv))=(fun k=>k=j∨(listed.getD k false=true∨(ops.size≤k∧k<ops.size+nv))):=funext fun k=>propext (by
      rw [getD_set];constructor
      ·rintro ((⟨h,_⟩|h)|h)
       ·exact .inl h
       ·exact .inr (.inl h)
       ·exact .inr (.inr h)
      ·rintro (h|h|h)
       ·exact .inl (.inl ⟨h,by omega⟩)
       ·exact .inl (.inr h)
       ·exact .inr h)
     rw [e];exact h6
    ·refine (hf.step hdis j o ho hjn v).congr (fun k=>?_) (fun _ _=>rfl)
     rw [getD_set];constructor
     ·rintro (h|h)
      ·exact .inl ⟨h,by omega⟩
      ·exact .inr h
     ·rintro (⟨h,_⟩|h)
      ·exact .inl h
      ·exact .inr h
theorem wp_region2 {id:Nat} {a0:Act} {w0:World} (hm:P.follows .mixedOrders=true) (F:Nat→Fact) (nv:Nat) (al:List (Nat × Nat × (Value→Value))) (use:List (List (Nat × Nat))) (bef reads:List (List Nat)) (cons:List (Nat × Nat)) (hchk:Rc.check2 ops nv use bef reads cons=true)
    (hal:(al.all fun x=>decide (x.1<ops.size)&&(nums use x.1).contains x.2.1)=true) (hsz:(ops.all fun o=>(o.dst.map fun d=>decide (d<a0.tmps.size)).getD true)=true)
    (X0:Nat→Prop) (S0:Nat→Nat→Prop) (h0:Inv F cons (alias al) w0.drew X0 (fun i=>ops.size≤i∧i<ops.size+nv) (fun _=>undef) S0 w0.drew)
    (hstep:∀ a1,a1=a0→Rg.Steps (fun j o=>∀ V S w,Mod w0 w X0→Use F V S w (reads.getD j [])→(∀ i ∈ nums use j,alias al i V (V i))→Dz P o V (pU V (use.getD j []) a1) w (Good F cons (alias al) V S j w)) 0 ops.toList)
    (hend:∀ V S w,Inv F cons (alias al) w0.drew X0 (fun i=>i<ops.size+nv) V S w→Q .normal (putList ops.toList 0 V a0) w):(Code.region id ops true).wp P Q a0 w0:=by
 refine wp_region_any hm ?_
 have hchk0:=hchk
 simp only [Rc.check2,Bool.and_eq_true] at hchk
 obtain ⟨⟨⟨hdis,_⟩,hops⟩,_⟩:=hchk
 have hal2:(al.all fun x=>(nums use x.1).contains x.2.1)=true:=List.all_eq_true.2 fun x hx=>by
  have:=List.all_eq_true.1 hal x hx
  simp only [Bool.and_eq_true] at this
  exact this.2
 have no:∀ i,¬ ((Array.replicate ops.size false).getD i false=true):=fun i h=>by
  simp [Array.getD_eq_getD_getElem?,Array.getElem?_replicate] at h
  split at h <;> simp at h
 refine run_all2 (F:=F) (cons:=cons) nv use bef reads hchk0 (alias_dep hal2) a0 w0.drew X0 (fun j hj V v i f hm=>?_) (fun j o ho=>?_) (fun V S w a hi hf=>?_) _ _ (fun _=>undef) S0 _ _ (by simp) ?_ ?_ ?_ ?_
 ·have:=List.all_eq_true.1 hal _ hm
  simp only [Bool.and_eq_true,decide_eq_true_eq] at this
  omega
 ·intro V S w hl hh he
  have h1:=(hstep a0 rfl).get j o (by simpa using ho) V S w hl.undrew (by simpa using hh) (by simpa using he)
  simp only [Nat.zero_add] at h1
  unfold Dz at h1
  unfold Does
  cases hgd:o.guard with
  | none =>
    rw [hgd] at h1
    exact .inr ⟨by unfold Region.wanted;rw [hgd],h1⟩
  | some gw =>
    obtain ⟨g,want⟩:=gw
    rw [hgd] at h1
    simp only at h1
    have hy:∀ x,V g=.bool x→yielded ops (pU V (use.getD j []) a0).tmps g=some x:=by
     intro x hx
     have h:=List.all_eq_true.1 hops j (List.mem_range.2 (Array.getElem?_eq_some_iff.1 ho).1)
     simp only [ho,Bool.and_eq_true,hgd] at h
     obtain ⟨⟨⟨⟨⟨⟨h1,_⟩,_⟩,_⟩,h4⟩,_⟩,h6⟩:=h
     have h0:∀ x ∈ use.getD j [],(ops[x.1]?).bind (·.dst)=some x.2:=fun x hx=>by
      have:=List.all_eq_true.1 h1 x hx
      simp only [Bool.and_eq_true,beq_iff_eq] at this
      exact this.1
     have hb:=Frm.pU (V:=V) (a0:=a0) hdis (use.getD j []) h0 (by simpa [nums] using h4)
     have h6:g ∈ nums use j:=by simpa using h6
     obtain ⟨y,hy,rfl⟩:=List.mem_map.1 h6
     obtain ⟨og,hog,hdg⟩:=Option.bind_eq_some_iff.1 (h0 y hy)
     have hlt:=Array.all_eq_true_iff_forall_mem.1 hsz og (Array.mem_of_getElem? hog)
     simp only [hdg,Option.map_some,Option.getD_some,decide_eq_true_eq] at hlt
     have h7:=hb.put y.1 og y.2 hog hdg h6
     rw [if_pos hlt,hx] at h7
     unfold yielded
     rw [h0 y hy]
     simp only [Option.bind_some]
     rw [h7]
    rcases h1 with ⟨h1,h2⟩|⟨h1,h2⟩
    ·exact .inr ⟨by unfold Region.wanted;rw [hgd];simp only [];rw [hy _ h1];exact beq_self_eq_true _,h2⟩
    ·refine .inl ⟨?_,h2⟩
     unfold Region.wanted;rw [hgd];simp only [];rw [hy _ h1]
     cases want <;> rfl
 ·have h1:=Frm.putList (V:=V) (a0:=a0) hdis ops.toList 0 a0 (fun k _=>by simp) ((Frm.refl ops V a0).congr (fun i=>by simp) fun _ _=>rfl)
  have h2:a=putList ops.toList 0 V a0:=hf.uniq (h1.congr (fun i=>by simp) fun _ _=>rfl)
  rw [h2];exact hend V S w hi
 ·exact Nat.le_trans (List.length_filter_le _ _) (by simp)
 ·intro k o _ hk
  exact absurd hk (no k)
 ·have e:(fun i=>(Array.replicate ops.size false).getD i false=true∨(ops.size≤i∧i<ops.size+nv))=(fun i=>ops.size≤i∧i<ops.size+nv):=funext fun i=>propext ⟨fun h=>h.resolve_left (no i),.inr⟩
  rw [e];exact h0
 ·exact (Frm.refl ops _ a0).congr (fun i=>⟨fun h=>h.elim,fun h=>absurd h (no i)⟩) fun _ _=>rfl
end
end Go.Proofs.YtjoedamiilgajaaGreat.Rc
