/-
  OWN WORK. TrNm, TrHalf, TsJoin, TrWalkH, TsDeep, TsEye, TsJoined, TsLeads, TsTally, TsLinked
-/
import Derived.Test.YtjoedamiilgajaaGreatW16
import Derived.Test.YtjoedamiilgajaaGreatW14
import Derived.Test.YtjoedamiilgajaaGreatW13
import Derived.Maps.OwnOps
import Derived.Maps.OwnSet
import Derived.Maps.Views
namespace Go.Proofs.YtjoedamiilgajaaGreat
open Go.RowKit
namespace Tr
variable {t:T}
theorem inj_le {α β:Type} [DecidableEq β] (R:α→β→Prop) (hi:∀ x x' y,R x y→R x' y→x=x'):∀ (l:List α) (m:List β),l.Nodup→(∀ x ∈ l,∃ y ∈ m,R x y)→l.length≤m.length
 | [],_,_,_=>Nat.zero_le _
 | x :: l,m,hn,he=>by
   obtain ⟨y,hy,hr⟩:=he x (.head _)
   rw [List.nodup_cons] at hn
   have:=inj_le R hi l (m.erase y) hn.2 fun z hz=>by
    obtain ⟨u,hu,hr2⟩:=he z (.tail _ hz)
    refine ⟨u,(List.mem_erase_of_ne fun e=>?_).2 hu,hr2⟩
    subst e
    have:=hi _ _ _ hr hr2
    subst this
    exact hn.1 hz
   rw [List.length_erase_of_mem hy] at this
   have h1:0<m.length:=List.length_pos_of_mem hy
   rw [List.length_cons]
   omega
theorem Good.path_deep (h:Good t) {dep:Int→Nat} (hd0:dep 0=0) (hd:∀ e ∈ t,∀ n ∈ e.names,dep e.nd.id+1≤8∧(kindOf t n.2=2→dep n.2=dep e.nd.id+1)):∀ (n:Nat) (q:List Bs) (j:Int),q.length=n→lookF t 0 q=(j,0)→q.length≤8∧(kindOf t j=2→dep j=q.length)
 | 0,q,j,hn,hl=>by
   obtain rfl:q=[]:=List.eq_nil_of_length_eq_zero hn
   have h1:(0,0)=(j,0):=hl
   injection h1 with h1
   subst h1
   exact ⟨Nat.zero_le _,fun _=>hd0⟩
 | n+1,q,j,hn,hl=>by
   rcases List.eq_nil_or_concat q with rfl|⟨r,x,rfl⟩
   ·cases hn
   ·rw [List.concat_eq_append] at hn hl ⊢
    obtain ⟨e,he,h1,h2,h3⟩:=h.look_back hl
    rw [List.length_append] at hn
    have hn1:r.length=n:=by simpa using hn
    obtain ⟨k1,k2⟩:=h.path_deep hd0 hd n r e.nd.id hn1 h1
    have k3:=k2 (by rw [kindOf_of (h.ris.find he)];exact h2)
    obtain ⟨k4,k5⟩:=hd e he _ h3
    rw [List.length_append]
    refine ⟨by simp;omega,fun hk=>?_⟩
    rw [k5 hk]
    simp
    omega
theorem Good.path_le (h:Good t) {q:List Bs} {j:Int} (hl:lookF t 0 q=(j,0)):q.length≤8:=by
 obtain ⟨dep,hd0,hd⟩:=h.deep
 exact (h.path_deep hd0 hd _ q j rfl hl).1
theorem Good.walk_mem (h:Good t):∀ (n:Nat) (i:Int) (p q:List Bs) (k:Int),(q,k) ∈ walk t n i p↔∃ r,q=p++r∧r≠[]∧r.length≤n∧lookF t i r=(k,0)
 | 0,i,p,q,k=>by
   constructor
   ·intro h1;cases h1
   ·rintro ⟨r,_,h1,h2,_⟩
    exact absurd (List.eq_nil_of_length_eq_zero (by omega)) h1
 | n+1,i,p,q,k=>by
   show (q,k) ∈ (kids t i).flatMap _↔_
   rw [List.mem_flatMap]
   constructor
   ·rintro ⟨⟨x,m⟩,hm,h1⟩
    obtain ⟨en,hen,hmem⟩:=kids_mem hm
    have hk2:kindOf t i=2:=Decidable.byContradiction fun hne=>by rw [h.file_kids hne] at hm;cases hm
    have hstep:∀ r,lookF t i (x :: r)=lookF t m r:=fun r=>by
     rw [lookF_cons,if_neg (by simp [hk2]),get_of_mem (h.rises i) hm]
    rcases List.mem_cons.1 h1 with h1|h1
    ·injection h1 with h2 h3
     subst h2 h3
     exact ⟨[x],rfl,by simp,by simp,by rw [hstep];rfl⟩
    ·obtain ⟨r,h2,h3,h4,h5⟩:=(h.walk_mem n m (p++[x]) q k).1 h1
     exact ⟨x :: r,by rw [h2];simp,by simp,by simp;omega,by rw [hstep];exact h5⟩
   ·rintro ⟨r,h2,h3,h4,h5⟩
    cases r with
    | nil=>exact absurd rfl h3
    | cons x r =>
      rw [lookF_cons] at h5
      split at h5
      ·cases h5
      ·cases hg:get (kids t i) x with
       | none=>rw [hg] at h5;cases h5
       | some m =>
         rw [hg] at h5
         replace h5:lookF t m r=(k,0):=h5
         refine ⟨(x,m),get_mem hg,?_⟩
         by_cases hr:r=[]
         ·subst hr
          have h6:(m,0)=(k,0):=h5
          injection h6 with h6
          subst h6 h2
          exact .head _
         ·refine .tail _ ((h.walk_mem n m (p++[x]) q k).2 ⟨r,by rw [h2];simp,hr,by simp at h4;omega,h5⟩)
theorem Good.dir_path (h:Good t) {dep:Int→Nat} (hd:∀ e ∈ t,∀ n ∈ e.names,dep e.nd.id+1≤8∧(kindOf t n.2=2→dep n.2=dep e.nd.id+1)):∀ (n:Nat) (e:En),e ∈ t→e.nd.kind=2→dep e.nd.id≤n→∃ r,lookF t 0 r=(e.nd.id,0)
 | n,e,he,hk,hn=>by
   by_cases h0:e.nd.id=0
   ·exact ⟨[],by rw [h0];rfl⟩
   ·have h1:=h.linked e he
    rw [h.dirs e he hk,if_neg h0] at h1
    have h2:0<count t e.nd.id:=by omega
    unfold count at h2
    obtain ⟨x,hx,hx2⟩:=List.countP_pos_iff.1 h2
    have hx2:x.2.2=e.nd.id:=by simpa using hx2
    obtain ⟨e2,he2,h3,h4⟩:=flat_mem.1 hx
    have hk2:e2.nd.kind=2:=by
     rcases h.kind he2 with h5|h5
     ·rw [(h.each e2 he2).file h5] at h4;cases h4
     ·exact h5
    obtain ⟨_,h6⟩:=hd e2 he2 _ h4
    have h7:=h6 (by rw [hx2,kindOf_of (h.ris.find he)];exact hk)
    rw [hx2] at h7
    cases n with
    | zero=>omega
    | succ n =>
      obtain ⟨r,hr⟩:=h.dir_path hd n e2 he2 hk2 (by omega)
      have:=h.look_on he2 hr hk2 h4
      rw [hx2] at this
      exact ⟨_,this⟩
theorem Good.path_of (h:Good t) {e:En} (he:e ∈ t) (hk:e.nd.kind=2):∃ r,lookF t 0 r=(e.nd.id,0):=by
 obtain ⟨dep,_,hd⟩:=h.deep
 exact h.dir_path hd _ e he hk (Nat.le_refl _)
def paths (t:T):List (List Bs × Int):=walk t 64 0 []
theorem Good.paths_mem (h:Good t) (q:List Bs) (k:Int):(q,k) ∈ paths t↔q≠[]∧lookF t 0 q=(k,0):=by
 unfold paths
 rw [h.walk_mem]
 constructor
 ·rintro ⟨r,h1,h2,h3,h4⟩
  rw [List.nil_append] at h1
  subst h1
  exact ⟨h2,h4⟩
 ·rintro ⟨h1,h2⟩
  exact ⟨q,rfl,h1,by have:=h.path_le h2;omega,h2⟩
def EndsIn (t:T) (a:List Bs × Int) (x:Int × Nm):Prop:=∃ r,a.1=r++[x.2.1]∧lookF t 0 r=(x.1,0)∧a.2=x.2.2∧kindOf t x.1=2
/-! Nodes ahead of a number. -/
end Tr
end Go.Proofs.YtjoedamiilgajaaGreat
namespace Go.Proofs.YtjoedamiilgajaaGreat
open Go.RowKit
namespace Tr
variable {t:T}
structure Half (t:T):Prop where
 root:∃ r rest,t=r :: rest∧r.nd.id=0∧r.nd.kind=2
 rise:t.Pairwise fun a b=>a.nd.id<b.nd.id
 few:t.length≤64
 each:∀ e ∈ t,EnOk e
 leads:∀ e ∈ t,∀ n ∈ e.names,n.2≠0∧(find t n.2).isSome=true
 linked:∀ e ∈ t,(count t e.nd.id:Int)+(if e.nd.id=0 then 1 else 0)=e.nd.links
 dirs:∀ e ∈ t,e.nd.kind=2→e.nd.links=1
 shut:∀ e ∈ t,e.nd.shut=true→e.nd.links≠0
theorem Good.half (h:Good t):Half t:=⟨h.root,h.rise,h.few,h.each,h.leads,h.linked,h.dirs,h.shut⟩
theorem Half.ris (h:Half t):Ris t:=h.rise
theorem Half.zero (h:Half t):∃ r,find t 0=some r∧r.nd.kind=2∧r.nd.id=0:=by
 obtain ⟨r,rest,rfl,h1,h2⟩:=h.root
 exact ⟨r,by rw [find_cons,if_pos h1],h2,h1⟩
theorem Half.kind (h:Half t) {e:En} (he:e ∈ t):e.nd.kind=1∨e.nd.kind=2:=by
 have:=(h.each e he).nd
 exact this.2.2.2.2.2.2.2.imp id fun k=>k.1
theorem Half.has (h:Half t) {i:Int} (hk:kindOf t i=2):∃ e,find t i=some e:=by
 cases hf:find t i with
 | none=>rw [kindOf_no hf] at hk;omega
 | some e=>exact ⟨e,rfl⟩
theorem Half.rises (h:Half t) (i:Int):Rise (kids t i):=by
 cases hf:find t i with
 | none=>rw [kids_no hf];exact List.Pairwise.nil
 | some e=>rw [kids_of hf];exact (h.each e (find_some hf).1).rise
theorem Half.file_kids (h:Half t) {i:Int} (hk:kindOf t i≠2):kids t i=[]:=by
 cases hf:find t i with
 | none=>exact kids_no hf
 | some e =>
   rw [kids_of hf]
   rw [kindOf_of hf] at hk
   refine (h.each e (find_some hf).1).file ?_
   rcases h.kind (find_some hf).1 with h1|h1
   ·exact h1
   ·exact absurd h1 hk
theorem Half.flat_le (h:Half t):(flat t).length≤4194240:=by
 have h1:=countP_sum (fun x:Int × Nm=>x.2.2) (t.map fun e=>e.nd.id) (flat t) fun x hx=>by
  obtain ⟨e,he,_,h2⟩:=flat_mem.1 hx
  obtain ⟨_,h3⟩:=h.leads e he x.2 h2
  obtain ⟨e',h4,h5⟩:=find_isSome.1 h3
  exact List.mem_map.2 ⟨e',h4,h5⟩
 have h2:((t.map fun e=>e.nd.id).map fun i=>(flat t).countP fun x=>x.2.2==i).sum≤t.length*65535:=by
  have key:∀ u:T,(∀ e ∈ u,e ∈ t)→((u.map fun e=>e.nd.id).map fun i=>(flat t).countP fun x=>x.2.2==i).sum≤u.length*65535:=by
   intro u
   induction u with
   | nil=>intro _;simp
   | cons e u ih =>
     intro hu
     have h3:=ih fun m hm=>hu m (.tail _ hm)
     have he:=hu e (.head _)
     have h4:=h.linked e he
     have h5:=(h.each e he).nd.2.2.2.1
     unfold count at h4
     have h6:(flat t).countP (fun x=>x.2.2==e.nd.id)≤65535:=by
      split at h4 <;> omega
     simp only [List.map_cons,List.sum_cons,List.length_cons] at h3 ⊢
     omega
  exact key t fun e he=>he
 have:=h.few
 omega
theorem Half.names_le (h:Half t) {e:En} (he:e ∈ t):e.names.length≤4194240:=Nat.le_trans (names_le_flat he) h.flat_le
theorem Half.one_name (h:Half t) {j:Int} (hk:kindOf t j=2) {e e':En} (he:e ∈ t) (he':e' ∈ t) {n n':Nm} (hn:n ∈ e.names) (hn':n' ∈ e'.names) (h1:n.2=j) (h2:n'.2=j):e=e'∧n=n':=by
 have key:(e.nd.id,n)=(e'.nd.id,n'):=by
  refine Decidable.byContradiction fun hne=>?_
  have hc:2≤count t j:=count_two (flat_mem.2 ⟨e,he,rfl,hn⟩) (flat_mem.2 ⟨e',he',rfl,hn'⟩) hne (by simp [h1]) (by simp [h2])
  obtain ⟨ej,hej⟩:=h.has hk
  obtain ⟨hm,hid⟩:=find_some hej
  have h3:=h.linked ej hm
  have h4:=h.dirs ej hm (by rw [← kindOf_of hej];exact hk)
  have h5:=(h.leads e he n hn).1
  rw [hid,if_neg (by rw [← h1];exact h5),h4] at h3
  omega
 obtain ⟨h3,h4⟩:=Prod.mk.inj key
 refine ⟨?_,h4⟩
 have:=h.ris.find he
 rw [h3,h.ris.find he'] at this
 injection this with this
 exact this.symm
theorem Half.look_on (h:Half t) {i:Int} {q:List Bs} {e:En} (he:e ∈ t) (hl:lookF t i q=(e.nd.id,0)) (hk:e.nd.kind=2) {n:Nm} (hn:n ∈ e.names):lookF t i (q++[n.1])=(n.2,0):=by
 have hf:=h.ris.find he
 rw [lookF_app,hl,if_neg (by simp),lookF_cons,kindOf_of hf,if_neg (by simp [hk]),kids_of hf,get_of_mem (h.each e he).rise hn]
 rfl
theorem Half.look_back (h:Half t) {i j:Int} {q:List Bs} {x:Bs} (hl:lookF t i (q++[x])=(j,0)):∃ e ∈ t,lookF t i q=(e.nd.id,0)∧e.nd.kind=2∧(x,j) ∈ e.names:=by
 rw [lookF_app] at hl
 split at hl
 ·rename_i h2
  rw [hl] at h2
  exact absurd rfl h2
 ·rename_i h2
  have h3:(lookF t i q).2=0:=Decidable.byContradiction h2
  obtain ⟨d,hd⟩:∃ d,d=(lookF t i q).1:=⟨_,rfl⟩
  rw [← hd,lookF_cons] at hl
  split at hl
  ·cases hl
  ·rename_i h4
   have hk:kindOf t d=2:=Decidable.byContradiction h4
   obtain ⟨en,hen⟩:=h.has hk
   rw [kids_of hen] at hl
   cases hg:get en.names x with
   | none=>rw [hg] at hl;cases hl
   | some k =>
     rw [hg] at hl
     have hkj:k=j:=congrArg Prod.fst (show (k,0)=(j,0) from hl)
     refine ⟨en,(find_some hen).1,Prod.ext ?_ h3,by rw [← kindOf_of hen];exact hk,hkj ▸ get_mem hg⟩
     rw [(find_some hen).2,hd]
theorem Half.one_path (h:Half t):∀ (n:Nat) (a b:List Bs) (j:Int),a.length≤n→lookF t 0 a=(j,0)→lookF t 0 b=(j,0)→kindOf t j=2→a=b
 | n,a,b,j,hn,ha,hb,hk=>by
   have zero:∀ (q:List Bs) (x:Bs),lookF t 0 (q++[x])=(0,0)→False:=fun q x hq=>by
    obtain ⟨e,he,_,_,hm⟩:=h.look_back hq
    exact (h.leads e he _ hm).1 rfl
   rcases List.eq_nil_or_concat a with rfl|⟨a1,x,rfl⟩
   ·have hj:(0:Int)=j:=congrArg Prod.fst (show ((0:Int),0)=(j,0) from ha)
    subst hj
    rcases List.eq_nil_or_concat b with rfl|⟨b1,y,rfl⟩
    ·rfl
    ·rw [List.concat_eq_append] at hb
     exact (zero _ _ hb).elim
   ·rw [List.concat_eq_append] at ha hn ⊢
    rcases List.eq_nil_or_concat b with rfl|⟨b1,y,rfl⟩
    ·have hj:(0:Int)=j:=congrArg Prod.fst (show ((0:Int),0)=(j,0) from hb)
     subst hj
     exact (zero _ _ ha).elim
    ·rw [List.concat_eq_append] at hb ⊢
     obtain ⟨e,he,h1,h2,h3⟩:=h.look_back ha
     obtain ⟨e',he',h4,h5,h6⟩:=h.look_back hb
     obtain ⟨rfl,h7⟩:=h.one_name hk he he' h3 h6 rfl rfl
     obtain ⟨rfl,_⟩:=Prod.mk.inj h7
     rw [List.length_append] at hn
     have:a1.length<n:=Nat.lt_of_lt_of_le (Nat.lt_succ_self _) hn
     rw [h.one_path (n-1) a1 b1 e.nd.id (by omega) h1 h4 (by rw [kindOf_of (h.ris.find he)];exact h2)]
termination_by n=>n
decreasing_by omega
theorem Half.walk_mem (h:Half t):∀ (n:Nat) (i:Int) (p q:List Bs) (k:Int),(q,k) ∈ walk t n i p↔∃ r,q=p++r∧r≠[]∧r.length≤n∧lookF t i r=(k,0)
 | 0,i,p,q,k=>by
   constructor
   ·intro h1;cases h1
   ·rintro ⟨r,_,h1,h2,_⟩
    exact absurd (List.eq_nil_of_length_eq_zero (by omega)) h1
 | n+1,i,p,q,k=>by
   show (q,k) ∈ (kids t i).flatMap _↔_
   rw [List.mem_flatMap]
   constructor
   ·rintro ⟨⟨x,m⟩,hm,h1⟩
    obtain ⟨en,hen,hmem⟩:=kids_mem hm
    have hk2:kindOf t i=2:=Decidable.byContradiction fun hne=>by rw [h.file_kids hne] at hm;cases hm
    have hstep:∀ r,lookF t i (x :: r)=lookF t m r:=fun r=>by
     rw [lookF_cons,if_neg (by simp [hk2]),get_of_mem (h.rises i) hm]
    rcases List.mem_cons.1 h1 with h1|h1
    ·injection h1 with h2 h3
     subst h2 h3
     exact ⟨[x],rfl,by simp,by simp,by rw [hstep];rfl⟩
    ·obtain ⟨r,h2,h3,h4,h5⟩:=(h.walk_mem n m (p++[x]) q k).1 h1
     exact ⟨x :: r,by rw [h2];simp,by simp,by simp;omega,by rw [hstep];exact h5⟩
   ·rintro ⟨r,h2,h3,h4,h5⟩
    cases r with
    | nil=>exact absurd rfl h3
    | cons x r =>
      rw [lookF_cons] at h5
      split at h5
      ·cases h5
      ·cases hg:get (kids t i) x with
       | none=>rw [hg] at h5;cases h5
       | some m =>
         rw [hg] at h5
         replace h5:lookF t m r=(k,0):=h5
         refine ⟨(x,m),get_mem hg,?_⟩
         by_cases hr:r=[]
         ·subst hr
          have h6:(m,0)=(k,0):=h5
          injection h6 with h6
          subst h6 h2
          exact .head _
         ·refine .tail _ ((h.walk_mem n m (p++[x]) q k).2 ⟨r,by rw [h2];simp,hr,by simp at h4;omega,h5⟩)
theorem Half.walk_nodup (h:Half t):∀ (n:Nat) (i:Int) (p:List Bs),(walk t n i p).Pairwise fun a b=>a.1≠b.1
 | 0,_,_=>List.Pairwise.nil
 | n+1,i,p=>by
   show ((kids t i).flatMap _).Pairwise _
   have key:∀ l:List Nm,Rise l→(∀ m ∈ l,m ∈ kids t i)→(l.flatMap fun k=>(p++[k.1],k.2) :: walk t n k.2 (p++[k.1])).Pairwise fun a b=>a.1≠b.1:=by
    intro l
    induction l with
    | nil=>intro _ _;exact List.Pairwise.nil
    | cons m l ih =>
      intro hr hm
      obtain ⟨hr1,hr2⟩:=List.pairwise_cons.1 hr
      rw [List.flatMap_cons,List.pairwise_append]
      refine ⟨List.pairwise_cons.2 ⟨fun b hb=>?_,h.walk_nodup n m.2 _⟩,ih hr2 fun x hx=>hm x (.tail _ hx),fun a ha b hb=>?_⟩
      ·obtain ⟨r,h2,h3,_⟩:=(h.walk_mem n m.2 (p++[m.1]) b.1 b.2).1 hb
       show p++[m.1]≠b.1
       rw [h2]
       intro e
       have:=congrArg List.length e
       simp only [List.length_append] at this
       exact h3 (List.eq_nil_of_length_eq_zero (by omega))
      ·have ha1:∃ r,a.1=p++(m.1 :: r):=by
        rcases List.mem_cons.1 ha with ha|ha
        ·exact ⟨[],by rw [ha]⟩
        ·obtain ⟨r,h2,_⟩:=(h.walk_mem n m.2 (p++[m.1]) a.1 a.2).1 ha
         exact ⟨r,by rw [h2];simp⟩
       obtain ⟨m2,hm2,hb⟩:=List.mem_flatMap.1 hb
       have hb1:∃ r,b.1=p++(m2.1 :: r):=by
        rcases List.mem_cons.1 hb with hb|hb
        ·exact ⟨[],by rw [hb]⟩
        ·obtain ⟨r,h2,_⟩:=(h.walk_mem n m2.2 (p++[m2.1]) b.1 b.2).1 hb
         exact ⟨r,by rw [h2];simp⟩
       obtain ⟨ra,ha1⟩:=ha1
       obtain ⟨rb,hb1⟩:=hb1
       rw [ha1,hb1]
       intro e
       have:=List.append_cancel_left e
       injection this with this _
       have hl:=hr1 m2 hm2
       exact less_ne hl this
   exact key _ (h.rises i) fun m hm=>hm
theorem Half.ends_one (h:Half t) (a b:List Bs × Int) (x:Int × Nm) (ha:EndsIn t a x) (hb:EndsIn t b x):a=b:=by
 obtain ⟨r,h1,h2,h3,h4⟩:=ha
 obtain ⟨s,k1,k2,k3,_⟩:=hb
 have:=h.one_path _ r s x.1 (Nat.le_refl _) h2 k2 h4
 subst this
 exact Prod.ext (h1.trans k1.symm) (h3.trans k3.symm)
theorem Half.paths_nodup (h:Half t):(paths t).Nodup:=by
 have:=h.walk_nodup 64 0 []
 exact this.imp (S:=fun a b=>a≠b) fun {a b} (hne:a.1≠b.1) (e:a=b)=>hne (congrArg Prod.fst e)
end Tr
end Go.Proofs.YtjoedamiilgajaaGreat
namespace Go.Proofs.YtjoedamiilgajaaGreat
open Go.RowKit
namespace Tr
variable {t:T}
theorem all_in {α:Type} [DecidableEq α] {l m:List α} (hn:l.Nodup) (hs:∀ x ∈ l,x ∈ m) (hl:m.length≤l.length):∀ y ∈ m,y ∈ l:=fun y hy=>by
 by_cases h:y ∈ l
 ·exact h
 ·exfalso
  have h1:=inj_le (fun a b:α=>a=b) (fun x x' y h1 h2=>h1.trans h2.symm) l (m.erase y) hn fun x hx=>⟨x,(List.mem_erase_of_ne fun e=>h (by rw [← e];exact hx)).2 (hs x hx),rfl⟩
  rw [List.length_erase_of_mem hy] at h1
  have h2:0<m.length:=List.length_pos_of_mem hy
  omega
def dirCount (t:T):Nat:=t.countP fun e=>e.nd.kind==2
def found (t:T):Nat:=1+(paths t).countP fun q=>kindOf t q.2==2
def most (l:List (List Bs × Int)) (m:Nat):Nat:=l.foldl (fun k q=>max k q.1.length) m
theorem most_le:∀ (l:List (List Bs × Int)) (m:Nat),m≤most l m∧∀ q ∈ l,q.1.length≤most l m
 | [],m=>⟨Nat.le_refl _,fun _ h=>by cases h⟩
 | q :: l,m=>by
   obtain ⟨h1,h2⟩:=most_le l (max m q.1.length)
   refine ⟨Nat.le_trans (Nat.le_max_left _ _) h1,fun x hx=>?_⟩
   rcases List.mem_cons.1 hx with rfl|hx
   ·exact Nat.le_trans (Nat.le_max_right _ _) h1
   ·exact h2 x hx
theorem most_bound:∀ (l:List (List Bs × Int)) (m b:Nat),m≤b→(∀ q ∈ l,q.1.length≤b)→most l m≤b
 | [],_,_,h,_=>h
 | q :: l,m,b,h,hq=>most_bound l _ b (Nat.max_le.2 ⟨h,hq q (.head _)⟩) fun x hx=>hq x (.tail _ hx)
def dirIds (t:T):List Int:=(t.filter fun e=>e.nd.kind==2).map (·.nd.id)
def foundIds (t:T):List Int:=0 :: ((paths t).filter fun q=>kindOf t q.2==2).map (·.2)
theorem dirIds_length (t:T):(dirIds t).length=dirCount t:=by
 unfold dirIds dirCount
 rw [List.length_map,List.countP_eq_length_filter]
theorem foundIds_length (t:T):(foundIds t).length=found t:=by
 unfold foundIds found
 rw [List.length_cons,List.length_map,List.countP_eq_length_filter]
 omega
theorem Half.no_root (h:Half t) {q:List Bs} (hq:q≠[]) (hl:lookF t 0 q=(0,0)):False:=by
 rcases List.eq_nil_or_concat q with rfl|⟨r,x,rfl⟩
 ·exact hq rfl
 ·rw [List.concat_eq_append] at hl
  obtain ⟨e,he,_,_,h3⟩:=h.look_back hl
  exact (h.leads e he _ h3).1 rfl
theorem Half.foundIds_nodup (h:Half t):(foundIds t).Nodup:=by
 unfold foundIds
 rw [List.nodup_cons]
 have hp:∀ q ∈ paths t,q.1≠[]∧lookF t 0 q.1=(q.2,0):=fun q hq=>by
  obtain ⟨r,h1,h2,_,h4⟩:=(h.walk_mem 64 0 [] q.1 q.2).1 hq
  rw [List.nil_append] at h1
  rw [h1]
  exact ⟨h2,h4⟩
 constructor
 ·intro h0
  obtain ⟨q,hq,h1⟩:=List.mem_map.1 h0
  obtain ⟨h2,h3⟩:=hp q (List.mem_filter.1 hq).1
  rw [h1] at h3
  exact h.no_root h2 h3
 ·rw [List.Nodup,List.pairwise_map]
  have hw:=(h.walk_nodup 64 0 []).filter fun q=>kindOf t q.2==2
  refine List.Pairwise.imp_of_mem ?_ hw
  intro a b ha hb hne e
  obtain ⟨ha1,ha2⟩:=List.mem_filter.1 ha
  obtain ⟨hb1,hb2⟩:=List.mem_filter.1 hb
  have ka:kindOf t a.2=2:=by simpa using ha2
  have e1:=(hp a ha1).2
  have e2:=(hp b hb1).2
  rw [← e] at e2
  exact hne (h.one_path _ a.1 b.1 a.2 (Nat.le_refl _) e1 e2 ka)
theorem Half.dirIds_nodup (h:Half t):(dirIds t).Nodup:=by
 unfold dirIds
 rw [List.Nodup,List.pairwise_map]
 exact (List.Pairwise.filter _ h.rise).imp fun {a b} (hl:a.nd.id<b.nd.id)=>by omega
theorem Half.found_dirs (h:Half t):∀ x ∈ foundIds t,x ∈ dirIds t:=fun x hx=>by
 have key:kindOf t x=2→x ∈ dirIds t:=fun hk=>by
  obtain ⟨e,he⟩:=h.has hk
  obtain ⟨h1,h2⟩:=find_some he
  rw [kindOf_of he] at hk
  exact List.mem_map.2 ⟨e,List.mem_filter.2 ⟨h1,by simp [hk]⟩,h2⟩
 unfold foundIds at hx
 rcases List.mem_cons.1 hx with rfl|hx
 ·obtain ⟨r,h1,h2,_⟩:=h.zero
  exact key (by rw [kindOf_of h1,h2])
 ·obtain ⟨q,hq,rfl⟩:=List.mem_map.1 hx
  exact key (by simpa using (List.mem_filter.1 hq).2)
open Classical in
theorem Half.good (h:Half t) (hf:found t=dirCount t) (h8:most (paths t) 0≤8):Good t:=by
 have hall:=all_in h.foundIds_nodup h.found_dirs (by rw [dirIds_length,foundIds_length];omega)
 have hlen:∀ q ∈ paths t,q.1.length≤8:=fun q hq=>Nat.le_trans ((most_le (paths t) 0).2 q hq) h8
 have hpath:∀ e ∈ t,e.nd.kind=2→∃ q,lookF t 0 q=(e.nd.id,0)∧q.length≤8:=fun e he hk=>by
  have h1:=hall e.nd.id (List.mem_map.2 ⟨e,List.mem_filter.2 ⟨he,by simp [hk]⟩,rfl⟩)
  unfold foundIds at h1
  rcases List.mem_cons.1 h1 with h1|h1
  ·exact ⟨[],by rw [h1];rfl,Nat.zero_le _⟩
  ·obtain ⟨q,hq,h2⟩:=List.mem_map.1 h1
   have hq1:=(List.mem_filter.1 hq).1
   obtain ⟨r,h3,_,_,h4⟩:=(h.walk_mem 64 0 [] q.1 q.2).1 hq1
   rw [List.nil_append] at h3
   refine ⟨q.1,?_,hlen q hq1⟩
   rw [h3,h4,h2]
 obtain ⟨dep,hdep⟩:∃ dep:Int→Nat,∀ q d,lookF t 0 q=(d,0)→kindOf t d=2→dep d=q.length:=by
  refine ⟨fun d=>if hx:∃ q,lookF t 0 q=(d,0) then hx.choose.length else 0,fun q d hq hk=>?_⟩
  have hx:∃ q,lookF t 0 q=(d,0):=⟨q,hq⟩
  simp only [dif_pos hx]
  exact congrArg List.length (h.one_path _ _ q d (Nat.le_refl _) hx.choose_spec hq hk)
 refine ⟨h.root,h.rise,h.few,h.each,h.leads,h.linked,h.dirs,h.shut,dep,?_,fun e he n hn=>?_⟩
 ·obtain ⟨r,h1,h2,_⟩:=h.zero
  exact hdep [] 0 rfl (by rw [kindOf_of h1,h2])
 ·have hk:e.nd.kind=2:=by
   rcases h.kind he with h5|h5
   ·rw [(h.each e he).file h5] at hn;cases hn
   ·exact h5
  obtain ⟨q,hq,hq8⟩:=hpath e he hk
  have hke:kindOf t e.nd.id=2:=by rw [kindOf_of (h.ris.find he)];exact hk
  have hon:=h.look_on he hq hk hn
  have hin:(q++[n.1],n.2) ∈ paths t:=(h.walk_mem 64 0 [] _ _).2 ⟨q++[n.1],rfl,by simp,by simp;omega,hon⟩
  have hl:=hlen _ hin
  rw [List.length_append] at hl
  rw [hdep q _ hq hke]
  refine ⟨hl,fun hkn=>?_⟩
  rw [hdep _ _ hon hkn,List.length_append]
  rfl
theorem Good.joined (h:Good t):found t=dirCount t∧most (paths t) 0≤8:=by
 refine ⟨?_,most_bound _ _ _ (Nat.zero_le _) fun q hq=>?_⟩
 ·have h1:=inj_le (fun a b:Int=>a=b) (fun x x' y h1 h2=>h1.trans h2.symm) (foundIds t) (dirIds t) h.half.foundIds_nodup fun x hx=>⟨x,h.half.found_dirs x hx,rfl⟩
  have h2:=inj_le (fun a b:Int=>a=b) (fun x x' y h1 h2=>h1.trans h2.symm) (dirIds t) (foundIds t) h.half.dirIds_nodup fun x hx=>⟨x,?_,rfl⟩
  ·rw [dirIds_length,foundIds_length] at h1 h2
   omega
  ·obtain ⟨e,he,rfl⟩:=List.mem_map.1 hx
   obtain ⟨he1,he2⟩:=List.mem_filter.1 he
   have hk:e.nd.kind=2:=by simpa using he2
   unfold foundIds
   by_cases h0:e.nd.id=0
   ·rw [h0];exact .head _
   ·refine .tail _ ?_
    obtain ⟨q,hq⟩:=h.path_of he1 hk
    have hne:q≠[]:=by
     rintro rfl
     injection (show ((0:Int),0)=(e.nd.id,0) from hq) with h1
     exact h0 h1.symm
    exact List.mem_map.2 ⟨(q,e.nd.id),List.mem_filter.2 ⟨(h.paths_mem q e.nd.id).2 ⟨hne,hq⟩,by simp [kindOf_of (h.ris.find he1),hk]⟩,rfl⟩
 ·exact h.path_le ((h.paths_mem q.1 q.2).1 hq).2
end Tr
end Go.Proofs.YtjoedamiilgajaaGreat
namespace Go.Proofs.YtjoedamiilgajaaGreat
open Go.RowKit Rc
open Tr (Nm En T)
namespace Tm
variable {lim:Nat} {O:Eye} {f:FuncId} {cb:Array Value} {p:Nat} {av:Value} {gs:List Nat} {S:Nat→Prop} {t:T} {w:World}
structure ShowsH (O:Eye) (f:FuncId) (cb:Array Value) (lim:Nat) (t:T):Prop where
 ent:∀ (args:Array Value) (w:World),(callFunc f args).run Tryz.prog w=.ok (.enter f args) w
 call:∀ (w:World) (seen:Shown) (B:Nat→Prop) (A:Option Addr) (q:List Bs) (cap g:Nat) (e:En) (S1:Nat→Prop),Tr.find t e.nd.id=some e→O.At seen B w→seen.length<lim→RdS w A q→q.length≤cap→q.length≤1000→(∀ b,0<q.length→A.map (·.block)=some b→¬ B b)→EAt g e S1 w→(∀ b,S1 b→¬ B b) →
  Calls Tryz.prog f (#[.slice A q.length cap,.pointer (some ⟨g,0,none⟩)]++cb) w fun r w'=>r=.returned (.tuple #[])∧∃ B',O.At (seen++[(q,e.nd.id)]) B' w'∧Mod w w' B∧∀ b,B' b→B b∨w.heap.size≤b
theorem TIn.ptrH (h:TIn p av gs S t w) (hG:Tr.Half t) {i:Int} {e:En} (hf:Tr.find t i=some e):∃ g S1,ptrOf gs t i=.pointer (some ⟨g,0,none⟩)∧EAt g e S1 w∧(∀ b,S1 b→S b)∧e.names.length≤4194240:=by
 obtain ⟨A,B,rfl,he,hA,hB⟩:=hG.ris.split hf
 obtain ⟨ga,g,gb,S1,rfl,hl,h1,h2,_⟩:=h.each.mid
 exact ⟨g,S1,ptrOf_mid hl (fun a ha=>by have:=hA a ha;omega) he,h1,h2,hG.names_le (Tr.find_some hf).1⟩
set_option maxHeartbeats 4000000 in
set_option maxRecDepth 100000 in
theorem walk_stepH (hS:ShowsH O f cb lim t) (hG:Tr.Half t) (R:Nm→Shown) {i:Int} {ei:En} {gi:Nat} {row:Value} {a:List Bs} {seen:Shown} {B:Nat→Prop} {w:World}
    (hf:Tr.find t i=some ei) (hp:ptrOf gs t i=.pointer (some ⟨gi,0,none⟩)) (ha:a.length≤900) (h:WPre O p av gs S t row a seen B w) (hlim:seen.length+(ei.names.flatMap (shownOf a R)).length≤lim)
    (IH:∀ k ∈ ei.names,∀ (g1:Nat) (row1:Value) (seen1:Shown) (B1:Nat→Prop) (w1:World),ptrOf gs t k.2=.pointer (some ⟨g1,0,none⟩)→WPre O p av gs S t row1 (a++[k.1]) seen1 B1 w1→seen1.length+(R k).length≤lim →
     Calls Tryz.prog 88 #[.pointer (some ⟨p,0,none⟩),.pointer (some ⟨g1,0,none⟩),row1,.func (.func f) #[] cb] w1 (Walked O row1 (a++[k.1]) seen1 B1 w1 (R k))) :
    Calls Tryz.prog 88 #[.pointer (some ⟨p,0,none⟩),.pointer (some ⟨gi,0,none⟩),row,.func (.func f) #[] cb] w (Walked O row a seen B w (ei.names.flatMap (shownOf a R))):=by
 obtain ⟨gi',Si,hp',hE,hSi,hnl⟩:=h.tin.ptrH hG hf
 obtain rfl:gi'=gi:=ptr_inj (hp'.symm.trans hp)
 obtain ⟨dv,nv,hE,rfl⟩:=hE
 have c7:w.cell? ⟨gi',7,none⟩=some nv:=hE.box.cell 7
 obtain ⟨A7,k7,hv7,hk7,hA⟩:=hE.names.form
 have hnb:∀ b,nv.ownBlock=some b→TrS p av S b:=fun b hb=>.inr (.inr (hSi b (.inr (.inr hb))))
 subst hv7
 obtain ⟨l,hl⟩:∃ l,l=ei.names:=⟨_,rfl⟩
 have HLD:Hid (∀ k ∈ l,∃ ek,Tr.find t k.2=some ek):=fun k hk=>Option.isSome_iff_exists.1 (hG.leads ei (Tr.find_some hf).1 k (hl ▸ hk)).2
 rw [← hl] at c7 hA IH hnl hlim ⊢
 have HLIM:=Lib.hid hlim
 have HA:=Lib.hid hA
 have HIH:=Lib.hid IH
 have HNB:=Lib.hid hnb
 have HW:=Lib.hid h
 have HG:=Lib.hid hG
 have hent:=hS.ent
 have HS:=Lib.hid hS
 clear hlim hA IH hnb h hG hS hE hSi hp' hp hf hl hk7
 go_enter Tryz.func88,Tryz.ntmps88
 go_wp2_with fail
 clear c7
 go_loopw [9,10,11,17] (fun t9 t10 t11 t17 wr=>∃ (j:Nat) (v9 v10 v11:Value),t9=v9∧t10=v10∧t11=v11∧t17=.int .i64 j∧j≤l.length∧Hid (∃ B1,WMid O row a seen B w ((l.take j).flatMap (shownOf a R)) B1 wr)) (fun _ _ _ t17 _=>l.length-(match t17 with|.int _ k=>k.toNat|_=>0))
 case atStart=>exact ⟨0,_,_,_,rfl,rfl,rfl,rfl,Nat.zero_le _,B,HW.out.start⟩
 case round =>
  obtain ⟨j,v9,v10,v11,rfl,rfl,rfl,rfl,hj,HM⟩:=hrel
  by_cases hk:j<l.length
  ·obtain ⟨k,hkj⟩:∃ k,l[j]?=some k:=⟨_,List.getElem?_eq_getElem hk⟩
   obtain ⟨q,rfl,hq1,_,hql,hcell⟩:=HA.out (by omega)
   obtain ⟨B1,hM⟩:=HM.out
   have HM1:=Lib.hid hM
   have hpre:=hM.pre HW.out
   have HPRE:=Lib.hid hpre
   have hsame:wr.heap[q]?=w.heap[q]?:=hM.mod.block q hql fun hx=>hx.elim (fun h1=>HW.out.apT q h1 (HNB.out q hq1)) fun h1=>(HW.out.apR q h1).2 (HNB.out q hq1)
   have c1:wr.cell? ⟨q,j*2,none⟩=some (.string (strOf k.1)):=(cell_same hsame).trans (hcell j k hkj).1
   have c2:wr.cell? ⟨q,j*2+1,none⟩=some (.int .i64 k.2):=(cell_same hsame).trans (hcell j k hkj).2
   have hlt2:(j:Int)<(l.length:Int):=by omega
   obtain ⟨ek,hek⟩:=HLD.out k (List.mem_of_getElem? hkj)
   obtain ⟨gk,Sk,hpk,hEk,hSk,_⟩:=hpre.tin.ptrH HG.out hek
   have hid:ek.nd.id=k.2:=(Tr.find_some hek).2
   have HFIND:Hid (∀ W,wr.heap.size≤W.heap.size→(∀ b,TrS p av S b→W.heap[b]?=wr.heap[b]?)→Calls Tryz.prog 89 #[.pointer (some ⟨p,0,none⟩),.int .i64 k.2] W fun e w'=>e=.returned (.pointer (some ⟨gk,0,none⟩))∧w'=W):=fun W _ hW=>by
    have:=find_any (hpre.tin.keep hW) k.2 (by have:=HG.out.few;omega)
    rw [hpk] at this
    exact this
   have HPK:=Lib.hid hpk
   have HEK:=Lib.hid hek
   have HKJ:=Lib.hid hkj
   have HID:=Lib.hid hid
   have HBND:Hid ((seen++(l.take j).flatMap (shownOf a R)).length+(1+(R k).length)≤lim):=by
    show _≤_
    have h1:=HLIM.out
    have h2:=flat_le (a:=a) (R:=R) hkj
    rw [List.length_append]
    omega
   clear hM hpre hsame hcell hek hpk hEk hSk hid hkj hq1 hql
   go_upto_region 3 with (fail)
   obtain ⟨wn,hwn⟩:∃ wn,wn=wr.alloc (.cells #[.string (strOf k.1),.int .i64 k.2] 116):=⟨_,rfl⟩
   obtain ⟨nb,hnb⟩:∃ nb,nb=wr.heap.size:=⟨_,rfl⟩
   have hblk:Blk wn nb 116 [.string (strOf k.1),.int .i64 k.2]:=by rw [hwn,hnb];exact Blk.new wr _ _
   have hbn:Below wr.heap.size wr wn:=by rw [hwn];exact below_new wr _
   have hba:Below wr.heap.size wr (wn.drew.alloc (.cells #[.string (strOf k.1)] 9)):=undrew_r hbn |>.trans ((below_new wn.drew _).mono hbn.size)
   have HBA:=Lib.hid hba
   have HSO:Hid (SOwn (wn.drew.alloc (.cells #[.string (strOf k.1)] 9)) row a):=HPRE.out.own.keep fun b hb=>hba.block b (HPRE.out.own.lt hb)
   have hrd:RdS (wn.drew.alloc (.cells #[.string (strOf k.1)] 9)) (some ⟨wn.drew.heap.size,0,none⟩) [k.1]:=rds_one wn.drew k.1 9
   have HRD:=Lib.hid hrd
   have HLA:Hid (a.length≤1000000):=by show _≤_;omega
   have HND:Hid (∀ w2,(wn.drew.alloc (.cells #[.string (strOf k.1)] 9)).grownBy w2 row.ownBlock→w2.cell? ⟨nb,0,none⟩=some (.string (strOf k.1))∧w2.cell? ⟨nb,1,none⟩=some (.int .i64 k.2)):=fun w2 hg=>by
    have h1:Blk (wn.drew.alloc (.cells #[.string (strOf k.1)] 9)) nb 116 [.string (strOf k.1),.int .i64 k.2]:=Blk.below (w:=wn.drew) hblk (below_new wn.drew _) hblk.lt
    have h2:Blk w2 nb 116 [.string (strOf k.1),.int .i64 k.2]:=h1.grown hg fun e=>by have:=HPRE.out.own.lt e.symm;omega
    exact ⟨h2.cell 0,h2.cell 1⟩
   have HFIND2:Hid (∀ w2,(wn.drew.alloc (.cells #[.string (strOf k.1)] 9)).grownBy w2 row.ownBlock→Calls Tryz.prog 89 #[.pointer (some ⟨p,0,none⟩),.int .i64 k.2] w2 fun e w'=>e=.returned (.pointer (some ⟨gk,0,none⟩))∧w'=w2):=fun w2 hg =>
    HFIND.out w2 (Nat.le_trans hba.size hg.size) fun b hT=>(hg.block b (Nat.lt_of_lt_of_le (HPRE.out.tin.lt hT) hba.size) fun e=>(HPRE.out.apR b e.symm).2 hT).trans (hba.block b (HPRE.out.tin.lt hT))
   have d0:wn.cell? ⟨nb,0,none⟩=some (.string (strOf k.1)):=hblk.cell 0
   have d1:wn.cell? ⟨nb,1,none⟩=some (.int .i64 k.2):=hblk.cell 1
   have d1a:(wn.drew.alloc (.cells #[.string (strOf k.1)] 9)).cell? ⟨nb,1,none⟩=some (.int .i64 k.2):=cell_alloc (w:=wn.drew) _ d1
   obtain ⟨qa,hqa⟩:∃ qa,qa=a++[k.1]:=⟨_,rfl⟩
   have HQA:=Lib.hid hqa
   rw [← hwn,← hnb]
   clear hwn hnb hblk hbn hba hrd hqa c1 c2 HFIND
   go_region_held3 (fun w'=>w'.cell? ⟨nb,0,none⟩=some (.string (strOf k.1))∧w'.cell? ⟨nb,1,none⟩=some (.int .i64 k.2))
    (first
     | go_keep
     | exact HND.out _ HG2.out)
    (first
     | (go_at_call 89;refine (HFIND2.out w2 HG2.out).mono ?_;rintro e1 w3 ⟨rfl,rfl⟩)
     | (refine step_append_kept (v:=row) (l:=a) (by rfl) (.tmp 21) (.tmp 24) (by rfl) (by rfl) HSO.out _ k.1 1 (by rfl) HRD.out HLA.out ?_;intro v2 w2 HO2 HG2 HP2 HK2;rw [← HQA.out] at HO2;obtain ⟨A2,c2,hv2,hc2,hrd2,hb2⟩:=HO2.out.form;subst hv2)
     | fail)
   have ho3:SOwn w3 (.slice A2 qa.length c2) (a++[k.1]):=by rw [← HQA.out];exact HO2.out
   have hpre2:=HPRE.out.hung HBA.out ho3 HG2.out HP2.out
   obtain ⟨gk2,Sk2,hpk2,hEk2,hSk2,_⟩:=hpre2.tin.ptrH HG.out HEK.out
   obtain rfl:gk2=gk:=ptr_inj (hpk2.symm.trans HPK.out)
   have hq:qa.length≤1000:=by rw [HQA.out,List.length_append];show _+1≤_;omega
   have hcall:=HS.out.call w3 _ B1 A2 qa c2 gk2 ek Sk2 (by rw [HID.out];exact HEK.out) hpre2.at_ (by have:=HBND.out;omega) hrd2 hc2 hq (fun b hl hb h1=>(hpre2.apR b (hb2 b hl hb)).1 h1) hEk2 (fun b hb h1=>hpre2.apT b h1 (.inr (.inr (hSk2 b hb))))
   rw [HID.out,HQA.out] at hcall
   have hql:(a++[k.1]).length=qa.length:=by rw [HQA.out]
   rw [hql] at hcall
   have HCL:=Lib.hid hcall
   have HPRE2:=Lib.hid hpre2
   have HO3:=Lib.hid ho3
   clear ho3 hpre2 hpk2 hEk2 hSk2 hq hcall hrd2 hc2 hb2 d0 d1 d1a HO2 HND HFIND2 HSO HRD hql
   go_wp2_with fail
   refine HCL.out.mono ?_
   rintro r w4 ⟨rfl,B2,h1,h2,h3⟩
   have HWALK:=Lib.hid (HIH.out k (List.mem_of_getElem? HKJ.out) gk2 _ _ B2 w4 HPK.out (HPRE2.out.told h1 h2 h3) (by have:=HBND.out;rw [List.length_append,List.length_singleton];omega))
   have HROUND:Hid (∀ B3 w5,WMid O (.slice A2 qa.length c2) (a++[k.1]) ((seen++(l.take j).flatMap (shownOf a R))++[(a++[k.1],k.2)]) B2 w4 (R k) B3 w5→WMid O row a (seen++(l.take j).flatMap (shownOf a R)) B1 wr (shownOf a R k) B3 w5):=fun B3 w5 hm=>HPRE.out.round HBA.out HO3.out HG2.out HP2.out HK2.out h2 h3 hm
   clear h1 h2 h3 HCL HG2 HP2 HK2
   go_wp2_with fail
   refine HWALK.out.mono ?_
   rintro r w5 ⟨rfl,B3,hmid⟩
   have HNX:Hid (∃ B',WMid O row a seen B w ((l.take (j+1)).flatMap (shownOf a R)) B' w5):=by
    rw [shown_next HKJ.out]
    exact ⟨B3,HM1.out.trans (HROUND.out B3 w5 hmid)⟩
   clear hmid HWALK HROUND
   go_wp2_with fail
   go_roundw
   case rel=>exact ⟨j+1,_,_,_,rfl,rfl,rfl,by go_num,by omega,HNX.out⟩
   case measure=>simp;omega
  ·obtain rfl:j=l.length:=by omega
   have HEND:Hid (∃ B1,WMid O row a seen B w (l.flatMap (shownOf a R)) B1 wr):=by
    have:=HM.out
    rw [List.take_length] at this
    exact this
   go_wp2_with fail
   refine bodyPost_end (results_none rfl _ _ _) rfl ?_
   exact ⟨rfl,HEND.out⟩
abbrev DeepsIn (C:Int→Prop) (t:T) (dep:Int→Nat):Prop:=∀ e ∈ t,C e.nd.id→∀ n ∈ e.names,C n.2∧dep e.nd.id+1≤64∧(Tr.kindOf t n.2=2→dep n.2=dep e.nd.id+1)
theorem no_namesH (hG:Tr.Half t) {dep:Int→Nat} {C:Int→Prop} (hd:DeepsIn C t dep) {i:Int} {ei:En} (hf:Tr.find t i=some ei) (hc:C i) (h9:ei.nd.kind=2→64≤dep i):ei.names=[]:=by
 have hm:=Tr.find_some hf
 by_cases hk:ei.nd.kind=2
 ·apply List.eq_nil_iff_forall_not_mem.2
  intro n hn
  have h1:=(hd ei hm.1 (hm.2 ▸ hc) n hn).2.1
  have h2:=h9 hk
  rw [hm.2] at h1
  omega
 ·have h1:=(hG.each ei hm.1).nd
  have h2:=(hG.each ei hm.1).file
  exact h2 (h1.2.2.2.2.2.2.2.resolve_right fun h3=>hk h3.1)
theorem walk_anyH (hS:ShowsH O f cb lim t) (hG:Tr.Half t) {dep:Int→Nat} {C:Int→Prop} (hd:DeepsIn C t dep):∀ (n:Nat) (i:Int) (ei:En) (gi:Nat) (row:Value) (a:List Bs) (seen:Shown) (B:Nat→Prop) (w:World),
    C i→Tr.find t i=some ei→ptrOf gs t i=.pointer (some ⟨gi,0,none⟩)→(ei.nd.kind=2→64≤n+dep i)→a.length+n≤900→WPre O p av gs S t row a seen B w→seen.length+(Tr.walk t n i a).length≤lim →
    Calls Tryz.prog 88 #[.pointer (some ⟨p,0,none⟩),.pointer (some ⟨gi,0,none⟩),row,.func (.func f) #[] cb] w (Walked O row a seen B w (Tr.walk t n i a))
 | 0,i,ei,gi,row,a,seen,B,w,hc,hf,hp,h9,ha,h,hl=>by
   have hn:=no_namesH hG hd hf hc (by simpa using h9)
   have:=walk_stepH hS hG (fun _=>[]) hf hp (by omega) h (by rw [hn];exact hl) (fun k hk=>by rw [hn] at hk;cases hk)
   rw [hn] at this
   exact this
 | n+1,i,ei,gi,row,a,seen,B,w,hc,hf,hp,h9,ha,h,hl=>by
   have he:Tr.walk t (n+1) i a=ei.names.flatMap (shownOf a fun k=>Tr.walk t n k.2 (a++[k.1])):=by rw [Tr.walk,Tr.kids_of hf];rfl
   have hm:=Tr.find_some hf
   have:=walk_stepH hS hG (fun k=>Tr.walk t n k.2 (a++[k.1])) hf hp (by omega) h (by rw [← he];exact hl) (fun k hk g1 row1 seen1 B1 w1 hp1 h1 hl1=>by
    obtain ⟨ek,hek⟩:=Option.isSome_iff_exists.1 (hG.leads ei hm.1 k hk).2
    refine walk_anyH hS hG hd n k.2 ek g1 row1 (a++[k.1]) seen1 B1 w1 (hd ei hm.1 (hm.2 ▸ hc) k hk).1 hek hp1 (fun hk2=>?_) (by rw [List.length_append];show _+1+n≤_;omega) h1 hl1
    have h3:=(hd ei hm.1 (hm.2 ▸ hc) k hk).2.2 (by rw [Tr.kindOf_of hek];exact hk2)
    rw [h3,hm.2]
    have hk3:ei.nd.kind=2:=by
     by_cases h4:ei.nd.kind=2
     ·exact h4
     ·have h5:=(hG.each ei hm.1).file ((hG.each ei hm.1).nd.2.2.2.2.2.2.2.resolve_right fun h3=>h4 h3.1)
      rw [h5] at hk;cases hk
    have:=h9 hk3
    omega)
   rw [he]
   exact this
end Tm
end Go.Proofs.YtjoedamiilgajaaGreat
namespace Go.Proofs.YtjoedamiilgajaaGreat
open Go.RowKit
namespace Tr
variable {t:T}
theorem Half.dir_in (h:Half t) {j:Int} (hk:kindOf t j=2):j ∈ dirIds t:=by
 obtain ⟨e,he⟩:=h.has hk
 obtain ⟨h1,h2⟩:=find_some he
 rw [kindOf_of he] at hk
 exact List.mem_map.2 ⟨e,List.mem_filter.2 ⟨h1,by simp [hk]⟩,h2⟩
theorem Half.on_way (h:Half t):∀ (n:Nat) (q:List Bs) (j:Int),q.length=n→lookF t 0 q=(j,0)→kindOf t j=2 →
    ∃ ds:List Int,ds.length=q.length+1∧ds.Nodup∧∀ d ∈ ds,kindOf t d=2∧∃ r,lookF t 0 r=(d,0)∧r.length≤q.length
 | 0,q,j,hn,hl,hk=>by
   refine ⟨[j],by simp [hn],by simp,fun d hd=>?_⟩
   rw [List.mem_singleton] at hd
   subst hd
   exact ⟨hk,q,hl,Nat.le_refl _⟩
 | n+1,q,j,hn,hl,hk=>by
   rcases List.eq_nil_or_concat q with rfl|⟨r,x,rfl⟩
   ·cases hn
   ·rw [List.concat_eq_append] at hl hn ⊢
    rw [List.length_append,List.length_singleton] at hn
    obtain ⟨e,he,h1,h2,_⟩:=h.look_back hl
    have hke:kindOf t e.nd.id=2:=by rw [kindOf_of (h.ris.find he)];exact h2
    obtain ⟨ds,h3,h4,h5⟩:=h.on_way n r e.nd.id (by omega) h1 hke
    refine ⟨j :: ds,by simp [h3],List.nodup_cons.2 ⟨fun hj=>?_,h4⟩,fun d hd=>?_⟩
    ·obtain ⟨_,r',h6,h7⟩:=h5 j hj
     have:=h.one_path _ _ _ j (Nat.le_refl _) h6 hl hk
     rw [this,List.length_append,List.length_singleton] at h7
     omega
    ·rcases List.mem_cons.1 hd with rfl|hd
     ·exact ⟨hk,r++[x],hl,Nat.le_refl _⟩
     ·obtain ⟨h6,r',h7,h8⟩:=h5 d hd
      exact ⟨h6,r',h7,by rw [List.length_append];omega⟩
theorem Half.way_le (h:Half t) {q:List Bs} {j:Int} (hl:lookF t 0 q=(j,0)) (hk:kindOf t j=2):q.length+1≤64:=by
 obtain ⟨ds,h1,h2,h3⟩:=h.on_way _ q j rfl hl hk
 have h4:=inj_le (fun a b:Int=>a=b) (fun x x' y h1 h2=>h1.trans h2.symm) ds (dirIds t) h2 fun x hx=>⟨x,h.dir_in (h3 x hx).1,rfl⟩
 have h5:(dirIds t).length≤t.length:=by
  unfold dirIds
  rw [List.length_map]
  exact List.length_filter_le _ _
 have h6:=h.few
 omega
def Found (t:T) (j:Int):Prop:=∃ q,lookF t 0 q=(j,0)
open Classical in
theorem Half.deeps (h:Half t):∃ dep:Int→Nat,dep 0=0∧Found t 0∧Tm.DeepsIn (Found t) t dep:=by
 obtain ⟨dep,hdep⟩:∃ dep:Int→Nat,∀ q d,lookF t 0 q=(d,0)→kindOf t d=2→dep d=q.length:=by
  refine ⟨fun d=>if hx:∃ q,lookF t 0 q=(d,0) then hx.choose.length else 0,fun q d hq hk=>?_⟩
  have hx:∃ q,lookF t 0 q=(d,0):=⟨q,hq⟩
  simp only [dif_pos hx]
  exact congrArg List.length (h.one_path _ _ q d (Nat.le_refl _) hx.choose_spec hq hk)
 refine ⟨dep,?_,⟨[],rfl⟩,fun e he ⟨q,hq⟩ n hn=>?_⟩
 ·obtain ⟨r,h1,h2,_⟩:=h.zero
  exact hdep [] 0 rfl (by rw [kindOf_of h1,h2])
 ·have hk:e.nd.kind=2:=by
   rcases h.kind he with h5|h5
   ·rw [(h.each e he).file h5] at hn;cases hn
   ·exact h5
  have hke:kindOf t e.nd.id=2:=by rw [kindOf_of (h.ris.find he)];exact hk
  have hon:=h.look_on he hq hk hn
  refine ⟨⟨_,hon⟩,?_,fun hkn=>?_⟩
  ·rw [hdep q _ hq hke]
   exact h.way_le hq hke
  ·rw [hdep _ _ hon hkn,hdep q _ hq hke,List.length_append]
   rfl
end Tr
end Go.Proofs.YtjoedamiilgajaaGreat
namespace Go.Proofs.YtjoedamiilgajaaGreat
open Go.RowKit Rc
open Tr (Nm En T)
namespace Tm
def fnd (t:T) (s:Shown):Nat:=1+s.countP fun q=>Tr.kindOf t q.2==2
theorem fnd_snoc (t:T) (s:Shown) (q:List Bs) (k:Int):fnd t (s++[(q,k)])=fnd t s+(if Tr.kindOf t k=2 then 1 else 0):=by
 unfold fnd
 rw [List.countP_append]
 by_cases h:Tr.kindOf t k=2 <;> simp [h] <;> omega
theorem fnd_le (t:T) (s:Shown):fnd t s≤1+s.length:=by
 unfold fnd
 have:=List.countP_le_length (p:=fun q:List Bs × Int=>Tr.kindOf t q.2==2) (l:=s)
 omega
def jEye (t:T) (fb mb:Nat):Eye where
 At s B w:=(Blk w fb 3 [.int .i64 (fnd t s:Nat)]∧Blk w mb 3 [.int .i64 (longest 0 s:Nat)])∧B=fun b=>b=fb∨b=mb
 keep:=by
  rintro s B w w' ⟨⟨h1,h2⟩,rfl⟩ _ hb
  exact ⟨⟨(hb fb (.inl rfl)).trans h1,(hb mb (.inr rfl)).trans h2⟩,rfl⟩
 lt:=by
  rintro s B w ⟨⟨h1,h2⟩,rfl⟩ b (rfl|rfl)
  ·exact h1.lt
  ·exact h2.lt
set_option maxHeartbeats 1000000 in
set_option maxRecDepth 100000 in
theorem joined1_yes (w:World) (fb mb k m g:Nat) (A:Option Addr) (l cap:Nat) (hne:fb≠mb) (h1:Blk w fb 3 [.int .i64 (k:Nat)]) (h2:Blk w mb 3 [.int .i64 (m:Nat)]) (hk:k≤1000000000)
    (hg:w.cell? ⟨g,1,none⟩=some (.int .i64 2)) :
    Calls Tryz.prog 168 #[.slice A l cap,.pointer (some ⟨g,0,none⟩),.pointer (some ⟨fb,0,none⟩),.pointer (some ⟨mb,0,none⟩)] w fun r w'=>r=.returned (.tuple #[])∧w'=(w.setCell ⟨fb,0,none⟩ (.int .i64 (k+1:Nat))).setCell ⟨mb,0,none⟩ (.int .i64 (max m l:Nat)):=by
 have c0:w.cell? ⟨fb,0,none⟩=some (.int .i64 (k:Nat)):=h1.cell 0
 have f0:=h1.frozen 0
 have h3:Blk (w.setCell ⟨fb,0,none⟩ (.int .i64 ((k:Int)+1))) mb 3 [.int .i64 (m:Nat)]:=(Below.heap_setCell w ⟨fb,0,none⟩ _ mb (fun e=>hne e.symm)).trans h2
 have c1:(w.setCell ⟨fb,0,none⟩ (.int .i64 ((k:Int)+1))).cell? ⟨mb,0,none⟩=some (.int .i64 (m:Nat)):=h3.cell 0
 have f1:=h3.frozen 0
 have HMX:Hid (max (m:Int) (l:Int)=((max m l:Nat):Int)):=by show _=_;omega
 have HK1:Hid ((k:Int)+1=((k+1:Nat):Int)):=by show _=_;omega
 clear h1 h2 h3
 go_enter Tryz.func168,Tryz.ntmps168
 go_wp2_with fail
 rw [HMX.out]
 refine bodyPost_end (results_none rfl _ _ _) rfl ?_
 exact ⟨rfl,by rw [HK1.out]⟩
set_option maxHeartbeats 1000000 in
set_option maxRecDepth 100000 in
theorem joined1_no (w:World) (fb mb m g:Nat) (kd:Int) (A:Option Addr) (l cap:Nat) (h2:Blk w mb 3 [.int .i64 (m:Nat)])
    (hg:w.cell? ⟨g,1,none⟩=some (.int .i64 kd)) (hk2:kd≠2) :
    Calls Tryz.prog 168 #[.slice A l cap,.pointer (some ⟨g,0,none⟩),.pointer (some ⟨fb,0,none⟩),.pointer (some ⟨mb,0,none⟩)] w fun r w'=>r=.returned (.tuple #[])∧w'=w.setCell ⟨mb,0,none⟩ (.int .i64 (max m l:Nat)):=by
 have c1:w.cell? ⟨mb,0,none⟩=some (.int .i64 (m:Nat)):=h2.cell 0
 have f1:=h2.frozen 0
 have HMX:Hid (max (m:Int) (l:Int)=((max m l:Nat):Int)):=by show _=_;omega
 have hb:(kd==2)=false:=by simpa using hk2
 clear h2 hk2
 go_enter Tryz.func168,Tryz.ntmps168
 go_wp2_with fail
 rw [HMX.out]
 refine bodyPost_end (results_none rfl _ _ _) rfl ?_
 exact ⟨rfl,rfl⟩
theorem jShows (t:T) (fb mb lim:Nat) (hne:fb≠mb) (hlim:lim≤100000000):ShowsH (jEye t fb mb) 168 #[.pointer (some ⟨fb,0,none⟩),.pointer (some ⟨mb,0,none⟩)] lim t where
 ent:=enters_of Tryz.func168 (by kernel_rfl) rfl
 call:=by
  rintro w seen B A q cap g e S1 hfe ⟨⟨h1,h2⟩,rfl⟩ hl _ _ _ _ hE _
  have hg:=hE.cells.2.1
  have hko:Tr.kindOf t e.nd.id=e.nd.kind:=Tr.kindOf_of hfe
  have hb:longest 0 (seen++[(q,e.nd.id)])=max (longest 0 seen) q.length:=by rw [longest_append];rfl
  have hf:=fnd_le t seen
  by_cases hk:e.nd.kind=2
  ·rw [hk] at hg
   refine (joined1_yes w fb mb (fnd t seen) (longest 0 seen) g A q.length cap hne h1 h2 (by omega) hg).mono ?_
   rintro r w' ⟨rfl,rfl⟩
   refine ⟨rfl,_,⟨⟨?_,?_⟩,rfl⟩,⟨rfl,rfl,rfl,?_,fun b _ hn=>?_⟩,fun b hb=>.inl hb⟩
   ·rw [fnd_snoc,hko,if_pos hk]
    exact (Below.heap_setCell _ ⟨mb,0,none⟩ _ fb hne).trans (h1.set_ 0 (.int .i64 (fnd t seen+1:Nat)))
   ·rw [hb]
    have h3:Blk (w.setCell ⟨fb,0,none⟩ (.int .i64 (fnd t seen+1:Nat))) mb 3 [.int .i64 (longest 0 seen:Nat)]:=(Below.heap_setCell w ⟨fb,0,none⟩ _ mb (fun e=>hne e.symm)).trans h2
    exact h3.set_ 0 (.int .i64 (max (longest 0 seen) q.length:Nat))
   ·rw [World.size_setCell,World.size_setCell];exact Nat.le_refl _
   ·exact (Below.heap_setCell _ ⟨mb,0,none⟩ _ b fun e=>hn (.inr e)).trans (Below.heap_setCell w ⟨fb,0,none⟩ _ b fun e=>hn (.inl e))
  ·refine (joined1_no w fb mb (longest 0 seen) g e.nd.kind A q.length cap h2 hg hk).mono ?_
   rintro r w' ⟨rfl,rfl⟩
   refine ⟨rfl,_,⟨⟨?_,?_⟩,rfl⟩,⟨rfl,rfl,rfl,?_,fun b _ hn=>?_⟩,fun b hb=>.inl hb⟩
   ·rw [fnd_snoc,hko,if_neg hk]
    exact (Below.heap_setCell _ ⟨mb,0,none⟩ _ fb hne).trans h1
   ·rw [hb]
    exact h2.set_ 0 (.int .i64 (max (longest 0 seen) q.length:Nat))
   ·rw [World.size_setCell];exact Nat.le_refl _
   ·exact Below.heap_setCell w ⟨mb,0,none⟩ _ b fun e=>hn (.inr e)
end Tm
end Go.Proofs.YtjoedamiilgajaaGreat
namespace Go.Proofs.YtjoedamiilgajaaGreat
open Go.RowKit Rc
open Tr (Nm En T)
namespace Tr
variable {t:T}
theorem Half.ends_of (h:Half t) {a:List Bs × Int} (ha:a ∈ paths t):∃ x ∈ flat t,EndsIn t a x:=by
 obtain ⟨q,k⟩:=a
 obtain ⟨q',h0,h1,_,h2⟩:=(h.walk_mem 64 0 [] q k).1 ha
 rw [List.nil_append] at h0
 subst h0
 rcases List.eq_nil_or_concat q with rfl|⟨r,x,rfl⟩
 ·exact absurd rfl h1
 ·rw [List.concat_eq_append] at h2 ⊢
  obtain ⟨e,he,h3,h4,h5⟩:=h.look_back h2
  exact ⟨(e.nd.id,(x,k)),flat_mem.2 ⟨e,he,rfl,h5⟩,r,rfl,h3,rfl,by rw [kindOf_of (h.ris.find he)];exact h4⟩
theorem Half.paths_few (h:Half t):(paths t).length≤4194240:=by
 have:=inj_le (EndsIn t) h.ends_one (paths t) (flat t) h.paths_nodup fun a ha=>h.ends_of ha
 have:=h.flat_le
 omega
end Tr
namespace Tm
variable {p:Nat} {av:Value} {gs:List Nat} {S:Nat→Prop} {t:T} {w:World}
set_option maxHeartbeats 2000000 in
set_option maxRecDepth 100000 in
theorem joined_any (h:TIn p av gs S t w) (hG:Tr.Half t) :
    Calls Tryz.prog 141 #[.pointer (some ⟨p,0,none⟩)] w fun r w'=>r=.returned (.bool (decide (Tr.found t=Tr.dirCount t)&&decide (Tr.most (Tr.paths t) 0≤8)))∧Below w.heap.size w w':=by
 have H:=Lib.hid h
 have c0:w.cell? ⟨p,0,none⟩=some av:=h.box.cell 0
 have hl:=h.each.len
 obtain ⟨A,c,hav,hc,hA⟩:=own_form h.row
 have HA:=Lib.hid hA
 have HL:=Lib.hid hl
 have hg9:gs.length≤64:=by rw [hl];exact hG.few
 have HG:=Lib.hid hG
 subst hav
 clear h hA hl hG
 go_enter Tryz.func141,Tryz.ntmps141
 go_wp2_with fail
 go_loopw [3,5,13] (fun t3 t5 t13 wr=>∃ (j:Nat) (v5:Value),t3=.int .i64 (Tr.dirCount (t.take j):Nat)∧t5=v5∧t13=.int .i64 j∧j≤gs.length∧wr=w) (fun _ _ t13 _=>gs.length-(match t13 with|.int _ k=>k.toNat|_=>0))
 case atStart=>exact ⟨0,_,rfl,rfl,rfl,Nat.zero_le _,rfl⟩
 case round =>
  obtain ⟨j,v5,rfl,rfl,rfl,hj,rfl⟩:=hrel
  by_cases hk:j<gs.length
  ·obtain ⟨e,he⟩:∃ e,t[j]?=some e:=⟨_,List.getElem?_eq_getElem (by rw [← HL.out];exact hk)⟩
   obtain ⟨g,S1,hg,hE,_⟩:=H.out.each.get he
   obtain ⟨q,rfl,_,_,_,hcell⟩:=HA.out (by omega)
   have c1:wr.cell? ⟨q,j,none⟩=some (.pointer (some ⟨g,0,none⟩)):=hcell j _ (by simp [ptrCells,hg])
   have c2:=hE.cells.2.1
   have hlt2:(j:Int)<(gs.length:Int):=by omega
   have hcl:Tr.dirCount (t.take j)≤64:=Nat.le_trans List.countP_le_length (by rw [List.length_take];omega)
   have hnx:Tr.dirCount (t.take (j+1))=Tr.dirCount (t.take j)+(if e.nd.kind=2 then 1 else 0):=by
    unfold Tr.dirCount
    rw [take_next he,List.countP_append]
    by_cases h2:e.nd.kind=2 <;> simp [h2]
   clear he hg hE hcell
   by_cases hi:e.nd.kind=2
   ·have HN:Hid (Tr.dirCount (t.take (j+1))=Tr.dirCount (t.take j)+1):=by rw [if_pos hi] at hnx;exact hnx
    rw [hi] at c2
    obtain ⟨dc,hdc⟩:∃ dc,dc=Tr.dirCount (t.take j):=⟨_,rfl⟩
    rw [← hdc] at HN hcl ⊢
    clear hi hnx hdc
    go_wp2_with fail
    go_roundw
    case rel=>exact ⟨j+1,_,by rw [HN.out];go_num,rfl,by go_num,by omega,by first|rfl|trivial⟩
    case measure=>simp;omega
   ·have HN:Hid (Tr.dirCount (t.take (j+1))=Tr.dirCount (t.take j)):=by rw [if_neg hi] at hnx;exact hnx
    have hb:(e.nd.kind==2)=false:=by simpa using hi
    clear hi hnx
    go_wp2_with fail
    go_roundw
    case rel=>exact ⟨j+1,_,by rw [HN.out],rfl,by go_num,by omega,by first|rfl|trivial⟩
    case measure=>simp;omega
  ·obtain rfl:j=gs.length:=by omega
   have HT:Hid (t.take gs.length=t):=by show _=_;rw [show gs.length=t.length from HL.out,List.take_length]
   rw [HT.out]
   obtain ⟨r0,rest,ht0,hid0,hk0⟩:=HG.out.root
   have h64:0<gs.length:=by rw [show gs.length=t.length from HL.out,ht0];simp
   obtain ⟨g0,S0,hg0,hE0,_⟩:=H.out.each.get (j:=0) (e:=r0) (by rw [ht0];rfl)
   have hfind:Tr.find t 0=some r0:=by
    have:=HG.out.ris.find (e:=r0) (by rw [ht0];exact .head _)
    rw [hid0] at this
    exact this
   have hptr:ptrOf gs t 0=.pointer (some ⟨g0,0,none⟩):=by
    obtain ⟨g,gs',rfl⟩:∃ g gs',gs=g :: gs':=by
     cases gs with
     | nil=>simp at h64
     | cons g gs'=>exact ⟨g,gs',rfl⟩
    obtain rfl:g=g0:=by simpa using hg0
    rw [ht0]
    show (if _ then _ else _)=_
    rw [if_pos hid0]
   obtain ⟨q,rfl,_,_,hq,hcell⟩:=HA.out h64
   have c1:wr.cell? ⟨q,0,none⟩=some (.pointer (some ⟨g0,0,none⟩)):=hcell 0 _ (by simp [ptrCells,hg0])
   obtain ⟨wa,hwa⟩:∃ wa,wa=wr.alloc (.cells #[.int .i64 1] 3):=⟨_,rfl⟩
   obtain ⟨wb,hwb⟩:∃ wb,wb=wa.alloc (.cells #[.int .i64 0] 3):=⟨_,rfl⟩
   have hba:Below wr.heap.size wr wa:=by rw [hwa];exact below_new wr _
   have hsa:wa.heap.size=wr.heap.size+1:=by rw [hwa];exact World.size_alloc _ _
   have hbb:Below wa.heap.size wa wb:=by rw [hwb];exact below_new wa _
   have hbw:Below wr.heap.size wr wb:=hba.trans (hbb.mono hba.size)
   have hk1:Blk wa wr.heap.size 3 [.int .i64 (fnd t []:Nat)]:=by rw [hwa];exact Blk.new wr _ _
   have hk2:Blk wb wa.heap.size 3 [.int .i64 (longest 0 []:Nat)]:=by rw [hwb];exact Blk.new wa _ _
   rw [hsa] at hk2
   have hpre:WPre (jEye t wr.heap.size (wr.heap.size+1)) p _ gs S t (.slice none 0 0) [] [] (fun b=>b=wr.heap.size∨b=wr.heap.size+1) wb :=
    ⟨H.out.below hbw,SOwn.nil _,⟨⟨hk1.below hbb hk1.lt,hk2⟩,rfl⟩,fun b hb hT=>by have:=H.out.lt hT;omega,fun b hb=>by cases hb⟩
   obtain ⟨dep,hd0,hC0,hdp⟩:=HG.out.deeps
   have HW:=Lib.hid (walk_anyH (jShows t wr.heap.size (wr.heap.size+1) (Tr.walk t 64 0 []).length (by omega) (by have:=HG.out.paths_few;unfold Tr.paths at this;omega)) HG.out hdp 64 0 r0 g0 (.slice none 0 0) [] [] _ wb hC0 hfind hptr (fun _=>by omega) (by show 0+64≤_;omega) hpre (by simp))
   have d0:wb.cell? ⟨p,0,none⟩=some (.slice (some ⟨q,0,none⟩) gs.length c):=(H.out.below hbw).box.cell 0
   have d1:wb.cell? ⟨q,0,none⟩=some (.pointer (some ⟨g0,0,none⟩)):=by
    unfold World.cell?;rw [hbw.block q hq];exact c1
   have HB:=Lib.hid hbw
   have HD:Hid (Tr.dirCount t≤64):=Nat.le_trans List.countP_le_length HG.out.few
   have hz:(0:Int)<(gs.length:Int):=by omega
   rw [hwa] at hwb
   rw [hwb] at d0 d1
   clear ht0 hid0 hk0 hg0 hE0 hfind hptr hcell c1 hba hsa hbb hbw hk1 hk2 hpre hd0 hC0 hdp hq hwa
   go_wp2_with fail
   rw [← hwb]
   refine HW.out.mono ?_
   rintro r w2 ⟨rfl,B2,hm⟩
   obtain ⟨⟨e1,e2⟩,_⟩:=hm.at_
   rw [List.nil_append] at e1 e2
   have HE:Hid (Below wr.heap.size wr w2):=by
    have h1:=hm.mod
    have hbw:=HB.out
    exact ⟨h1.os.trans hbw.os,h1.tape.trans hbw.tape,h1.output.trans hbw.output,Nat.le_trans hbw.size h1.size,fun b hlt=>(h1.block b (Nat.lt_of_lt_of_le hlt hbw.size) (fun hx=>by
     rcases hx with h2|h2
     ·omega
     ·cases h2)).trans (hbw.block b hlt)⟩
   have k1:w2.cell? ⟨wr.heap.size,0,none⟩=some (.int .i64 (Tr.found t:Nat)):=e1.cell 0
   have k2:w2.cell? ⟨wr.heap.size+1,0,none⟩=some (.int .i64 (Tr.most (Tr.paths t) 0:Nat)):=e2.cell 0
   clear hm e1 e2 hwb d0 d1
   by_cases hff:Tr.found t=Tr.dirCount t
   ·by_cases h8:Tr.most (Tr.paths t) 0≤8
    ·have b1:((Tr.found t:Int)==(Tr.dirCount t:Int))=true:=by rw [hff];simp
     have b2:decide ((Tr.most (Tr.paths t) 0:Int)≤8)=true:=by simp;omega
     have HR:Hid ((decide (Tr.found t=Tr.dirCount t)&&decide (Tr.most (Tr.paths t) 0≤8))=true):=by show _=_;simp [hff,h8]
     go_wp2_with fail
     go_ret
     exact ⟨by rw [HR.out];rfl,HE.out⟩
    ·have b1:((Tr.found t:Int)==(Tr.dirCount t:Int))=true:=by rw [hff];simp
     have b2:decide ((Tr.most (Tr.paths t) 0:Int)≤8)=false:=by simp;omega
     have HR:Hid ((decide (Tr.found t=Tr.dirCount t)&&decide (Tr.most (Tr.paths t) 0≤8))=false):=by show _=_;simp [h8]
     go_wp2_with fail
     go_ret
     exact ⟨by rw [HR.out];rfl,HE.out⟩
   ·have b1:((Tr.found t:Int)==(Tr.dirCount t:Int))=false:=by simp;omega
    have HR:Hid ((decide (Tr.found t=Tr.dirCount t)&&decide (Tr.most (Tr.paths t) 0≤8))=false):=by show _=_;simp [hff]
    go_wp2_with fail
    go_ret
    exact ⟨by rw [HR.out];rfl,HE.out⟩
end Tm
end Go.Proofs.YtjoedamiilgajaaGreat
namespace Go.Proofs.YtjoedamiilgajaaGreat
open Go.RowKit Rc
open Tr (Nm En T)
namespace Tm
variable {p:Nat} {av:Value} {gs:List Nat} {S:Nat→Prop} {t:T} {w:World}
def nameB (t:T) (n:Nm):Bool:=!(n.2==0)&&(Tr.find t n.2).isSome
def leadsB (t:T) (e:En):Bool:=if e.nd.kind=1 then e.names.isEmpty else e.names.all (nameB t)
theorem ptr_some:∀ {gs:List Nat} {t:T} {i:Int},gs.length=t.length→(Tr.find t i).isSome=true→∃ g,ptrOf gs t i=.pointer (some ⟨g,0,none⟩)
 | [],[],i,_,h=>by cases h
 | [],_ :: _,_,hl,_=>by simp at hl
 | _ :: _,[],_,hl,_=>by simp at hl
 | g :: gs,e :: t,i,hl,h=>by
   by_cases hi:e.nd.id=i
   ·exact ⟨g,by show (if _ then _ else _)=_;rw [if_pos hi]⟩
   ·have h1:(Tr.find t i).isSome=true:=by
     rw [Tr.find_isSome] at h ⊢
     obtain ⟨e',h2,h3⟩:=h
     rcases List.mem_cons.1 h2 with rfl|h2
     ·exact absurd h3 hi
     ·exact ⟨e',h2,h3⟩
    obtain ⟨g',h2⟩:=ptr_some (gs:=gs) (t:=t) (by simpa using hl) h1
    exact ⟨g',by show (if _ then _ else _)=_;rw [if_neg hi];exact h2⟩
theorem ptr_no {t:T} {i:Int} (h:(Tr.find t i).isSome=false):ptrOf gs t i=.pointer none:=ptrOf_none fun m hm he=>by
 have:(Tr.find t i).isSome=true:=Tr.find_isSome.2 ⟨m,hm,he⟩
 rw [h] at this;cases this
set_option maxHeartbeats 2000000 in
set_option maxRecDepth 100000 in
theorem leads_any (h:TIn p av gs S t w) (hlt:t.length≤1000000000) {g:Nat} {e:En} {S1:Nat→Prop} (hE:EAt g e S1 w) (hS:∀ b,S1 b→S b) (hn:e.names.length≤1000000000) :
    Calls Tryz.prog 139 #[.pointer (some ⟨p,0,none⟩),.pointer (some ⟨g,0,none⟩)] w fun r w'=>r=.returned (.bool (leadsB t e))∧Below w.heap.size w w':=by
 obtain ⟨dv,nv,hE,rfl⟩:=hE
 have c1:w.cell? ⟨g,1,none⟩=some (.int .i64 e.nd.kind):=hE.box.cell 1
 have c7:w.cell? ⟨g,7,none⟩=some nv:=hE.box.cell 7
 have hgl:=hE.box.lt
 obtain ⟨A7,k7,hv7,hk7,hA⟩:=hE.names.form
 have hnl:∀ b,nv.ownBlock=some b→b<w.heap.size:=fun b hb=>h.lt (.inr (.inr (hS b (.inr (.inr hb)))))
 subst hv7
 obtain ⟨l,hl⟩:∃ l,l=e.names:=⟨_,rfl⟩
 have HLB:Hid (leadsB t e=if e.nd.kind=1 then l.isEmpty else l.all (nameB t)):=by rw [hl];exact rfl
 rw [← hl] at c7 hA hnl hn
 have HA:=Lib.hid hA
 have HNL:=Lib.hid hnl
 have HL:=Lib.hid h.each.len
 have HT:=Lib.hid h
 have HLT:=Lib.hid hlt
 clear hA hnl h hE hS hl hk7 hlt
 by_cases hk:e.nd.kind=1
 ·rw [hk] at c1
  rw [HLB.out,if_pos hk]
  by_cases h0:l.length=0
  ·have hb:((l.length:Int)==0)=true:=by rw [beq_iff_eq];omega
   have HR:Hid (l.isEmpty=true):=by
    show _=_
    cases l with
    | nil=>rfl
    | cons=>simp at h0
   go_enter Tryz.func139,Tryz.ntmps139
   go_wp2_with fail
   go_ret
   exact ⟨by rw [HR.out];rfl,Below.refl _ _⟩
  ·have hb:((l.length:Int)==0)=false:=by rw [beq_eq_false_iff_ne];omega
   have HR:Hid (l.isEmpty=false):=by
    show _=_
    cases l with
    | nil=>simp at h0
    | cons=>rfl
   go_enter Tryz.func139,Tryz.ntmps139
   go_wp2_with fail
   go_ret
   exact ⟨by rw [HR.out];rfl,Below.refl _ _⟩
 ·have hb:(e.nd.kind==1)=false:=by simpa using hk
  rw [HLB.out,if_neg hk]
  clear hk HLB
  go_enter Tryz.func139,Tryz.ntmps139
  go_wp2_with fail
  go_loopw [6,24] (fun t6 t24 wr=>∃ (j:Nat) (v6:Value),t6=v6∧t24=.int .i64 j∧j≤l.length∧Hid ((l.take j).all (nameB t)=true)∧Hid (Below w.heap.size w wr)) (fun _ t24 _=>l.length-(match t24 with|.int _ k=>k.toNat|_=>0))
  case atStart=>exact ⟨0,_,rfl,rfl,Nat.zero_le _,rfl,Below.refl _ _⟩
  case round =>
   obtain ⟨j,v6,rfl,rfl,hj,HN,HB⟩:=hrel
   by_cases hk:j<l.length
   ·obtain ⟨k,hkj⟩:∃ k,l[j]?=some k:=⟨_,List.getElem?_eq_getElem hk⟩
    obtain ⟨q,rfl,hq1,_,hql,hcell⟩:=HA.out (by omega)
    have hsame:wr.heap[q]?=w.heap[q]?:=HB.out.block q hql
    have c1:wr.cell? ⟨q,j*2,none⟩=some (.string (strOf k.1)):=(cell_same hsame).trans (hcell j k hkj).1
    have c2:wr.cell? ⟨q,j*2+1,none⟩=some (.int .i64 k.2):=(cell_same hsame).trans (hcell j k hkj).2
    have hlt2:(j:Int)<(l.length:Int):=by omega
    have HKJ:=Lib.hid hkj
    clear hsame hcell hkj hq1 hql
    go_upto_region 6 with (fail)
    obtain ⟨wn,hwn⟩:∃ wn,wn=wr.alloc (.cells #[.string (strOf k.1),.int .i64 k.2] 116):=⟨_,rfl⟩
    obtain ⟨nb,hnb⟩:∃ nb,nb=wr.heap.size:=⟨_,rfl⟩
    have hblk:Blk wn nb 116 [.string (strOf k.1),.int .i64 k.2]:=by rw [hwn,hnb];exact Blk.new wr _ _
    have hbn:Below wr.heap.size wr wn:=by rw [hwn];exact below_new wr _
    have hbw:Below w.heap.size w wn:=HB.out.trans (hbn.mono HB.out.size)
    have d1:wn.cell? ⟨nb,1,none⟩=some (.int .i64 k.2):=hblk.cell 1
    have HF:=Lib.hid (find_any (HT.out.below hbw) k.2 HLT.out)
    have HBW:=Lib.hid hbw
    rw [← hwn,← hnb]
    clear hwn hnb hblk hbn hbw c1 c2
    by_cases h0:k.2=0
    ·have hz:(k.2==0)=true:=by rw [beq_iff_eq];exact h0
     have HR:Hid (l.all (nameB t)=false):=by
      show _=_
      rw [List.all_eq_false]
      exact ⟨k,List.mem_of_getElem? HKJ.out,by unfold nameB;rw [hz];simp⟩
     clear h0
     go_wp2_with fail
     go_ret
     exact ⟨by rw [HR.out];rfl,HBW.out⟩
    ·have hz:(k.2==0)=false:=by rw [beq_eq_false_iff_ne];exact h0
     clear h0
     by_cases hf:(Tr.find t k.2).isSome=true
     ·obtain ⟨gk,hgk⟩:=ptr_some HL.out hf
      have HNX:Hid ((l.take (j+1)).all (nameB t)=true):=by
       show _=_
       rw [take_next HKJ.out,List.all_append,HN.out]
       simp only [List.all_cons,List.all_nil,Bool.and_true,Bool.true_and]
       unfold nameB
       rw [hz,hf];rfl
      have HF2:Hid (Calls Tryz.prog 89 #[.pointer (some ⟨p,0,none⟩),.int .i64 k.2] wn fun e w'=>e=.returned (.pointer (some ⟨gk,0,none⟩))∧w'=wn):=by
       have:=HF.out
       rw [hgk] at this
       exact this
      clear hf hgk HF
      go_wp2_with fail
      refine HF2.out.mono ?_
      rintro r w3 ⟨rfl,rfl⟩
      go_wp2_with fail
      go_roundw
      case rel=>exact ⟨j+1,_,rfl,by go_num,by omega,HNX.out,HBW.out⟩
      case measure=>simp;omega
     ·have hf0:(Tr.find t k.2).isSome=false:=by simpa using hf
      have HF2:Hid (Calls Tryz.prog 89 #[.pointer (some ⟨p,0,none⟩),.int .i64 k.2] wn fun e w'=>e=.returned (.pointer none)∧w'=wn):=by
       have:=HF.out
       rw [ptr_no hf0] at this
       exact this
      have HR:Hid (l.all (nameB t)=false):=by
       show _=_
       rw [List.all_eq_false]
       exact ⟨k,List.mem_of_getElem? HKJ.out,by unfold nameB;rw [hz,hf0];simp⟩
      clear hf hf0 HF
      go_wp2_with fail
      refine HF2.out.mono ?_
      rintro r w3 ⟨rfl,rfl⟩
      go_wp2_with fail
      go_ret
      exact ⟨by rw [HR.out];rfl,HBW.out⟩
   ·obtain rfl:j=l.length:=by omega
    have HR:Hid (l.all (nameB t)=true):=by
     have:=HN.out
     rw [List.take_length] at this
     exact this
    go_wp2_with fail
    go_ret
    exact ⟨by rw [HR.out];rfl,HB.out⟩
end Tm
end Go.Proofs.YtjoedamiilgajaaGreat
namespace Go.Proofs.YtjoedamiilgajaaGreat
open Go.RowKit Rc
open Go.Maps (Keyed)
namespace Tm
def Tally (w:World) (b n:Nat) (f:Int→Int):Prop :=
 ∃ D:DataW Unit,w.ownsMap Tryz.prog 3 (plainElem Tryz.prog 3) b n D∧Maps.IsMap D∧∀ x,(Lit.int .i64 x).wf=true→D.atKey (.int .i64 x) (.lit (.int .i64 0))=.lit (.int .i64 (f x))
theorem Tally.made (w:World):Tally (w.alloc (.map #[] 0)) w.heap.size 0 (fun _=>0) :=
 ⟨.map [],World.ownsMap_made w _ _ _,⟨[],rfl⟩,fun _ _=>rfl⟩
theorem Tally.look {w:World} {b n:Nat} {f:Int→Int} (h:Tally w b n f) (x:Int) (hx:(Lit.int .i64 x).wf=true) :
    (Instr.lookup 197 (.map (some b)) (.int .i64 x) false).run Tryz.prog w=.ok (.int .i64 (f x)) w:=by
 obtain ⟨D,h1,_,h3⟩:=h
 obtain ⟨c,hrun,hat,_⟩:=h1.lookup_int (t:=197) (Maps.int_keyed Tryz.underlying3) Tryz.underlying197 Tryz.underlying3 (Tryz.zeroValue3 _) (Maps.keyOf_int_mk Tryz.underlying3 hx)
 rw [h3 x hx] at hat
 simp only [DataW.lit.injEq,Lit.int.injEq,true_and] at hat
 rw [hrun,← hat]
theorem Tally.put {w:World} {b n:Nat} {f:Int→Int} (h:Tally w b n f) (hn:n<maxLen) (x v:Int) (hx:(Lit.int .i64 x).wf=true) (hv:(Lit.int .i64 v).wf=true) :
    ∃ w',(Instr.mapUpdate 197 (.map (some b)) (.int .i64 x) (.int .i64 v)).run Tryz.prog w=.ok () w'∧Tally w' b (n+1) (fun y=>if y=x then v else f y)∧w.grownBy w' (some b):=by
 obtain ⟨D,h1,h2,h3⟩:=h
 obtain ⟨w',hrun,h4,h5⟩:=h1.update (t:=197) (Maps.int_keyed Tryz.underlying3) Tryz.underlying197 hn (Maps.keyOf_int_mk Tryz.underlying3 hx) (plainElem_int Tryz.underlying3 hv)
 refine ⟨w',hrun,⟨_,h4,?_,fun y hy=>?_⟩,h5⟩
 ·obtain ⟨es,rfl⟩:=h2
  exact ⟨_,rfl⟩
 ·dsimp only
  by_cases he:y=x
  ·subst he
   rw [if_pos rfl,Maps.atKey_put_same h2 (by trivial)]
  ·rw [if_neg he,Maps.atKey_put_other (fun e=>he (by simpa using e)),h3 y hy]
theorem Tally.kept {w w':World} {b n:Nat} {f:Int→Int} (h:Tally w b n f) (hb:w'.heap[b]?=w.heap[b]?):Tally w' b n f:=by
 obtain ⟨D,⟨es,c,h0,h1⟩,h2⟩:=h
 exact ⟨D,⟨es,c,hb.trans h0,h1⟩,h2⟩
theorem Tally.lt {w:World} {b n:Nat} {f:Int→Int} (h:Tally w b n f):b<w.heap.size:=by
 obtain ⟨D,⟨es,c,h0,h1⟩,h2⟩:=h
 exact (Array.getElem?_eq_some_iff.1 h0).1
end Tm
end Go.Proofs.YtjoedamiilgajaaGreat
namespace Go.Proofs.YtjoedamiilgajaaGreat
open Go.RowKit Rc
open Tr (Nm En T)
namespace Tm
variable {p:Nat} {av:Value} {gs:List Nat} {S:Nat→Prop} {t:T} {w:World}
def upN (l:List Nm) (x:Int):Nat:=l.countP fun n=>n.2==x
def fT (t0:T) (l:List Nm) (x:Int):Int:=(if x=0 then 1 else 0)+((Tr.count t0 x:Nat):Int)+(upN l x:Nat)
theorem flat_take {j:Nat} {e:En} (h:t[j]?=some e):Tr.flat (t.take (j+1))=Tr.flat (t.take j)++e.names.map fun n=>(e.nd.id,n):=by
 unfold Tr.flat
 rw [take_next h,List.flatMap_append]
 simp
theorem fT_next {j:Nat} {e:En} (h:t[j]?=some e):fT (t.take (j+1)) []=fT (t.take j) e.names:=by
 funext x
 unfold fT Tr.count upN
 rw [flat_take h,List.countP_append,List.countP_map]
 have:(fun n:Nm=>n.2==x)=((fun y:Int × Nm=>y.2.2==x) ∘ fun n=>(e.nd.id,n)):=rfl
 rw [← this]
 simp
 omega
theorem fT_one {t0:T} {l:List Nm} {k:Nat} {n:Nm} (h:l[k]?=some n):(fun y=>if y=n.2 then fT t0 (l.take k) n.2+1 else fT t0 (l.take k) y)=fT t0 (l.take (k+1)):=by
 funext y
 have h1:upN (l.take (k+1)) y=upN (l.take k) y+(if y=n.2 then 1 else 0):=by
  unfold upN
  rw [take_next h,List.countP_append]
  by_cases hy:y=n.2
  ·subst hy;simp
  ·have hy2:¬ n.2=y:=fun e=>hy e.symm
   simp [hy,hy2]
 unfold fT
 rw [h1]
 by_cases hy:y=n.2
 ·subst hy
  rw [if_pos rfl,if_pos rfl]
  omega
 ·rw [if_neg hy,if_neg hy]
  omega
theorem flat_bound:∀ (t:T) (m:Nat),(∀ e ∈ t,e.names.length≤m)→(Tr.flat t).length≤t.length*m
 | [],_,_=>by simp [Tr.flat]
 | e :: t,m,h=>by
   have h1:=flat_bound t m fun e he=>h e (.tail _ he)
   have h2:=h e (.head _)
   unfold Tr.flat at h1 ⊢
   rw [List.flatMap_cons,List.length_append,List.length_map,List.length_cons,Nat.add_mul]
   omega
theorem fT_bound (t0:T) (l:List Nm) (x:Int):0≤fT t0 l x∧fT t0 l x≤1+((Tr.flat t0).length+l.length:Nat):=by
 have h1:Tr.count t0 x≤(Tr.flat t0).length:=List.countP_le_length
 have h2:upN l x≤l.length:=List.countP_le_length
 unfold fT
 split <;> omega
def linkB (t:T) (e:En):Bool:=(fT t [] e.nd.id==e.nd.links)&&!((e.nd.kind==2&&!(e.nd.links==1)) || (e.nd.shut&&e.nd.links==0))
theorem wf_of {x:Int} (h0:0≤x) (h1:x≤1000000000):(Lit.int .i64 x).wf=true:=by
 simp only [Lit.wf,show IntKind.i64.min=-9223372036854775808 from rfl,show IntKind.i64.max=9223372036854775807 from rfl,Bool.and_eq_true,decide_eq_true_eq]
 omega
set_option maxHeartbeats 4000000 in
set_option maxRecDepth 100000 in
theorem linked_any (h:TIn p av gs S t w) (hne:t≠[]) (hlt:t.length≤64) (hid:∀ e ∈ t,0≤e.nd.id∧e.nd.id≤65535) (hnm:∀ e ∈ t,e.names.length≤65535∧∀ n ∈ e.names,0≤n.2∧n.2≤65535) :
    Calls Tryz.prog 140 #[.pointer (some ⟨p,0,none⟩)] w fun r w'=>r=.returned (.bool (t.all (linkB t)))∧Below w.heap.size w w':=by
 have hmm:=@run_makeMap Tryz.prog
 obtain ⟨w1,hr1,hT1,hG1⟩:=(Tally.made w).put (by decide) 0 1 (by decide) (by decide)
 have hb1:Below w.heap.size w w1:=by
  have h0:=below_new w (.map #[] 0)
  exact ⟨hG1.os.trans h0.os,hG1.tape.trans h0.tape,hG1.output.trans h0.output,Nat.le_trans h0.size hG1.size,fun b hb=>(hG1.block b (Nat.lt_of_lt_of_le hb h0.size) fun e=>by cases e;omega).trans (h0.block b hb)⟩
 have HB1:=Lib.hid hb1
 have HT1:Hid (Tally w1 w.heap.size 1 (fT [] [])):=by
  have e:fT [] []=fun y=>if y=0 then 1 else 0:=by
   funext y
   unfold fT Tr.count Tr.flat upN
   by_cases hy:y=0 <;> simp [hy]
  rw [e];exact hT1
 have HTW:=Lib.hid h
 have HT:=Lib.hid (h.below hb1)
 have c0:w1.cell? ⟨p,0,none⟩=some av:=HT.out.box.cell 0
 have hl:=h.each.len
 obtain ⟨A,c,hav,hc,hA⟩:=own_form h.row
 have h0g:0<gs.length:=by
  rw [hl]
  cases t with
  | nil=>exact absurd rfl hne
  | cons=>simp
 obtain ⟨q,rfl,_,_,hq,hcell⟩:=hA h0g
 have HC:=Lib.hid hcell
 have HL:=Lib.hid hl
 have hg9:gs.length≤64:=by omega
 have HID:=Lib.hid hid
 have HNM:=Lib.hid hnm
 subst hav
 clear h hA hcell hl hid hnm hG1 hT1 hb1 hlt
 go_enter Tryz.func140,Tryz.ntmps140
 go_wp2_with fail
 go_loopw [5,7,17] (fun t5 t7 t17 wr=>∃ (j:Nat) (v5 v7:Value),t5=v5∧t7=v7∧t17=.int .i64 j∧j≤gs.length∧Hid (Tally wr w.heap.size (1+(Tr.flat (t.take j)).length) (fT (t.take j) []))∧Hid (Below w.heap.size w wr)) (fun _ _ t17 _=>gs.length-(match t17 with|.int _ k=>k.toNat|_=>0))
 case atStart=>exact ⟨0,_,_,rfl,rfl,rfl,Nat.zero_le _,HT1.out,HB1.out⟩
 case round =>
  obtain ⟨j,v5,v7,rfl,rfl,rfl,hj,HTA,HB⟩:=hrel
  by_cases hk:j<gs.length
  ·obtain ⟨e,he⟩:∃ e,t[j]?=some e:=⟨_,List.getElem?_eq_getElem (by rw [← HL.out];exact hk)⟩
   obtain ⟨g,S1,hg,hE,hS1⟩:=HTW.out.each.get he
   obtain ⟨dv,nv,hE,rfl⟩:=hE
   have c1:wr.cell? ⟨q,j,none⟩=some (.pointer (some ⟨g,0,none⟩)):=(cell_same (HB.out.block q hq)).trans (HC.out j _ (by simp [ptrCells,hg]))
   have c7:wr.cell? ⟨g,7,none⟩=some nv:=(cell_same (HB.out.block g hE.box.lt)).trans (hE.box.cell 7)
   obtain ⟨A7,k7,hv7,hk7,hN7⟩:=hE.names.form
   subst hv7
   have hlt2:(j:Int)<(gs.length:Int):=by omega
   have hmem:e ∈ t:=List.mem_of_getElem? he
   obtain ⟨l,hl⟩:∃ l,l=e.names:=⟨_,rfl⟩
   have hnb:l.length≤65535:=by rw [hl];exact (HNM.out e hmem).1
   have HNI:Hid (∀ n ∈ l,0≤n.2∧n.2≤65535):=by rw [hl];exact (HNM.out e hmem).2
   have HFN:Hid (fT (t.take (j+1)) []=fT (t.take j) l∧(Tr.flat (t.take (j+1))).length=(Tr.flat (t.take j)).length+l.length):=by
    rw [hl]
    exact ⟨fT_next he,by rw [flat_take he,List.length_append,List.length_map]⟩
   have hfl:(Tr.flat (t.take j)).length≤4194240:=by
    have h1:=flat_bound (t.take j) 65535 fun e he=>(HNM.out e (List.mem_of_mem_take he)).1
    have h2:(t.take j).length≤64:=by rw [List.length_take];have:=HL.out;omega
    have h3:=Nat.mul_le_mul_right 65535 h2
    omega
   rw [← hl] at c7 hN7
   have HN7:=Lib.hid hN7
   obtain ⟨fl,hfl0⟩:∃ fl,fl=(Tr.flat (t.take j)).length:=⟨_,rfl⟩
   have HFL:Hid ((Tr.flat (t.take j)).length≤4194240):=hfl
   rw [← hfl0] at hfl HFN HTA
   clear he hg hE hS1 hN7 hl hmem hk7 hfl0
   go_wp2_with fail
   go_loopw [7,26] (fun t7 t26 ws=>∃ (k:Nat) (v7:Value),t7=v7∧t26=.int .i64 k∧k≤l.length∧Hid (Tally ws w.heap.size (1+fl+k) (fT (t.take j) (l.take k)))∧Hid (Below w.heap.size w ws)) (fun _ t26 _=>l.length-(match t26 with|.int _ k=>k.toNat|_=>0))
   case atStart=>exact ⟨0,_,rfl,rfl,Nat.zero_le _,HTA.out,HB.out⟩
   case round =>
    obtain ⟨k,v7,rfl,rfl,hk',HTB,HB2⟩:=hrel
    by_cases hkk:k<l.length
    ·obtain ⟨n,hn⟩:∃ n,l[k]?=some n:=⟨_,List.getElem?_eq_getElem hkk⟩
     obtain ⟨qn,rfl,_,_,hqn,hcn⟩:=HN7.out (by omega)
     have c1:wr.cell? ⟨qn,k*2,none⟩=some (.string (strOf n.1)):=(cell_same (HB2.out.block qn hqn)).trans (hcn k n hn).1
     have c2:wr.cell? ⟨qn,k*2+1,none⟩=some (.int .i64 n.2):=(cell_same (HB2.out.block qn hqn)).trans (hcn k n hn).2
     have hlt3:(k:Int)<(l.length:Int):=by omega
     have hni:=HNI.out n (List.mem_of_getElem? hn)
     have hwn:=wf_of hni.1 (by omega)
     obtain ⟨wn,hwn0⟩:∃ wn,wn=wr.alloc (.cells #[.string (strOf n.1),.int .i64 n.2] 116):=⟨_,rfl⟩
     obtain ⟨nb,hnb0⟩:∃ nb,nb=wr.heap.size:=⟨_,rfl⟩
     have hblk:Blk wn nb 116 [.string (strOf n.1),.int .i64 n.2]:=by rw [hwn0,hnb0];exact Blk.new wr _ _
     have hbn:Below wr.heap.size wr wn:=by rw [hwn0];exact below_new wr _
     have hTn:Tally wn w.heap.size (1+fl+k) (fT (t.take j) (l.take k)):=HTB.out.kept (hbn.block _ HTB.out.lt)
     have d1:wn.cell? ⟨nb,1,none⟩=some (.int .i64 n.2):=hblk.cell 1
     have hr0:=hTn.look n.2 hwn
     have hfb:=fT_bound (t.take j) (l.take k) n.2
     have hlk:(l.take k).length≤65535:=by rw [List.length_take];omega
     have hfl2:(Tr.flat (t.take j)).length≤4194240:=HFL.out
     obtain ⟨w3,hr3,hT3,hG3⟩:=hTn.put (by show _<9223372036854775807;omega) n.2 (fT (t.take j) (l.take k) n.2+1) hwn (wf_of (by omega) (by omega))
     rw [fT_one hn] at hT3
     obtain ⟨fx,hfx⟩:∃ fx,fx=fT (t.take j) (l.take k) n.2:=⟨_,rfl⟩
     rw [← hfx] at hr0 hr3 hfb
     have hfx9:0≤fx∧fx≤1000000000:=by omega
     have HT3:=Lib.hid hT3
     have HB3:Hid (Below w.heap.size w w3):=by
      have hb:=HB2.out.trans (hbn.mono HB2.out.size)
      exact ⟨hG3.os.trans hb.os,hG3.tape.trans hb.tape,hG3.output.trans hb.output,Nat.le_trans hb.size hG3.size,fun b hlt=>(hG3.block b (Nat.lt_of_lt_of_le hlt hb.size) fun e=>by cases e;omega).trans (hb.block b hlt)⟩
     clear hn hcn hni hwn hblk hbn hTn hfb hlk hfl2 hT3 hG3 hfx
     go_upto_region 8 with (fail)
     rw [← hwn0,← hnb0]
     clear hwn0 hnb0 c1 c2
     go_wp2_with fail
     go_roundw
     case rel=>exact ⟨k+1,_,rfl,by go_num,by omega,HT3.out,HB3.out⟩
     case measure=>simp;omega
    ·obtain rfl:k=l.length:=by omega
     have HTE:Hid (Tally wr w.heap.size (1+(Tr.flat (t.take (j+1))).length) (fT (t.take (j+1)) [])):=by
      have h1:=HTB.out
      rw [List.take_length] at h1
      rw [HFN.out.1,HFN.out.2,← Nat.add_assoc]
      exact h1
     go_wp2_with fail
     go_roundw
     case rel=>exact ⟨j+1,_,_,rfl,rfl,by go_num,by omega,HTE.out,HB2.out⟩
     case measure=>simp;omega
  ·obtain rfl:j=gs.length:=by omega
   have HTF:Hid (Tally wr w.heap.size (1+(Tr.flat t).length) (fT t [])):=by
    have h1:=HTA.out
    rw [show gs.length=t.length from HL.out,List.take_length] at h1
    exact h1
   have c0r:wr.cell? ⟨p,0,none⟩=some (.slice (some ⟨q,0,none⟩) gs.length c):=(HTW.out.below HB.out).box.cell 0
   go_wp2_with fail
   go_loopw [9,42] (fun t9 t42 ws=>∃ (j:Nat) (v9:Value),t9=v9∧t42=.int .i64 j∧j≤gs.length∧Hid ((t.take j).all (linkB t)=true)∧Hid (Tally ws w.heap.size (1+(Tr.flat t).length) (fT t []))∧Hid (Below w.heap.size w ws)) (fun _ t42 _=>gs.length-(match t42 with|.int _ k=>k.toNat|_=>0))
   case atStart=>exact ⟨0,_,rfl,rfl,Nat.zero_le _,rfl,HTF.out,HB.out⟩
   case round =>
    clear HTF HB c0r
    obtain ⟨j,v9,rfl,rfl,hj,HAL,HTF,HB⟩:=hrel
    by_cases hk:j<gs.length
    ·obtain ⟨e,he⟩:∃ e,t[j]?=some e:=⟨_,List.getElem?_eq_getElem (by rw [← HL.out];exact hk)⟩
     obtain ⟨g,S1,hg,hE,hS1⟩:=HTW.out.each.get he
     have c1:wr.cell? ⟨q,j,none⟩=some (.pointer (some ⟨g,0,none⟩)):=(cell_same (HB.out.block q hq)).trans (HC.out j _ (by simp [ptrCells,hg]))
     obtain ⟨e0,e1,e2,e3,e4,e5⟩:=(hE.keep fun b hb=>HB.out.block b (HTW.out.lt (.inr (.inr (hS1 b hb))))).cells
     have hlt2:(j:Int)<(gs.length:Int):=by omega
     have hmem:e ∈ t:=List.mem_of_getElem? he
     have hi:=HID.out e hmem
     have hTD:Tally wr.drew w.heap.size (1+(Tr.flat t).length) (fT t []):=HTF.out.kept rfl
     have hr0:=hTD.look e.nd.id (wf_of hi.1 (by omega))
     have HTD:=Lib.hid hTD
     have HBD:Hid (Below w.heap.size w wr.drew):=undrew_r HB.out
     have f0:wr.drew.cell? ⟨g,0,none⟩=some (.int .i64 e.nd.id):=e0
     have f1:wr.drew.cell? ⟨g,1,none⟩=some (.int .i64 e.nd.kind):=e1
     have f2:wr.drew.cell? ⟨g,2,none⟩=some (.int .i64 e.nd.links):=e2
     have f5:wr.drew.cell? ⟨g,5,none⟩=some (.bool e.nd.shut):=e5
     have HNO:linkB t e=false→Hid (t.all (linkB t)=false):=fun h1=>by
      show _=_
      rw [List.all_eq_false]
      exact ⟨e,hmem,by rw [h1];simp⟩
     have HYES:linkB t e=true→Hid ((t.take (j+1)).all (linkB t)=true):=fun h1=>by
      show _=_
      rw [take_next he,List.all_append,HAL.out]
      simp [h1]
     clear he hg hE hS1 hmem hi hTD
     go_upto_region 14 with (fail)
     clear e0 e1 e2 e3 e4 e5 c1
     refine wp_region_still_lit (by kernel_rfl) (by kernel_rfl) ?_
     have hdr:({ heap:=wr.heap,tape:=wr.tape,drawn:=wr.drawn+1,os:=wr.os,output:=wr.output }:World)=wr.drew:=rfl
     simp only [hdr]
     clear hdr
     obtain ⟨wd,hwd⟩:∃ wd,wd=wr.drew:=⟨_,rfl⟩
     rw [← hwd] at HTD HBD f0 f1 f2 f5 hr0 ⊢
     clear hwd
     repeat still_step
     refine wpStill_nil ?_
     obtain ⟨fx,hfx⟩:∃ fx,fx=fT t [] e.nd.id:=⟨_,rfl⟩
     rw [show linkB t e=((fT t [] e.nd.id==e.nd.links)&&!((e.nd.kind==2&&!(e.nd.links==1)) || (e.nd.shut&&e.nd.links==0))) from rfl] at HNO HYES
     rw [← hfx] at HNO HYES ⊢
     clear hfx hr0 f0
     rcases Bool.eq_false_or_eq_true (fx==e.nd.links) with q0|q0
     ·rcases Bool.eq_false_or_eq_true (e.nd.kind==2) with q1|q1 <;> rcases Bool.eq_false_or_eq_true (e.nd.links==1) with q2|q2 <;> rcases Bool.eq_false_or_eq_true e.nd.shut with q3|q3 <;> rcases Bool.eq_false_or_eq_true (e.nd.links==0) with q4|q4
      all_goals
       rw [q0,q1,q2,q3,q4] at HNO HYES
       rw [q3] at f5
       first
        | (exact absurd ((beq_iff_eq.1 q2).symm.trans (beq_iff_eq.1 q4)) (by decide))
        | (have HY:=HYES rfl
           clear HNO HYES
           go_wp2_with fail
           all_goals first
            | (exfalso;rename_i hz;exact hz (beq_iff_eq.1 q2))
            | (exfalso;rename_i hz;rw [hz] at q2;exact absurd q2 (by decide))
            | (go_roundw
               case rel=>exact ⟨j+1,_,rfl,by go_num,by omega,HY.out,HTD.out,HBD.out⟩
               case measure=>simp;omega))
        | (have HN:=HNO rfl
           clear HNO HYES
           go_wp2_with fail
           all_goals first
            | (exfalso;rename_i hz;exact hz (beq_iff_eq.1 q2))
            | (exfalso;rename_i hz;rw [hz] at q2;exact absurd q2 (by decide))
            | (go_ret;exact ⟨by rw [HN.out];rfl,HBD.out⟩))
     ·rw [q0] at HNO
      have HN:=HNO rfl
      clear HNO HYES
      go_wp2_with fail
      go_ret
      exact ⟨by rw [HN.out];rfl,HBD.out⟩
    ·obtain rfl:j=gs.length:=by omega
     have HR:Hid (t.all (linkB t)=true):=by
      have h1:=HAL.out
      rw [show gs.length=t.length from HL.out,List.take_length] at h1
      exact h1
     go_wp2_with fail
     go_ret
     exact ⟨by rw [HR.out];rfl,HB.out⟩
end Tm
end Go.Proofs.YtjoedamiilgajaaGreat
