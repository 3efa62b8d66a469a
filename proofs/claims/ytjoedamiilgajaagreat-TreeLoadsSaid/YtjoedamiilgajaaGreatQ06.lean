/-
  OWN WORK. TrKept, TrKeptB, RfIdx, RfRow, RfPure, RfTurn, RfReg
-/
import Derived.Test.YtjoedamiilgajaaGreatQ05
namespace Go.Proofs.YtjoedamiilgajaaGreat
open Go.RowKit
namespace Tr
variable {t:T}
theorem new_good:Good new:=by
 have hf:flat new=[]:=rfl
 refine ⟨⟨_,_,rfl,rfl,rfl⟩,List.pairwise_singleton _ _,by show 1≤64;omega,fun e he=>?_,fun e he n hm=>?_,fun e he=>?_,fun e he=>?_,fun e he=>?_,fun _=>0,rfl,fun e he n hm=>?_⟩
 all_goals
  obtain rfl:e=fresh 0 2:=by simpa [new] using he
 ·exact ⟨⟨by decide,by decide,by decide,by decide,by decide,by decide,by decide,.inr ⟨rfl,rfl,rfl,rfl⟩⟩,rfl,List.Pairwise.nil,(fun n hn=>by cases hn),fun _=>rfl⟩
 ·cases hm
 ·unfold count;rw [hf];rfl
 ·exact fun _=>rfl
 ·intro _;show (1:Int)≠0;omega
 ·cases hm
theorem formed_ok {q:List Bs} (h:formed q=0):q.length≤8∧∀ s ∈ q,Pa.good s=true:=by
 unfold formed at h
 split at h
 ·rename_i h1
  split at h
  ·cases h
  ·exact ⟨by omega,fun s hs=>List.all_eq_true.1 h1 s hs⟩
 ·cases h
theorem Good.look_dep (h:Good t) {dep:Int→Nat} (hd:Deep dep t):∀ (q:List Bs) (i:Int),kindOf t i=2→(lF t i q).2=0→kindOf t (lF t i q).1=2→dep (lF t i q).1=dep i+q.length
 | [],_,_,_,_=>rfl
 | x :: q,i,hi,h0,hk=>by
   rw [lookF_cons,if_neg (by rw [hi];simp)] at h0 hk ⊢
   cases hg:get (kids t i) x with
   | none=>rw [hg] at h0;cases h0
   | some j =>
     rw [hg] at h0 hk
     simp only at h0 hk ⊢
     obtain ⟨e,he,hm⟩:=kids_mem (get_mem hg)
     have h1:=hd.2 e (find_some he).1 _ hm
     rw [(find_some he).2] at h1
     have hj:kindOf t j=2:=by
      cases q with
      | nil=>exact hk
      | cons y q =>
        rw [lookF_cons] at h0
        split at h0
        ·cases h0
        ·rename_i h2;exact Decidable.byContradiction h2
     have ih:=Good.look_dep h hd q j hj h0 hk
     have h2:=h1.2 hj
     simp only at h2
     rw [List.length_cons]
     omega
theorem Good.place_dep (h:Good t) {dep:Int→Nat} (hd:Deep dep t) {q r:List Bs} {x:Bs} {d:Int} (hq:q=r++[x]) (hlk:lF t 0 r=(d,0)) (hk:kindOf t d=2) (h8:q.length≤8):dep d+1≤8∧dep d=r.length:=by
 obtain ⟨e0,he0,h0,_⟩:=h.zero
 have h1:=h.look_dep hd r 0 (by rw [kO he0];exact h0) (by rw [hlk]) (by rw [hlk];exact hk)
 rw [hlk,hd.1,Nat.zero_add] at h1
 simp only at h1
 rw [hq,List.length_append] at h8
 simp only [List.length_cons,List.length_nil] at h8
 exact ⟨by omega,h1⟩
theorem Good.free_ok (h:Good t):∃ k:Nat,free t=(k:Int)∧k≤t.length∧(∀ e ∈ t,e.nd.id≠free t)∧free t≠0:=by
 obtain ⟨k,h1,h2,h3,h4,h5⟩:=freeFrom_spec t h.ris 0 fun e he=>(h.each e he).nd.1
 rw [Int.zero_add] at h1
 have h6:free t=(k:Int):=h1
 refine ⟨k,h6,h2,fun e he=>by rw [h6];have:=h3 e he;omega,fun h0=>?_⟩
 obtain ⟨r,hr,_,hr0⟩:=h.zero
 have:=h3 r (find_some hr).1
 omega
theorem Good.placed (h:Good t) {q:List Bs} (h0:(place t q).2.2=0):∃ r x en d,q=r++[x]∧lF t 0 r=(d,0)∧place t q=(d,x,0)∧find t d=some en∧en.nd.kind=2∧en.nd.id=d:=by
 obtain ⟨r,x,en,hq,hlk,hx,hfd,hkd,hpl⟩:=place_is h h0
 rw [hpl] at hlk hfd
 exact ⟨r,x,en,en.nd.id,hq,hlk,hpl,hfd,hkd,rfl⟩
theorem make_good (h:Good t) (q:List Bs) (kind:Int):Good (make t q kind).2:=by
 unfold make
 split
 ·exact h
 rename_i hf
 split
 ·exact h
 rename_i hkd
 split
 ·exact h
 rename_i hp
 split
 ·exact h
 rename_i hg
 split
 ·exact h
 rename_i hm
 have hf0:formed q=0:=Decidable.byContradiction hf
 obtain ⟨r,x,en,d,hq,hlk,hpl,hfd,hen,hid⟩:=h.placed (Decidable.byContradiction hp)
 rw [hpl] at hg ⊢
 rw [kids_of hfd] at hg
 obtain ⟨k,hk,hkl,hnew,hk0⟩:=h.free_ok
 obtain ⟨h8,hgood⟩:=formed_ok hf0
 have hgx:Pa.good x=true:=hgood x (by rw [hq];simp)
 obtain ⟨dep,hd0,hd⟩:=h.deep
 have hD:Deep dep t:=⟨hd0,hd⟩
 obtain ⟨hp8,_⟩:=h.place_dep hD hq hlk (by rw [kO hfd];exact hen) h8
 have hkind:kind=1∨kind=2:=by omega
 have hlt:t.length<64:=by omega
 have hpre:=h.insE (k:=free t) (kind:=kind) hkind hnew (by omega) (by omega) hlt
 have hdk:d≠free t:=fun e=>hnew en (find_some hfd).1 (by rw [(find_some hfd).2,e])
 have hfi:=find_insE h.ris (n:=fresh (free t) kind) hnew
 have hfd2:find (insE t (fresh (free t) kind)) d=some en:=by rw [hfi];exact (if_neg hdk).trans hfd
 have hfk2:find (insE t (fresh (free t) kind)) (free t)=some (fresh (free t) kind):=by rw [hfi];exact if_pos rfl
 have hgn:get en.names x=none:=by
  cases hh:get en.names x with
  | none=>rfl
  | some j=>rw [hh] at hg;exact absurd rfl hg
 have hdep2:Deep (fun j=>if j=free t then dep d+1 else dep j) (insE t (fresh (free t) kind)):=by
  refine ⟨by show (if (0:Int)=free t then dep d+1 else dep 0)=0;rw [if_neg (fun e=>hk0 e.symm)];exact hd0,fun e he n hn=>?_⟩
  rcases insE_mem.1 he with rfl|he
  ·cases hn
  ·have h1:=hd e he n hn
   have h2:n.2≠free t:=fun e2=>by
    obtain ⟨_,h3⟩:=h.leads e he n hn
    obtain ⟨e',h4,h5⟩:=find_isSome.1 h3
    exact hnew e' h4 (by rw [h5,e2])
   have h3:kindOf (insE t (fresh (free t) kind)) n.2=kindOf t n.2:=by
    unfold kindOf ndOf
    rw [hfi,if_neg (show n.2≠(fresh (free t) kind).nd.id from h2)]
   simp only [if_neg h2,if_neg (hnew e he),h3]
   exact h1
 refine (hpre.put hfd2 hen hgx hgn hk0 (by rw [hfk2];rfl)).good (dep:=fun j=>if j=free t then dep d+1 else dep j) (hdep2.put (by show (if d=free t then dep d+1 else dep d)+1≤8;rw [if_neg hdk];exact hp8) (by intro _;show (if free t=free t then dep d+1 else dep (free t))=(if d=free t then dep d+1 else dep d)+1;rw [if_pos rfl,if_neg hdk])) fun e he hi=>?_
 have hcz:count (insE t (fresh (free t) kind)) (free t)=0:=by
  unfold count
  rw [List.countP_eq_zero]
  intro y hy
  obtain ⟨e',he',_,hm'⟩:=flat_mem.1 hy
  rcases insE_mem.1 he' with rfl|he'
  ·cases hm'
  ·obtain ⟨_,h3⟩:=h.leads e' he' _ hm'
   obtain ⟨e2,h4,h5⟩:=find_isSome.1 h3
   have:=hnew e2 h4
   simp only [beq_iff_eq]
   omega
 have hee:e.nd=(fresh (free t) kind).nd:=by
  obtain ⟨e0,h0,rfl⟩:=upd_mem he
  have hi0:e0.nd.id=free t:=by split at hi <;> exact hi
  have he0:e0=fresh (free t) kind:=by
   rcases insE_mem.1 h0 with h1|h1
   ·exact h1
   ·exact absurd hi0 (hnew e0 h1)
  subst he0
  split <;> rfl
 rw [hee]
 refine ⟨?_,fun _=>rfl,fun _=>by show (1:Int)≠0;omega⟩
 show (count _ (free t):Int)+(if free t=0 then 1 else 0)=1
 rw [count_put hpre.rise hfd2,hcz,if_pos rfl,if_neg hk0]
 rfl
theorem append_good (h:Good t) (i:Int) (b:Bs):Good (append t i b).2:=by
 unfold append
 split
 ·exact h
 rename_i hf
 split
 ·exact h
 split
 ·exact h
 rename_i hs
 refine h.turn (fun _=>rfl) (fun _=>rfl) (fun _=>rfl) (fun _=>rfl) fun e he=>?_
 have h1:=h.each e (find_some he).1
 have hk:e.nd.kind=1:=by
  rcases h.kind (find_some he).1 with h2|h2
  ·exact h2
  ·rcases file_cases t i with ⟨h3,_⟩|⟨h3,_⟩|⟨_,e2,h4,h5⟩
   ·exact absurd (by rw [h3];simp) hf
   ·exact absurd (by rw [h3];simp) hf
   ·rw [he] at h4;injection h4 with h4;rw [← h4] at h5;exact absurd h2 h5
 rw [ndOf_of he] at hs
 have hsz:=h1.size
 refine ⟨⟨⟨h1.nd.1,h1.nd.2.1,h1.nd.2.2.1,h1.nd.2.2.2.1,?_,?_,h1.nd.2.2.2.2.2.2.1,.inl hk⟩,rfl,h1.rise,h1.good,h1.file⟩,h.shut e (find_some he).1⟩
 ·show (0:Int)≤((e.data++b).length:Nat);omega
 ·show (((e.data++b).length:Nat):Int)≤4096
  rw [List.length_append];omega
theorem file_kind (h:Good t) {i:Int} (hf:¬ file t i≠0) {e:En} (he:find t i=some e):e.nd.kind=1:=by
 rcases h.kind (find_some he).1 with h2|h2
 ·exact h2
 ·rcases file_cases t i with ⟨h3,_⟩|⟨h3,_⟩|⟨_,e2,h4,h5⟩
  ·exact absurd (by rw [h3];simp) hf
  ·exact absurd (by rw [h3];simp) hf
  ·rw [he] at h4;injection h4 with h4;rw [← h4] at h5;exact absurd h2 h5
theorem file_has {i:Int} (hf:¬ file t i≠0):∃ e,find t i=some e:=by
 rcases file_cases t i with ⟨h3,_⟩|⟨h3,_⟩|⟨_,e2,h4,_⟩
 ·exact absurd (by rw [h3];simp) hf
 ·exact absurd (by rw [h3];simp) hf
 ·exact ⟨e2,h4⟩
theorem keep_good (h:Good t) (i:Int) (u:Nat):Good (keep t i u).2:=by
 unfold keep
 split
 ·exact h
 rename_i hf
 split
 ·exact h
 split
 ·exact h
 split
 ·exact h
 rename_i hu
 refine h.turn (fun _=>rfl) (fun _=>rfl) (fun _=>rfl) (fun _=>rfl) fun e he=>?_
 have h1:=h.each e (find_some he).1
 exact ⟨⟨⟨h1.nd.1,h1.nd.2.1,h1.nd.2.2.1,h1.nd.2.2.2.1,h1.nd.2.2.2.2.1,h1.nd.2.2.2.2.2.1,by show u≤1099511627776;omega,.inl (show e.nd.kind=1 from file_kind h hf he)⟩,h1.size,h1.rise,h1.good,h1.file⟩,h.shut e (find_some he).1⟩
theorem remove_upd (i:Int) (f:En→En) (hf:∀ e,(f e).nd.id=e.nd.id):remove (upd t i f) i=remove t i:=by
 unfold remove upd
 rw [List.filter_map]
 have h1:((fun e:En=>!(e.nd.id==i)) ∘ fun e=>if (e.nd.id==i)=true then f e else e)=fun e=>!(e.nd.id==i):=by
  funext e
  simp only [Function.comp]
  split <;> simp_all
 rw [h1]
 conv=>rhs;rw [← List.map_id (List.filter (fun e=>!(e.nd.id==i)) t)]
 apply List.map_congr_left
 intro e he
 have:=(List.mem_filter.1 he).2
 rw [if_neg (by simpa using this)];rfl
theorem Good.gone (h:Good t) {i:Int} {e:En} (he:find t i=some e) (hk:e.nd.kind=1) (hl:e.nd.links=0):Good (remove t i):=by
 obtain ⟨dep,hd⟩:=h.deep
 obtain ⟨hm,hid⟩:=find_some he
 have h1:=h.linked e hm
 have hi0:i≠0:=fun e0=>by
  rw [hl,hid,if_pos e0] at h1;omega
 refine (h.pre i).remove hd hi0 (h.file_kids (by rw [kO he,hk];omega)) (count_zero ?_)
 rw [hl,hid,if_neg hi0] at h1
 omega
theorem seal_good (h:Good t) (i:Int) (u:Nat):Good (seal_ t i u).2:=by
 unfold seal_
 split
 ·exact h
 rename_i hf
 split
 ·exact h
 split
 ·exact h
 rename_i hu
 obtain ⟨e,he⟩:=file_has hf
 rw [ndOf_of he]
 split
 ·rename_i hl
  show Good (remove (upd t i (shutE u)) i)
  rw [remove_upd i (shutE u) fun _=>rfl]
  exact h.gone he (file_kind h hf he) hl
 ·rename_i hl
  refine h.turn (f:=shutE u) (fun _=>rfl) (fun _=>rfl) (fun _=>rfl) (fun _=>rfl) fun e2 he2=>?_
  have h1:=h.each e2 (find_some he2).1
  rw [he] at he2
  injection he2 with he2
  subst he2
  exact ⟨⟨⟨h1.nd.1,h1.nd.2.1,h1.nd.2.2.1,h1.nd.2.2.2.1,h1.nd.2.2.2.2.1,h1.nd.2.2.2.2.2.1,by show u≤1099511627776;omega,.inl (show e.nd.kind=1 from file_kind h hf he)⟩,h1.size,h1.rise,h1.good,h1.file⟩,fun _=>hl⟩
end Tr
end Go.Proofs.YtjoedamiilgajaaGreat
namespace Go.Proofs.YtjoedamiilgajaaGreat
open Go.RowKit
namespace Tr
variable {t:T}
theorem get_no {l:List Nm} {x:Bs} (h:¬ (get l x).isSome=true):get l x=none:=by
 cases hh:get l x with
 | none=>rfl
 | some j=>rw [hh] at h;exact absurd rfl h
theorem Good.looked (h:Good t) {q:List Bs} {i:Int} (h0:lF t 0 q=(i,0)) (hq:q≠[]):∃ r x d en,q=r++[x]∧lF t 0 r=(d,0)∧find t d=some en∧en.nd.kind=2∧get en.names x=some i∧place t q=(d,x,0):=by
 have hqe:=(List.dropLast_concat_getLast hq).symm
 obtain ⟨r,hr⟩:∃ r,r=q.dropLast:=⟨_,rfl⟩
 obtain ⟨x,hx⟩:∃ x,x=q.getLast hq:=⟨_,rfl⟩
 rw [← hr,← hx] at hqe
 have h1:=h0
 rw [hqe,lookF_app] at h1
 split at h1
 ·rename_i h2
  rw [h1] at h2
  exact absurd rfl h2
 ·rename_i h2
  have h3:(lF t 0 r).2=0:=Decidable.byContradiction h2
  obtain ⟨d,hd⟩:∃ d,d=(lF t 0 r).1:=⟨_,rfl⟩
  rw [← hd,lookF_cons] at h1
  split at h1
  ·simp at h1
  ·rename_i h4
   have hk:kindOf t d=2:=Decidable.byContradiction h4
   obtain ⟨en,hen⟩:=h.has hk
   rw [kids_of hen] at h1
   cases hg:get en.names x with
   | none=>rw [hg] at h1;simp at h1
   | some j =>
     rw [hg] at h1
     have hj:j=i:=by
      have h5:(j,0)=(i,0):=h1
      exact congrArg Prod.fst h5
     have hlr:lF t 0 r=(d,0):=Prod.ext hd.symm h3
     refine ⟨r,x,d,en,hqe,hlr,hen,by rw [← kO hen];exact hk,by rw [hj] at hg;exact hg,?_⟩
     unfold place
     rw [if_neg hq,← hr,hlr,if_neg (by simp),if_neg (by simpa using hk),List.getLastD_eq_getLast?,List.getLast?_eq_some_getLast hq,← hx]
     rfl
theorem link_good (h:Good t) (q r:List Bs):Good (link t q r).2:=by
 unfold link
 split
 ·exact h
 split
 ·exact h
 rename_i hfr
 split
 ·exact h
 rename_i hl0
 split
 ·exact h
 rename_i hk
 split
 ·exact h
 rename_i hp
 split
 ·exact h
 rename_i hg
 split
 ·exact h
 rename_i h64
 have hfr0:formed r=0:=Decidable.byContradiction hfr
 obtain ⟨r1,x,en,d,hq,hlk,hpl,hfd,hen,hid⟩:=h.placed (Decidable.byContradiction hp)
 obtain ⟨i,hi⟩:∃ i,i=(lF t 0 q).1:=⟨_,rfl⟩
 obtain ⟨ef,hef⟩:=Option.isSome_iff_exists.1 (h.look_is (Decidable.byContradiction hl0))
 rw [hpl] at hg ⊢
 rw [← hi] at hk h64 hef ⊢
 rw [kids_of hfd] at hg
 rw [kO hef] at hk
 rw [ndOf_of hef] at h64
 obtain ⟨hfm,hfid⟩:=find_some hef
 have hk1:ef.nd.kind=1:=(h.kind hfm).elim id fun k=>absurd k hk
 obtain ⟨h8,hgood⟩:=formed_ok hfr0
 have hgx:Pa.good x=true:=hgood x (by rw [hq];simp)
 obtain ⟨dep,hD⟩:∃ dep,Deep dep t:=h.deep
 obtain ⟨hp8,_⟩:=h.place_dep hD hq hlk (by rw [kO hfd];exact hen) h8
 have hi0:i≠0:=fun e=>by
  obtain ⟨r0,h1,h2,_⟩:=h.zero
  rw [e,h1] at hef
  injection hef with hef
  rw [← hef] at hk;exact hk h2
 have hdi:i≠d:=fun e=>by
  rw [e,hfd] at hef
  injection hef with hef
  rw [← hef] at hk;exact hk hen
 have hpre:=(h.pre i).put hfd hen hgx (get_no hg) hi0 (by rw [hef];rfl)
 have hdp:=hD.put (t:=t) (x:=x) (k:=i) hp8 (fun h2=>absurd (by rw [kO hef] at h2;exact h2) hk)
 have hlinked:=h.linked ef hfm
 rw [hfid,if_neg hi0] at hlinked
 have hsh:=h.shut ef hfm
 have h0l:=(h.each ef hfm).nd.2.2.1
 refine hpre.more hdp (ek:=ef) ?_ hk1 ?_ hi0 (by omega) (fun hs=>by have:=hsh hs;omega)
 ·unfold Tr.put
  rw [find_upd (put_id x i),hef]
  simp only [Option.map_some,if_neg hdi]
 ·rw [count_put h.ris hfd,if_pos rfl]
  omega
theorem Good.cut_facts (h:Good t) {d i:Int} {en:En} {x:Bs} (hfd:find t d=some en) (hg:get en.names x=some i):i≠0∧∃ ei,find t i=some ei∧(count (Tr.cut t d x) i:Int)=ei.nd.links-1:=by
 obtain ⟨hdm,hdid⟩:=find_some hfd
 obtain ⟨h1,h2⟩:=h.leads en hdm _ (get_mem hg)
 obtain ⟨ei,hei⟩:=Option.isSome_iff_exists.1 h2
 refine ⟨h1,ei,hei,?_⟩
 obtain ⟨hm,hid⟩:=find_some hei
 have h3:=h.linked ei hm
 have h4:=count_cut h.ris hfd (h.each en hdm).rise hg i
 simp only at hid h1
 rw [hid,if_neg h1] at h3
 rw [if_pos rfl] at h4
 omega
theorem unlink_good (h:Good t) (q:List Bs):Good (unlink t q).2:=by
 unfold unlink
 split
 ·exact h
 split
 ·exact h
 rename_i hl0
 split
 ·exact h
 rename_i hk
 have hl:(lF t 0 q).2=0:=Decidable.byContradiction hl0
 obtain ⟨i,hi⟩:∃ i,i=(lF t 0 q).1:=⟨_,rfl⟩
 obtain ⟨ef,hef⟩:=Option.isSome_iff_exists.1 (h.look_is hl)
 have hlk:lF t 0 q=(i,0):=Prod.ext hi.symm hl
 rw [← hi] at hk hef ⊢
 rw [kO hef] at hk
 rw [ndOf_of hef]
 have hq:q≠[]:=fun e=>by
  rw [e] at hlk
  obtain ⟨r0,h1,h2,_⟩:=h.zero
  have e0:(0:Int)=i:=congrArg Prod.fst (show ((0:Int),0)=(i,0) from hlk)
  rw [← e0,h1] at hef
  injection hef with hef
  rw [← hef] at hk;exact hk h2
 obtain ⟨r,x,d,en,hqe,hlr,hfd,hen,hg,hpl⟩:=h.looked hlk hq
 obtain ⟨hi0,ei,hei,hcount⟩:=h.cut_facts hfd hg
 obtain rfl:ei=ef:=by rw [hef] at hei;injection hei with hei;exact hei.symm
 obtain ⟨hfm,hfid⟩:=find_some hef
 have hk1:ei.nd.kind=1:=(h.kind hfm).elim id fun k=>absurd k hk
 obtain ⟨dep,hD⟩:∃ dep,Deep dep t:=h.deep
 have hdi:i≠d:=fun e=>by
  rw [e,hfd] at hef
  injection hef with hef
  rw [← hef] at hk;exact hk hen
 have hfi:find (cut t d x) i=some ei:=by
  unfold Tr.cut
  rw [find_upd (cut_id x),hef]
  simp only [Option.map_some,if_neg hdi]
 have hpre:=h.cut hfd hg
 have hu:unlinked t q=more (cut t d x) i (-1):=by
  unfold unlinked
  rw [hpl,← hi]
 have h0:=(h.each ei hfm).nd
 split
 ·rename_i hl1
  show Good (remove (unlinked t q) i)
  rw [hu]
  have hru:remove (more (cut t d x) i (-1)) i=remove (cut t d x) i:=remove_upd i (fun e=>{ e with nd:={ e.nd with links:=e.nd.links+(-1) } }) fun _=>rfl
  rw [hru]
  refine hpre.remove (hD.cut d x) hi0 (by rw [kids_of hfi];exact (h.each ei hfm).file hk1) (count_zero (by omega))
 ·rename_i hl1
  show Good (unlinked t q)
  rw [hu]
  refine hpre.more (hD.cut d x) hfi hk1 (by omega) hi0 (by have:=h0.2.2.2.1;omega) (fun hs hz=>hl1 ⟨by omega,hs⟩)
theorem rmdir_good (h:Good t) (q:List Bs):Good (rmdir t q).2:=by
 unfold rmdir
 split
 ·exact h
 split
 ·exact h
 rename_i hl0
 split
 ·exact h
 rename_i hk
 split
 ·exact h
 rename_i hq
 split
 ·exact h
 rename_i hkids
 have hl:(lF t 0 q).2=0:=Decidable.byContradiction hl0
 obtain ⟨i,hi⟩:∃ i,i=(lF t 0 q).1:=⟨_,rfl⟩
 have hlk:lF t 0 q=(i,0):=Prod.ext hi.symm hl
 obtain ⟨r,x,d,en,hqe,hlr,hfd,hen,hg,hpl⟩:=h.looked hlk hq
 obtain ⟨hi0,ei,hei,hcount⟩:=h.cut_facts hfd hg
 rw [← hi] at hk hkids ⊢
 rw [hpl]
 have hki:kindOf t i=2:=Decidable.byContradiction hk
 have hkid:kids t i=[]:=Decidable.byContradiction hkids
 rw [kO hei] at hki
 rw [kids_of hei] at hkid
 obtain ⟨hfm,hfid⟩:=find_some hei
 have hl1:=h.dirs ei hfm hki
 obtain ⟨dep,hD⟩:∃ dep,Deep dep t:=h.deep
 have hdi:i≠d:=fun e=>by
  rw [e,hfd] at hei
  injection hei with hei
  rw [← hei] at hkid
  rw [hkid] at hg;cases hg
 have hfi:find (cut t d x) i=some ei:=by
  unfold Tr.cut
  rw [find_upd (cut_id x),hei]
  simp only [Option.map_some,if_neg hdi]
 exact (h.cut hfd hg).remove (hD.cut d x) hi0 (by rw [kids_of hfi];exact hkid) (count_zero (by omega))
theorem flat_strike (i:Int):flat (t.map fun e=>{ e with names:=strike e.names i })=(flat t).filter fun x=>!(x.2.2==i):=by
 unfold flat
 rw [List.flatMap_map,List.filter_flatMap]
 congr 1
 funext e
 show (strike e.names i).map _=_
 unfold strike
 rw [List.filter_map]
 rfl
theorem drop_good (h:Good t) (i:Int):Good (drop t i).2:=by
 unfold drop
 split
 ·exact h
 rename_i hf
 split
 ·exact h
 obtain ⟨e0,he0⟩:=file_has hf
 have hk1:=file_kind h hf he0
 have hid:∀ e:En,({ e with names:=strike e.names i }:En).nd.id=e.nd.id:=fun _=>rfl
 obtain ⟨hm0,hid0⟩:=find_some he0
 have hi0:i≠0:=fun e=>by
  obtain ⟨r0,h1,h2,_⟩:=h.zero
  rw [e,h1] at he0
  injection he0 with he0
  rw [← he0] at hk1;omega
 obtain ⟨dep,hd0,hd⟩:=h.deep
 have hmem:∀ e ∈ (t.map fun e=>({ e with names:=strike e.names i }:En)),∃ e1 ∈ t,e={ e1 with names:=strike e1.names i }:=fun e he=>by
  obtain ⟨e1,h1,rfl⟩:=List.mem_map.1 he
  exact ⟨e1,h1,rfl⟩
 have hpre:Pre i (t.map fun e=>({ e with names:=strike e.names i }:En)):=by
  refine ⟨?_,map_ris h.ris hid,by rw [List.length_map];exact h.few,fun e he=>?_,fun e he n hn=>?_,fun e he hne=>?_,fun e he hne=>?_,fun e he hne=>?_⟩
  ·obtain ⟨r,rest,rfl,h1,h2⟩:=h.root
   exact ⟨_,_,rfl,h1,h2⟩
  all_goals
   obtain ⟨e1,h1,rfl⟩:=hmem e he
  ·have h2:=h.each e1 h1
   exact ⟨h2.nd,h2.size,strike_rise h2.rise i,fun n hn=>h2.good n (List.mem_filter.1 hn).1,fun hk=>by
    show strike e1.names i=[]
    rw [h2.file hk];rfl⟩
  ·rw [find_map hid]
   obtain ⟨h2,h3⟩:=h.leads e1 h1 n (List.mem_filter.1 hn).1
   refine ⟨h2,?_⟩
   cases hh:find t n.2 with
   | none=>rw [hh] at h3;cases h3
   | some _=>rfl
  ·unfold count
   rw [flat_strike,List.countP_filter]
   have e1':((flat t).countP fun a=>decide (a.2.2==e1.nd.id)&&!(a.2.2==i))=(flat t).countP fun a=>a.2.2==e1.nd.id:=by
    apply List.countP_congr
    intro a _
    have hne':e1.nd.id≠i:=hne
    by_cases hx:a.2.2=e1.nd.id
    ·simp [hx,hne']
    ·simp [hx]
   have h2:=h.linked e1 h1
   unfold count at h2
   show ((List.countP _ (flat t):Nat):Int)+_=_
   simp only [decide_eq_true_eq,Bool.decide_eq_true] at e1' ⊢
   rw [e1']
   exact h2
  ·exact h.dirs e1 h1
  ·exact h.shut e1 h1
 have hD:Deep dep (t.map fun e=>({ e with names:=strike e.names i }:En)):=by
  refine ⟨hd0,fun e he n hn=>?_⟩
  obtain ⟨e1,h1,rfl⟩:=hmem e he
  have h2:=hd e1 h1 n (List.mem_filter.1 hn).1
  have h3:kindOf (t.map fun e=>({ e with names:=strike e.names i }:En)) n.2=kindOf t n.2:=by
   unfold kindOf ndOf
   rw [find_map hid]
   cases find t n.2 <;> rfl
  rw [h3];exact h2
 refine hpre.remove hD hi0 ?_ fun e he n hn=>?_
 ·unfold kids
  rw [find_map hid,he0]
  show strike e0.names i=[]
  rw [(h.each e0 hm0).file hk1];rfl
 ·obtain ⟨e1,h1,rfl⟩:=hmem e he
  have:=(List.mem_filter.1 hn).2
  simpa using this
end Tr
end Go.Proofs.YtjoedamiilgajaaGreat
namespace Go.Proofs.YtjoedamiilgajaaGreat
open Go.RowKit
open Tr (Nm En T)
namespace Rf
theorem flat_idx {t:T} (h:Tr.Good t) (d:Int) (x:Bs):(Tr.get (Tr.kids t d) x=none∧idxE (Tr.flat t) d x=-1)∨∃ (k:Int) (j:Nat),Tr.get (Tr.kids t d) x=some k∧idxE (Tr.flat t) d x=(j:Int)∧(Tr.flat t)[j]?=some (d,(x,k))∧j<(Tr.flat t).length:=by
 cases hf:(Tr.flat t).findIdx? (fun y=>y.1==d&&y.2.1==x) with
 | none =>
   refine .inl ⟨?_,by unfold idxE;rw [hf]⟩
   rw [List.findIdx?_eq_none_iff] at hf
   rw [Tr.get_none]
   intro n hn hnx
   cases hd:Tr.find t d with
   | none=>unfold Tr.kids at hn;rw [hd] at hn;cases hn
   | some e =>
     rw [Tr.kids_of hd] at hn
     have:=hf (d,n) (Tr.flat_mem.2 ⟨e,(Tr.find_some hd).1,(Tr.find_some hd).2,hn⟩)
     simp [hnx] at this
 | some j =>
   refine .inr ?_
   have h1:=hf
   rw [List.findIdx?_eq_some_iff_getElem] at h1
   obtain ⟨hlt,h2,h3⟩:=h1
   obtain ⟨y,hy⟩:∃ y,y=(Tr.flat t)[j]:=⟨_,rfl⟩
   rw [← hy] at h2
   have h4:y.1=d∧y.2.1=x:=by simpa using h2
   have hm:y ∈ Tr.flat t:=hy ▸ List.getElem_mem hlt
   obtain ⟨e,he,hid,hn⟩:=Tr.flat_mem.1 hm
   have hfd:Tr.find t d=some e:=by rw [← h4.1,← hid];exact h.ris.find he
   refine ⟨y.2.2,j,?_,by unfold idxE;rw [hf],?_,hlt⟩
   ·rw [Tr.kids_of hfd,← h4.2]
    exact Tr.get_of_mem (h.each e he).rise hn
   ·rw [List.getElem?_eq_getElem hlt,← hy,← h4.1,← h4.2]
end Rf
end Go.Proofs.YtjoedamiilgajaaGreat
namespace Go.Proofs.YtjoedamiilgajaaGreat
open Go.RowKit Rc
open Tr (Nm En T)
namespace Rf
structure RowTy (ty e:TypeId) (k:Nat) (z:Value) (b:Nat):Prop where
 under:Tryz.prog.underlying ty=some (.slice e)
 elem:Tryz.prog.elem ty=e
 info:(Tryz.prog.info? e).map (fun i=>(i.zero,i.size,i.bytes))=some (some z,k,b)
 cells:z.cells.size=k
 pos:0<k
 few:b≤100
theorem RowTy.parts {ty e:TypeId} {k:Nat} {z:Value} {b:Nat} (R:RowTy ty e k z b):∃ i,Tryz.prog.info? e=some i∧i.zero=some z∧i.size=k∧i.bytes=b:=by
 have h:=R.info
 simp only [Option.map_eq_some_iff,Prod.mk.injEq] at h
 obtain ⟨i0,h1,h2,h3,h4⟩:=h
 exact ⟨i0,h1,h2,h3,h4⟩
def zNode:Value:=.agg #[.int .i64 0,.int .i64 0,.int .i64 0,.int .i64 0,.int .u64 0,.bool false]
def zEnt:Value:=.agg #[.int .i64 0,.string .empty,.int .i64 0]
theorem nodeTy:RowTy 81 59 6 zNode 48:=⟨by kernel_rfl,by kernel_rfl,by kernel_rfl,rfl,by decide,by decide⟩
theorem entTy:RowTy 82 110 3 zEnt 32:=⟨by kernel_rfl,by kernel_rfl,by kernel_rfl,rfl,by decide,by decide⟩
theorem bytesTy:RowTy 71 39 1 (.slice none 0 0) 24:=⟨by kernel_rfl,by kernel_rfl,by kernel_rfl,rfl,by decide,by decide⟩
def Src (w:World) (A:Option Addr) (ys:List Value):Prop:=0<ys.length→∃ a,A=some a∧∀ j u,ys[j]?=some u→w.cell? (a.add j)=some u
theorem Src.nil (w:World) (A:Option Addr):Src w A []:=fun h=>absurd h (by simp)
theorem Src.keep {w w':World} {A:Option Addr} {ys:List Value} (h:Src w A ys) (hb:∀ b,A.map (·.block)=some b→w'.heap[b]?=w.heap[b]?):Src w' A ys:=fun hl=>by
 obtain ⟨a,rfl,hc⟩:=h hl
 refine ⟨a,rfl,fun j u hj=>?_⟩
 rw [← hc j u hj]
 have e1:(a.add j).block=a.block:=by unfold Addr.add;first|rfl|(split <;> rfl)
 exact World.cell?_of_block (by rw [e1];exact hb a.block rfl)
def cutR (A:Option Addr) (k s cap:Nat):Option Addr:=if cap=k then A else A.map (·.add (k*s))
section
variable {ty e:TypeId} {k:Nat} {z:Value} {by_:Nat}
theorem own_src {w:World} {B n:Nat} {v:Value} {xs:List Value} (h:w.ownsRow B e k v n xs):∃ A c,v=.slice A n c∧n≤c∧Src w A xs∧∀ b,A.map (·.block)=some b→v.ownBlock=some b:=by
 obtain ⟨A,c,h1,h2,h3⟩:=Tm.oF h
 rcases h.2 with ⟨rfl,h0⟩|⟨g,cap,cur,rfl,_⟩
 ·refine ⟨none,0,by rw [h0],by omega,fun hl=>?_,fun b hb=>by cases hb⟩
  have:=h.1
  rw [h0,Nat.zero_mul] at this
  omega
 ·refine ⟨_,cap,rfl,?_,fun hl=>⟨_,rfl,fun j u hj=>?_⟩,fun b hb=>?_⟩
  ·injection h1 with e1 e2 e3
   omega
  ·have hn:0<n:=by
    rcases Nat.eq_zero_or_pos n with h0|h0
    ·have:=h.1
     rw [h0,Nat.zero_mul] at this
     omega
    ·exact h0
   obtain ⟨g',h4,_,_,_,h5⟩:=h3 hn
   injection h1 with e1 e2 e3
   rw [h4] at e1
   injection e1 with e1
   injection e1 with e1
   subst e1
   rw [add_plain,Nat.zero_add]
   exact h5 j u hj
  ·simpa [Value.ownBlock] using hb
theorem Src.head {w:World} {A:Option Addr} {xs:List Value} (h:Src w A xs) (m:Nat):Src w A (xs.take m):=fun hl=>by
 rw [List.length_take] at hl
 obtain ⟨a,rfl,hc⟩:=h (by omega)
 refine ⟨a,rfl,fun j u hj=>hc j u ?_⟩
 rw [List.getElem?_take] at hj
 split at hj
 ·exact hj
 ·cases hj
theorem Src.tail {w:World} {b0:Nat} {xs:List Value} (h:Src w (some ⟨b0,0,none⟩) xs) (m s cap n:Nat) (hx:xs.length=n*s) (hn:n≤cap):Src w (cutR (some ⟨b0,0,none⟩) m s cap) (xs.drop (m*s)):=fun hl=>by
 rw [List.length_drop,hx] at hl
 have hm:m<n:=by
  rcases Nat.lt_or_ge m n with h1|h1
  ·exact h1
  ·have:=Nat.mul_le_mul_right s h1
   omega
 obtain ⟨a,ha,hc⟩:=h (by rw [hx];omega)
 injection ha with ha
 subst ha
 unfold cutR
 rw [if_neg (by omega)]
 refine ⟨_,rfl,fun j u hj=>?_⟩
 rw [List.getElem?_drop] at hj
 have:=hc _ _ hj
 rw [add_plain,Nat.zero_add] at this
 show w.cell? (((⟨b0,0,none⟩:Addr).add (m*s)).add j)=some u
 rw [add_plain,add_plain,Nat.zero_add]
 exact this
theorem run_head (R:RowTy ty e k z by_) (w:World) (A:Option Addr) (n cap m:Nat) (hm:m≤cap):(Instr.sliceAt ty (.slice A n cap) none (some (.int .i64 (m:Nat))) none).run Tryz.prog w=.ok (.slice A m cap) w:=by
 have hu:Tryz.prog.underlying ty=some (.slice (Tryz.prog.elem ty)):=by rw [R.elem];exact R.under
 obtain ⟨i,hi,_,hs,_⟩:=R.parts
 have hz:(sizeOf (Tryz.prog.elem ty)).run Tryz.prog w=.ok k w:=by rw [R.elem];simp [sizeOf,typeInfo,hi,hs]
 rw [run_sliceAt_slice w _ _ _ _ _ hu,run_slice_h w _ _ _ _ hu .i64 m (by omega) (by omega),hz]
 have e0:∀ a:Addr,a.add 0=a:=fun a=>by unfold Addr.add;simp
 cases A <;> simp [Result.andThen,sliced,e0]
theorem run_tail (R:RowTy ty e k z by_) (w:World) (A:Option Addr) (n cap m:Nat) (hm:m≤n):(Instr.sliceAt ty (.slice A n cap) (some (.int .i64 (m:Nat))) none none).run Tryz.prog w=.ok (.slice (cutR A m k cap) (n-m) (cap-m)) w:=by
 have hu:Tryz.prog.underlying ty=some (.slice (Tryz.prog.elem ty)):=by rw [R.elem];exact R.under
 obtain ⟨i,hi,_,hs,_⟩:=R.parts
 have hz:(sizeOf (Tryz.prog.elem ty)).run Tryz.prog w=.ok k w:=by rw [R.elem];simp [sizeOf,typeInfo,hi,hs]
 rw [run_sliceAt_slice w _ _ _ _ _ hu,run_slice_l w _ _ _ _ hu .i64 m (by omega) (by omega),hz]
 simp [Result.andThen,sliced,cutR]
theorem run_cat (R:RowTy ty e k z by_) {w:World} {B n m cap:Nat} {v:Value} {xs ys:List Value} {A:Option Addr} (t0:TypeId) (h:w.ownsRow B e k v n xs) (hs:Src w A ys) (hl:ys.length=m*k) (h1:∀ u ∈ ys,u.oneCell'=true) (hn:n+m≤10000000) (hB:B≤w.heap.size) :
    ∃ v' w',(Builtin.append_ #[ty,ty] t0 #[v,.slice A m cap]).run Tryz.prog w=.ok v' w'∧w'.ownsRow B e k v' (n+m) (xs++ys)∧w.grownBy w' v.ownBlock∧(v'.ownBlock=v.ownBlock∨v'.ownBlock=some w.heap.size):=by
 obtain ⟨i,hi,hz0,hz1,hz2⟩:=R.parts
 have hk:=R.pos
 have hfew:=R.few
 rcases Nat.eq_zero_or_pos m with h0|h0
 ·subst h0
  obtain rfl:ys=[]:=List.eq_nil_of_length_eq_zero (by omega)
  refine ⟨v,w,?_,by rw [List.append_nil];exact h,⟨rfl,rfl,rfl,Nat.le_refl _,fun _ _ _=>rfl⟩,.inl rfl⟩
  rcases h.2 with ⟨rfl,_⟩|⟨g,cap',cur,rfl,_,_,hnc,_⟩
  ·cases A <;> simp [Builtin.append_,run_underlying R.under,sizeOf,typeInfo,hi,Builtin.lenOf,Builtin.firstCells,loadCells,loadCellsFrom]
  ·cases A <;> simp [Builtin.append_,run_underlying R.under,sizeOf,typeInfo,hi,Builtin.lenOf,Builtin.firstCells,loadCells,loadCellsFrom,storeCells,hnc]
 ·obtain ⟨a,rfl,hc⟩:=hs (by rw [hl];exact Nat.mul_pos h0 hk)
  obtain ⟨v',w',r1,r2,r3,_,r5⟩:=run_append_own_at (P:=Tryz.prog) (w:=w) B ty t0 e i z k by_ R.under hi hz0 hz1 hz2 R.cells hk v n xs h a m cap ys hl hc h1 (by unfold maxLen;omega) (by
   have:=Nat.mul_le_mul hn hfew
   omega) hB
  exact ⟨v',w',r1,r2,r3,r5⟩
theorem wpList_cat (R:RowTy ty e k z by_) {ops:Array Oper} {rest:List Oper} {o:Oper} {a:Act} {w:World} {Q:Exit→Act→World→Prop} (hgd:o.guard=none) (s x:Operand)
    (hop:o.op=.call { callee:=.builtin .append,args:=#[s,x],argTypes:=#[ty,ty] }) {B n m cap N:Nat} {v:Value} {xs ys zs:List Value} {A:Option Addr} (hs:a.eval s=v) (hx:a.eval x=.slice A m cap)
    (h:w.ownsRow B e k v n xs) (hsrc:Src w A ys) (hl:ys.length=m*k) (h1:∀ u ∈ ys,u.oneCell'=true) (hn:n+m≤10000000) (hB:B≤w.heap.size) (hN:N=n+m) (hz:zs=xs++ys)
    (hK:∀ v' w',Hid (w'.ownsRow B e k v' N zs)→Hid (w.grownBy w' v.ownBlock)→Hid (v'.ownBlock=v.ownBlock∨v'.ownBlock=some w.heap.size)→wpList Tryz.prog ops Q rest (a.put o.dst v') w'):wpList Tryz.prog ops Q (o :: rest) a w:=by
 subst hN hz
 refine wpList_plain hgd fun K hK'=>?_
 obtain ⟨v',w',r1,r2,r3,r4⟩:=run_cat R (cap:=cap) o.type h hsrc hl h1 hn hB
 unfold Oper.wp
 simp [execOp,hop,resolve,invoke,builtin,hs,hx,r1,Result.andThen]
 exact hK' _ _ (hK v' w' r2 r3 r4)
end
theorem none_own (w:World) (e:TypeId) (k:Nat):(w.alloc (.cells #[] e)).ownsRow w.heap.size e k (.slice (some ⟨w.heap.size,0,none⟩) 0 0) 0 [] :=
 ⟨by simp,.inr ⟨w.heap.size,0,#[],rfl,Nat.le_refl _,heap_alloc_new w _,Nat.le_refl _,by unfold maxLen;omega,by simp,by simp⟩⟩
theorem one_own (w:World) (e:TypeId) (cs:List Value) (k:Nat) (hk:cs.length=k):(w.alloc (.cells cs.toArray e)).ownsRow w.heap.size e k (.slice (some ⟨w.heap.size,0,none⟩) 1 1) 1 cs :=
 ⟨by omega,.inr ⟨w.heap.size,1,cs.toArray,rfl,Nat.le_refl _,heap_alloc_new w _,Nat.le_refl _,by unfold maxLen;omega,by simp [hk],by simp [← hk]⟩⟩
theorem new_src (w:World) (e:TypeId) (cs:List Value):Src (w.alloc (.cells cs.toArray e)) (some ⟨w.heap.size,0,none⟩) cs:=fun _=>⟨_,rfl,fun j u hj=>by
 rw [add_plain,cell_of_row _ w.heap.size (0+j) cs.toArray e (0,0) (heap_alloc_new w _),Nat.zero_add]
 simpa using hj⟩
end Rf
end Go.Proofs.YtjoedamiilgajaaGreat
namespace Go.Proofs.YtjoedamiilgajaaGreat
open Go.RowKit
open Tr (Nm En T)
namespace Rf
abbrev Ent:=Int × Nm
def ahead (a:Ent) (d:Int) (x:Bs):Bool:=decide (a.1<d) || (decide (a.1=d)&&Tr.less a.2.1 x)
def insF (l:List Ent) (d:Int) (x:Bs) (k:Int):List Ent :=
 match l with
 | []=>[(d,(x,k))]
 | a :: l=>if ahead a d x then a :: insF l d x k else (d,(x,k)) :: a :: l
theorem insF_at (d:Int) (x:Bs) (k:Int):∀ (l:List Ent) (j:Nat),j≤l.length→(∀ e ∈ l.take j,ahead e d x=true)→(∀ e,l[j]?=some e→ahead e d x=false)→insF l d x k=l.take j++(d,(x,k)) :: l.drop j
 | [],j,hj,_,_=>by
   obtain rfl:j=0:=by simpa using hj
   rfl
 | a :: l,0,_,_,h2=>by
   have:=h2 a rfl
   unfold insF
   rw [if_neg (by simp [this])]
   rfl
 | a :: l,j+1,hj,h1,h2=>by
   have ha:=h1 a (by simp)
   unfold insF
   rw [if_pos ha,insF_at d x k l j (by simpa using hj) (fun e he=>h1 e (by rw [List.take_succ_cons];exact .tail _ he)) (fun e he=>h2 e (by simpa using he))]
   rfl
theorem insF_skip (d:Int) (x:Bs) (k:Int):∀ (A l:List Ent),(∀ e ∈ A,ahead e d x=true)→insF (A++l) d x k=A++insF l d x k
 | [],_,_=>rfl
 | a :: A,l,h=>by
   rw [List.cons_append]
   conv=>lhs;unfold insF
   rw [if_pos (h a (.head _)),insF_skip d x k A l fun e he=>h e (.tail _ he)]
   rfl
theorem insF_names (d:Int) (x:Bs) (k:Int) (B:List Ent) (hB:∀ e ∈ B,ahead e d x=false):∀ l:List Nm,insF (l.map (fun n=>(d,n))++B) d x k=(Tr.ins l x k).map (fun n=>(d,n))++B
 | []=>by
   cases B with
   | nil=>rfl
   | cons b B =>
     show insF (b :: B) d x k=_
     unfold insF
     rw [if_neg (by simp [hB b (.head _)])]
     rfl
 | n :: l=>by
   rw [List.map_cons,List.cons_append]
   unfold insF Tr.ins
   have e1:ahead (d,n) d x=Tr.less n.1 x:=by simp [ahead]
   rw [e1]
   split
   ·rw [insF_names d x k B hB l];rfl
   ·rfl
theorem flat_ids {A:T} {e:Ent} (h:e ∈ Tr.flat A):∃ a ∈ A,a.nd.id=e.1:=by
 obtain ⟨a,h1,h2,_⟩:=Tr.flat_mem.1 h
 exact ⟨a,h1,h2⟩
theorem flat_put_is {t:T} (hr:Tr.Ris t) {d:Int} {en:En} (hf:Tr.find t d=some en) (x:Bs) (k:Int):Tr.flat (Tr.put t d x k)=insF (Tr.flat t) d x k:=by
 obtain ⟨A,B,rfl,he,hA,hB⟩:=hr.split hf
 unfold Tr.put
 rw [Tr.upd_split he hA hB,Tr.flat_split,Tr.flat_split]
 rw [insF_skip d x k _ _ fun e h=>by
  obtain ⟨a,h1,h2⟩:=flat_ids h
  have:=hA a h1
  simp only [ahead,Bool.or_eq_true,decide_eq_true_eq]
  exact .inl (by omega)]
 congr 1
 simp only [he]
 rw [insF_names d x k _ fun e h=>by
  obtain ⟨b,h1,h2⟩:=flat_ids h
  have:=hB b h1
  have e1:¬ e.1<d:=by omega
  have e2:¬ e.1=d:=by omega
  simp [ahead,e1,e2]]
theorem put_maps (t:T) (d:Int) (x:Bs) (k:Int):(Tr.put t d x k).map (·.nd)=t.map (·.nd)∧(Tr.put t d x k).map (·.data)=t.map (·.data):=by
 unfold Tr.put Tr.upd
 constructor
 ·rw [List.map_map];apply List.map_congr_left;intro e _;simp only [Function.comp];split <;> rfl
 ·rw [List.map_map];apply List.map_congr_left;intro e _;simp only [Function.comp];split <;> rfl
theorem cut_maps (t:T) (d:Int) (x:Bs):(Tr.cut t d x).map (·.nd)=t.map (·.nd)∧(Tr.cut t d x).map (·.data)=t.map (·.data):=by
 unfold Tr.cut Tr.upd
 constructor
 ·rw [List.map_map];apply List.map_congr_left;intro e _;simp only [Function.comp];split <;> rfl
 ·rw [List.map_map];apply List.map_congr_left;intro e _;simp only [Function.comp];split <;> rfl
def Apart (l:List Ent):Prop:=l.Pairwise fun a b=>¬ (a.1=b.1∧a.2.1=b.2.1)
theorem Good.apart {t:T} (h:Tr.Good t):Apart (Tr.flat t):=by
 unfold Apart Tr.flat
 rw [List.pairwise_flatMap]
 constructor
 ·intro e he
  rw [List.pairwise_map]
  refine List.Pairwise.imp ?_ (h.each e he).rise
  intro a b hab hx
  exact Tr.less_ne hab hx.2
 ·refine List.Pairwise.imp ?_ h.rise
  intro a b hab x hx y hy
  obtain ⟨n,_,rfl⟩:=List.mem_map.1 hx
  obtain ⟨m,_,rfl⟩:=List.mem_map.1 hy
  intro hz
  have:=hz.1
  simp only at this
  omega
theorem filter_cut {α:Type} {p:α→Bool} {l:List α} {j:Nat} {y:α} (hj:l[j]?=some y) (hy:p y=true) (hp:l.Pairwise fun a b=>¬ (p a=true∧p b=true)):l.filter (fun a=>!p a)=l.take j++l.drop (j+1):=by
 obtain ⟨hlt,hje⟩:=List.getElem?_eq_some_iff.1 hj
 have hs:l=l.take j++y :: l.drop (j+1):=by
  rw [← hje]
  conv=>lhs;rw [← List.take_append_drop j l]
  rw [List.drop_eq_getElem_cons hlt]
 have hp2:(l.take j++y :: l.drop (j+1)).Pairwise fun a b=>¬ (p a=true∧p b=true):=hs ▸ hp
 rw [List.pairwise_append] at hp2
 obtain ⟨_,h2,h3⟩:=hp2
 rw [List.pairwise_cons] at h2
 conv=>lhs;rw [hs]
 rw [List.filter_append,List.filter_cons,if_neg (by simp [hy])]
 congr 1
 ·rw [List.filter_eq_self]
  intro a ha
  have:=h3 a ha y (.head _)
  simp only [hy,and_true] at this
  simpa using this
 ·rw [List.filter_eq_self]
  intro a ha
  have:=h2.1 a ha
  simp only [hy,true_and] at this
  simpa using this
theorem flat_cut_filter (t:T) (d:Int) (x:Bs):Tr.flat (Tr.cut t d x)=(Tr.flat t).filter fun y=>!(y.1==d&&y.2.1==x):=by
 induction t with
 | nil=>rfl
 | cons e t ih =>
   have e1:Tr.flat (e :: t)=e.names.map (fun n=>(e.nd.id,n))++Tr.flat t:=rfl
   have e2:Tr.cut (e :: t) d x=(if e.nd.id==d then { e with names:=Tr.del e.names x } else e) :: Tr.cut t d x:=rfl
   have e3:∀ (e':En),Tr.flat (e' :: Tr.cut t d x)=e'.names.map (fun n=>(e'.nd.id,n))++Tr.flat (Tr.cut t d x):=fun _=>rfl
   rw [e1,e2,e3,ih,List.filter_append]
   congr 1
   by_cases h:e.nd.id=d
   ·rw [if_pos (by simpa using h)]
    simp only [Tr.del,List.filter_map]
    congr 1
    apply List.filter_congr
    intro n _
    simp [h]
   ·rw [if_neg (by simpa using h)]
    symm
    rw [List.filter_eq_self]
    intro y hy
    obtain ⟨n,_,rfl⟩:=List.mem_map.1 hy
    simp [h]
theorem flat_cut_at {t:T} (h:Tr.Good t) {d:Int} {x:Bs} {k:Int} {j:Nat} (hj:(Tr.flat t)[j]?=some (d,(x,k))):Tr.flat (Tr.cut t d x)=(Tr.flat t).take j++(Tr.flat t).drop (j+1):=by
 rw [flat_cut_filter]
 refine filter_cut (p:=fun y:Ent=>y.1==d&&y.2.1==x) hj (by simp) (List.Pairwise.imp ?_ (Good.apart h))
 intro a b hab hz
 simp only [Bool.and_eq_true,beq_iff_eq] at hz
 exact hab ⟨hz.1.1.trans hz.2.1.symm,hz.1.2.trans hz.2.2.symm⟩
theorem remove_at {t:T} (hr:Tr.Ris t) {i:Int} {j:Nat} {e:En} (hj:t[j]?=some e) (he:e.nd.id=i):Tr.remove t i=t.take j++t.drop (j+1):=by
 unfold Tr.remove
 refine filter_cut (p:=fun e:En=>e.nd.id==i) hj (by simpa using he) (List.Pairwise.imp ?_ hr)
 intro a b hab hz
 simp only [beq_iff_eq] at hz
 have:a.nd.id<b.nd.id:=hab
 omega
theorem flat_remove {t:T} {i:Int} (h:∀ e ∈ t,e.nd.id=i→e.names=[]):Tr.flat (Tr.remove t i)=Tr.flat t:=by
 induction t with
 | nil=>rfl
 | cons e t ih =>
   have ih2:=ih fun m hm=>h m (.tail _ hm)
   have e1:Tr.flat (e :: t)=e.names.map (fun n=>(e.nd.id,n))++Tr.flat t:=rfl
   unfold Tr.remove at ih2 ⊢
   rw [List.filter_cons]
   by_cases hi:e.nd.id=i
   ·rw [if_neg (by simp [hi]),ih2,e1,h e (.head _) hi];rfl
   ·rw [if_pos (by simp [hi])]
    have e2:Tr.flat (e :: t.filter fun e=>!(e.nd.id==i))=e.names.map (fun n=>(e.nd.id,n))++Tr.flat (t.filter fun e=>!(e.nd.id==i)):=rfl
    rw [e2,ih2,e1]
theorem insE_take {n:En}:∀ {t:T} {j:Nat},j≤t.length→(∀ e ∈ t.take j,e.nd.id<n.nd.id)→(∀ e,t[j]?=some e→¬ e.nd.id<n.nd.id)→Tr.insE t n=t.take j++n :: t.drop j
 | [],j,hj,_,_=>by
   obtain rfl:j=0:=by simpa using hj
   rfl
 | a :: l,0,_,_,h2=>by
   have:=h2 a rfl
   unfold Tr.insE
   rw [if_neg this]
   rfl
 | a :: l,j+1,hj,h1,h2=>by
   have ha:=h1 a (by simp)
   unfold Tr.insE
   rw [if_pos ha,insE_take (by simpa using hj) (fun e he=>h1 e (by rw [List.take_succ_cons];exact .tail _ he)) (fun e he=>h2 e (by simpa using he))]
   rfl
theorem flat_insE (t:T) (n:En) (hn:n.names=[]):Tr.flat (Tr.insE t n)=Tr.flat t:=by
 induction t with
 | nil=>show n.names.map _++[]=[];rw [hn];rfl
 | cons e t ih =>
   unfold Tr.insE
   split
   ·show e.names.map _++Tr.flat (Tr.insE t n)=_
    rw [ih];rfl
   ·show n.names.map _++_=_
    rw [hn];rfl
theorem upd_at {t:T} (hr:Tr.Ris t) {i:Int} {j:Nat} {e:En} (hj:t[j]?=some e) (he:e.nd.id=i) (f:En→En):Tr.upd t i f=t.set j (f e):=by
 obtain ⟨hlt,hje⟩:=List.getElem?_eq_some_iff.1 hj
 refine List.ext_getElem? fun m=>?_
 unfold Tr.upd
 rw [List.getElem?_map]
 by_cases hm:m=j
 ·subst hm
  rw [hj,List.getElem?_set_self hlt]
  simp [he]
 ·rw [List.getElem?_set_ne (fun h=>hm h.symm)]
  cases hx:t[m]? with
  | none=>rfl
  | some a =>
    obtain ⟨hml,hma⟩:=List.getElem?_eq_some_iff.1 hx
    have hne:a.nd.id≠i:=by
     rw [← he,← hje,← hma]
     rcases Nat.lt_or_gt_of_ne hm with h1|h1
     ·have:=List.pairwise_iff_getElem.1 hr m j hml hlt h1;omega
     ·have:=List.pairwise_iff_getElem.1 hr j m hlt hml h1;omega
    simp [hne]
end Rf
end Go.Proofs.YtjoedamiilgajaaGreat
namespace Go.Proofs.YtjoedamiilgajaaGreat
open Go.RowKit Rc
open Tr (Nm En T)
namespace Rf
variable {p:Nat} {nv dv ev nv' dv' ev':Value} {D D':Nat→Prop} {t t':T} {w w1 w':World}
structure RA (p:Nat) (nv dv ev:Value) (D:Nat→Prop) (t:T) (w:World):Prop where
 in_:RIn p nv dv ev D t w
 apart:∀ b,D b→b<w.heap.size∧b≠p∧nv.ownBlock≠some b∧ev.ownBlock≠some b
theorem RA.low (h:RA p nv dv ev D t w):∀ b,D b→b<w.heap.size:=fun b hb=>(h.apart b hb).1
theorem RA.lt (h:RA p nv dv ev D t w) {b:Nat} (hb:RS p nv ev D b):b<w.heap.size:=RS_lt h.in_ hb h.low
theorem RA.keep (h:RA p nv dv ev D t w) (hs:w.heap.size≤w'.heap.size) (hb:∀ b,RS p nv ev D b→w'.heap[b]?=w.heap[b]?):RA p nv dv ev D t w' :=
 ⟨h.in_.keep hs hb,fun b hD=>⟨Nat.lt_of_lt_of_le (h.apart b hD).1 hs,(h.apart b hD).2⟩⟩
theorem RA.below (h:RA p nv dv ev D t w) (hb:Below w.heap.size w w'):RA p nv dv ev D t w':=h.keep hb.size fun b hb2=>hb.block b (h.lt hb2)
theorem RA.np (h:RA p nv dv ev D t w):nv.ownBlock≠some p∧ev.ownBlock≠some p∧∀ b,nv.ownBlock=some b→ev.ownBlock≠some b:=by
 refine ⟨fun e=>?_,fun e=>?_,fun b e1 e2=>?_⟩
 ·obtain ⟨_,_,cs,h1⟩:=Tm.oB h.in_.nodes e
  exact absurd rfl (h1.ne_ h.in_.box (by decide))
 ·obtain ⟨_,_,cs,h1⟩:=Tm.oB h.in_.ents e
  exact absurd rfl (h1.ne_ h.in_.box (by decide))
 ·obtain ⟨_,_,cs,h1⟩:=Tm.oB h.in_.nodes e1
  obtain ⟨_,_,cs2,h2⟩:=Tm.oB h.in_.ents e2
  exact absurd rfl (h1.ne_ h2 (by decide))
def RAt (v:Value) (t:T) (S:Nat→Prop) (w:World):Prop:=∃ p nv dv ev D,v=.pointer (some ⟨p,0,none⟩)∧RA p nv dv ev D t w∧S=RS p nv ev D
def robj:Ob.Obj T where
 At:=RAt
 keep:=by
  rintro v t S w w' ⟨p,nv,dv,ev,D,rfl,h,rfl⟩ hs hb
  exact ⟨p,nv,dv,ev,D,rfl,h.keep hs hb,rfl⟩
 lt:=by
  rintro v t S w ⟨p,nv,dv,ev,D,rfl,h,rfl⟩ b hb
  exact h.lt hb
 ptr:=by
  rintro v t S w ⟨p,nv,dv,ev,D,rfl,h,rfl⟩
  exact ⟨_,rfl⟩
def RTurn (p:Nat) (t':T) (x:Value) (S:Nat→Prop) (w:World) (e:Ending) (w':World):Prop :=
 e=.returned x∧∃ S',RAt (.pointer (some ⟨p,0,none⟩)) t' S' w'∧Mod w w' S∧∀ b,S' b→S b∨w.heap.size≤b
theorem RAt.parts {S:Nat→Prop} (h:RAt (.pointer (some ⟨p,0,none⟩)) t S w):∃ nv dv ev D,RA p nv dv ev D t w∧S=RS p nv ev D:=by
 obtain ⟨p',nv,dv,ev,D,hp,h1,h2⟩:=h
 injection hp with hp
 injection hp with hp
 injection hp with hp
 subst hp
 exact ⟨nv,dv,ev,D,h1,h2⟩
theorem RA.at_ (h:RA p nv dv ev D t w):RAt (.pointer (some ⟨p,0,none⟩)) t (RS p nv ev D) w:=⟨p,nv,dv,ev,D,rfl,h,rfl⟩
theorem RTurn.stay (h:RA p nv dv ev D t w) {x:Value} (hb:Below w.heap.size w w'):RTurn p t x (RS p nv ev D) w (.returned x) w':=⟨rfl,_,(h.below hb).at_,Mod.of_below hb _,fun _ h=>.inl h⟩
theorem RTurn.then {S S1:Nat→Prop} {x:Value} {e:Ending} (hm:Mod w w1 S) (hs:∀ b,S1 b→S b∨w.heap.size≤b) (h:RTurn p t' x S1 w1 e w'):RTurn p t' x S w e w':=by
 obtain ⟨h1,S',h2,h3,h4⟩:=h
 refine ⟨h1,S',h2,Ob.mod_more hm h3 hs,fun b hb=>?_⟩
 rcases h4 b hb with h5|h5
 ·exact hs b h5
 ·exact .inr (Nat.le_trans hm.size h5)
structure Left (p:Nat) (t':T) (S:Nat→Prop) (w w':World) (nv dv ev:Value) (D:Nat→Prop):Prop where
 ra:RA p nv dv ev D t' w'
 mod:Mod w w' S
 sub:∀ b,RS p nv ev D b→S b∨w.heap.size≤b
theorem RTurn.left {S:Nat→Prop} {x:Value} {e:Ending} (h:RTurn p t' x S w e w'):e=.returned x∧∃ nv dv ev D,Left p t' S w w' nv dv ev D:=by
 obtain ⟨h1,S',h2,h3,h4⟩:=h
 obtain ⟨nv,dv,ev,D,h5,rfl⟩:=h2.parts
 exact ⟨h1,nv,dv,ev,D,h5,h3,h4⟩
theorem Left.turn {S:Nat→Prop} {x:Value} (h:Left p t' S w w' nv dv ev D):RTurn p t' x S w (.returned x) w':=⟨rfl,_,h.ra.at_,h.mod,h.sub⟩
theorem Left.then {S:Nat→Prop} {t2:T} (h:Left p t' S w w1 nv dv ev D) (k:Left p t2 (RS p nv ev D) w1 w' nv' dv' ev' D'):Left p t2 S w w' nv' dv' ev' D':=by
 refine ⟨k.ra,Ob.mod_more h.mod k.mod h.sub,fun b hb=>?_⟩
 rcases k.sub b hb with h5|h5
 ·exact h.sub b h5
 ·exact .inr (Nat.le_trans h.mod.size h5)
theorem Left.later {S:Nat→Prop} (h:Left p t' S w w1 nv dv ev D) (hb:Below w1.heap.size w1 w'):Left p t' S w w' nv dv ev D:=⟨h.ra.below hb,Ob.mod_more h.mod (Mod.of_below hb fun _=>False) (fun _ h=>h.elim),h.sub⟩
theorem RA.left (h:RA p nv dv ev D t w):Left p t (RS p nv ev D) w w nv dv ev D:=⟨h,Mod.refl _ _,fun _ h=>.inl h⟩
theorem own_new_ne {B e k n:Nat} {v:Value} {xs:List Value} (h:w1.ownsRow B e k v n xs) {b:Nat} (hb:b<B):v.ownBlock≠some b:=fun e2=>by
 have:=(Tm.oB h e2).1
 omega
theorem nd_cells (hn:t'.map (·.nd)=t.map (·.nd)):ndCells t'=ndCells t∧t'.length=t.length:=by
 have e1:∀ u:T,ndCells u=(u.map (·.nd)).flatMap ndCell:=fun u=>by unfold ndCells;rw [List.flatMap_map]
 exact ⟨by rw [e1,e1,hn],by have:=congrArg List.length hn;simpa using this⟩
abbrev OnlyP (p:Nat) (w w':World):Prop:=Mod w w' (fun b=>b=p)
theorem RA.only (h:RA p nv dv ev D t w) (hm:OnlyP p w w'):Mod w w' (RS p nv ev D)∧∀ b,RS p nv ev D b→b≠p→w'.heap[b]?=w.heap[b]? :=
 ⟨hm.mono fun k _ hk=>.inl hk,fun b hb hbp=>hm.block b (h.lt hb) hbp⟩
theorem RA.box_to (h:RA p nv dv ev D t w) (hb:Below w.heap.size w w1) (i:Nat) (v:Value):OnlyP p w (w1.setCell ⟨p,i,none⟩ v)∧Blk (w1.setCell ⟨p,i,none⟩ v) p 84 ([nv,dv,ev].set i v):=by
 refine ⟨⟨hb.os,hb.tape,hb.output,by have:=hb.size;simpa [World.setCell] using this,fun k hk hn=>?_⟩,((h.below hb).in_.box).set_ i v⟩
 rw [Below.heap_setCell _ _ _ _ hn]
 exact hb.block k hk
theorem RA.ents (h:RA p nv dv ev D t w) (hm:OnlyP p w w') (hbx:Blk w' p 84 [nv,dv,ev']) (ho:w'.ownsRow w.heap.size 110 3 ev' (Tr.flat t').length (flCells (Tr.flat t'))) (hn:t'.map (·.nd)=t.map (·.nd)) (hd:t'.map (·.data)=t.map (·.data)) :
    Left p t' (RS p nv ev D) w w' nv dv ev' D:=by
 obtain ⟨hmm,hh⟩:=h.only hm
 obtain ⟨hc,hl⟩:=nd_cells hn
 refine ⟨⟨⟨hbx,?_,Tm.own_low ho,?_⟩,fun b hD=>?_⟩,hmm,fun b hb2=>?_⟩
 ·rw [hl,hc]
  exact Tm.own_keep h.in_.nodes fun b hb2=>hh b (.inr (.inl hb2)) fun e=>h.np.1 (e ▸ hb2)
 ·rw [hd]
  exact h.in_.data.keep hm.size fun b hD=>hh b (.inr (.inr (.inr hD))) (h.apart b hD).2.1
 ·obtain ⟨k1,k2,k3,_⟩:=h.apart b hD
  exact ⟨Nat.lt_of_lt_of_le k1 hm.size,k2,k3,own_new_ne ho k1⟩
 ·rcases hb2 with h2|h2|h2|h2
  ·exact .inl (.inl h2)
  ·exact .inl (.inr (.inl h2))
  ·exact .inr (Tm.oB ho h2).1
  ·exact .inl (.inr (.inr (.inr h2)))
theorem RA.nodes (h:RA p nv dv ev D t w) (hm:OnlyP p w w') (hbx:Blk w' p 84 [nv',dv,ev]) (ho:w'.ownsRow w.heap.size 59 6 nv' t'.length (ndCells t')) (hf:Tr.flat t'=Tr.flat t) (hd:t'.map (·.data)=t.map (·.data)) :
    Left p t' (RS p nv ev D) w w' nv' dv ev D:=by
 obtain ⟨hmm,hh⟩:=h.only hm
 refine ⟨⟨⟨hbx,Tm.own_low ho,?_,?_⟩,fun b hD=>?_⟩,hmm,fun b hb2=>?_⟩
 ·rw [hf]
  exact Tm.own_keep h.in_.ents fun b hb2=>hh b (.inr (.inr (.inl hb2))) fun e=>h.np.2.1 (e ▸ hb2)
 ·rw [hd]
  exact h.in_.data.keep hm.size fun b hD=>hh b (.inr (.inr (.inr hD))) (h.apart b hD).2.1
 ·obtain ⟨k1,k2,_,k3⟩:=h.apart b hD
  exact ⟨Nat.lt_of_lt_of_le k1 hm.size,k2,own_new_ne ho k1,k3⟩
 ·rcases hb2 with h2|h2|h2|h2
  ·exact .inl (.inl h2)
  ·exact .inr (Tm.oB ho h2).1
  ·exact .inl (.inr (.inr (.inl h2)))
  ·exact .inl (.inr (.inr (.inr h2)))
def DC (w:World) (D:Nat→Prop) (L:List Bs) (xs:List Value):Prop:=xs.length=L.length∧∀ (j:Nat) (y:Bs),L[j]?=some y→∃ A c,xs[j]?=some (Value.slice A y.length c)∧y.length≤c∧Rd w A y∧∀ b,A.map (·.block)=some b→D b
theorem DC.one {L:List Bs} {xs:List Value} (h:DC w D L xs):∀ u ∈ xs,u.oneCell'=true:=fun u hu=>by
 obtain ⟨j,hj,rfl⟩:=List.getElem_of_mem hu
 obtain ⟨A,c,h1,_⟩:=h.2 j (L[j]'(by have:=h.1;omega)) (List.getElem?_eq_getElem _)
 rw [List.getElem?_eq_getElem hj] at h1
 injection h1 with h1
 rw [h1];rfl
theorem DC.take {L:List Bs} {xs:List Value} (h:DC w D L xs) (m:Nat):DC w D (L.take m) (xs.take m):=by
 refine ⟨by rw [List.length_take,List.length_take,h.1],fun j y hj=>?_⟩
 rw [List.getElem?_take] at hj
 split at hj
 ·rename_i hm
  obtain ⟨A,c,h1,h2⟩:=h.2 j y hj
  exact ⟨A,c,by rw [List.getElem?_take,if_pos hm];exact h1,h2⟩
 ·cases hj
theorem DC.drop {L:List Bs} {xs:List Value} (h:DC w D L xs) (m:Nat):DC w D (L.drop m) (xs.drop m):=by
 refine ⟨by rw [List.length_drop,List.length_drop,h.1],fun j y hj=>?_⟩
 rw [List.getElem?_drop] at hj
 obtain ⟨A,c,h1,h2⟩:=h.2 _ y hj
 exact ⟨A,c,by rw [List.getElem?_drop];exact h1,h2⟩
theorem DC.app {L M:List Bs} {xs ys:List Value} (h:DC w D L xs) (k:DC w D M ys):DC w D (L++M) (xs++ys):=by
 refine ⟨by rw [List.length_append,List.length_append,h.1,k.1],fun j y hj=>?_⟩
 by_cases hjl:j<L.length
 ·rw [List.getElem?_append_left hjl] at hj
  rw [List.getElem?_append_left (by rw [h.1];exact hjl)]
  exact h.2 j y hj
 ·rw [List.getElem?_append_right (by omega)] at hj
  rw [List.getElem?_append_right (by have:=h.1;omega),h.1]
  exact k.2 _ y hj
theorem DC.nil1 (w:World) (D:Nat→Prop):DC w D [[]] [.slice none 0 0]:=⟨rfl,fun j y hj=>by
 have hj0:j=0:=by have:=(List.getElem?_eq_some_iff.1 hj).1;simpa using this
 subst hj0
 obtain rfl:([]:Bs)=y:=by simpa using hj
 exact ⟨none,0,rfl,Nat.le_refl _,Rd.nil _ _,fun b hb=>by cases hb⟩⟩
theorem DC.below {L:List Bs} {xs:List Value} (h:DC w D L xs) (hb:Below w.heap.size w w'):DC w' D L xs:=⟨h.1,fun j y hj=>by
 obtain ⟨A,c,h1,h2,h3,h4⟩:=h.2 j y hj
 exact ⟨A,c,h1,h2,h3.below hb,h4⟩⟩
theorem RIn.dc {L:List Bs} (h:LOwn 0 noOld dv L D w):∃ xs,w.ownsRow 0 39 1 dv L.length xs∧DC w D L xs∧(∀ b,dv.ownBlock=some b→D b):=by
 obtain ⟨xs,h1,h2,h3⟩:=h
 refine ⟨xs,h1,⟨by have:=h1.1;omega,fun j y hj=>?_⟩,h2⟩
 obtain ⟨A,c,h4,h5,h6⟩:=h3 j y hj
 rcases h6 with h6|h6
 ·exact ⟨A,c,h4,h5,h6.1,fun b hb=>(h6.2 b hb).1⟩
 ·exact h6.elim
theorem RA.rows (h:RA p nv dv ev D t w) (hm:OnlyP p w w') (hbx:Blk w' p 84 [nv,dv',ev]) {xs:List Value} (ho:w'.ownsRow w.heap.size 39 1 dv' t'.length xs) (hx:DC w D (t'.map (·.data)) xs) (hf:Tr.flat t'=Tr.flat t) (hn:t'.map (·.nd)=t.map (·.nd)) :
    Left p t' (RS p nv ev D) w w' nv dv' ev (fun b=>D b∨dv'.ownBlock=some b):=by
 obtain ⟨hmm,hh⟩:=h.only hm
 obtain ⟨hc,hl⟩:=nd_cells hn
 have hlt:∀ {b:Nat},RS p nv ev D b→b<w.heap.size:=fun hb=>h.lt hb
 refine ⟨⟨⟨hbx,?_,?_,?_⟩,fun b hD=>?_⟩,hmm,fun b hb2=>?_⟩
 ·rw [hl,hc]
  exact Tm.own_keep h.in_.nodes fun b hb2=>hh b (.inr (.inl hb2)) fun e=>h.np.1 (e ▸ hb2)
 ·rw [hf]
  exact Tm.own_keep h.in_.ents fun b hb2=>hh b (.inr (.inr (.inl hb2))) fun e=>h.np.2.1 (e ▸ hb2)
 ·refine ⟨xs,?_,fun b hb2=>.inr hb2,fun j y hj=>?_⟩
  ·rw [List.length_map]
   exact Tm.own_low ho
  ·obtain ⟨A,c,k1,k2,k3,k4⟩:=hx.2 j y hj
   refine ⟨A,c,k1,k2,.inl ⟨?_,fun b hA=>⟨.inl (k4 b hA),own_new_ne ho (h.apart b (k4 b hA)).1⟩⟩⟩
   exact k3.keep (fun q hq hA=>World.cell?_of_block (hh _ (.inr (.inr (.inr (k4 _ hA)))) (h.apart _ (k4 _ hA)).2.1)) hm.size
 ·rcases hD with hD|hD
  ·obtain ⟨k1,k2,k3,k4⟩:=h.apart b hD
   exact ⟨Nat.lt_of_lt_of_le k1 hm.size,k2,k3,k4⟩
  ·obtain ⟨k1,k2,_⟩:=Tm.oB ho hD
   have hpl:=h.in_.box.lt
   refine ⟨k2,by omega,fun e=>?_,fun e=>?_⟩
   ·have:=hlt (.inr (.inl e));omega
   ·have:=hlt (.inr (.inr (.inl e)));omega
 ·rcases hb2 with h2|h2|h2|h2|h2
  ·exact .inl (.inl h2)
  ·exact .inl (.inr (.inl h2))
  ·exact .inl (.inr (.inr (.inl h2)))
  ·exact .inl (.inr (.inr (.inr h2)))
  ·exact .inr (Tm.oB ho h2).1
theorem RA.both (h:RA p nv dv ev D t w) (hm:OnlyP p w w') (hbx:Blk w' p 84 [nv',dv',ev]) (hon:w'.ownsRow w.heap.size 59 6 nv' t'.length (ndCells t')) {xs:List Value} (ho:w'.ownsRow w.heap.size 39 1 dv' t'.length xs) (hx:DC w D (t'.map (·.data)) xs) (hf:Tr.flat t'=Tr.flat t) :
    Left p t' (RS p nv ev D) w w' nv' dv' ev (fun b=>D b∨dv'.ownBlock=some b):=by
 obtain ⟨hmm,hh⟩:=h.only hm
 have hlt:∀ {b:Nat},RS p nv ev D b→b<w.heap.size:=fun hb=>h.lt hb
 refine ⟨⟨⟨hbx,Tm.own_low hon,?_,?_⟩,fun b hD=>?_⟩,hmm,fun b hb2=>?_⟩
 ·rw [hf]
  exact Tm.own_keep h.in_.ents fun b hb2=>hh b (.inr (.inr (.inl hb2))) fun e=>h.np.2.1 (e ▸ hb2)
 ·refine ⟨xs,?_,fun b hb2=>.inr hb2,fun j y hj=>?_⟩
  ·rw [List.length_map]
   exact Tm.own_low ho
  ·obtain ⟨A,c,k1,k2,k3,k4⟩:=hx.2 j y hj
   refine ⟨A,c,k1,k2,.inl ⟨?_,fun b hA=>⟨.inl (k4 b hA),own_new_ne ho (h.apart b (k4 b hA)).1⟩⟩⟩
   exact k3.keep (fun q hq hA=>World.cell?_of_block (hh _ (.inr (.inr (.inr (k4 _ hA)))) (h.apart _ (k4 _ hA)).2.1)) hm.size
 ·rcases hD with hD|hD
  ·obtain ⟨k1,k2,k3,k4⟩:=h.apart b hD
   exact ⟨Nat.lt_of_lt_of_le k1 hm.size,k2,own_new_ne hon k1,k4⟩
  ·obtain ⟨k1,k2,cs,k5⟩:=Tm.oB ho hD
   have hpl:=h.in_.box.lt
   refine ⟨k2,by omega,fun e=>?_,fun e=>?_⟩
   ·obtain ⟨_,_,cs2,k6⟩:=Tm.oB hon e
    exact absurd rfl (k5.ne_ k6 (by decide))
   ·have:=hlt (.inr (.inr (.inl e)));omega
 ·rcases hb2 with h2|h2|h2|h2|h2
  ·exact .inl (.inl h2)
  ·exact .inr (Tm.oB hon h2).1
  ·exact .inl (.inr (.inr (.inl h2)))
  ·exact .inl (.inr (.inr (.inr h2)))
  ·exact .inr (Tm.oB ho h2).1
end Rf
end Go.Proofs.YtjoedamiilgajaaGreat
namespace Go.Proofs.YtjoedamiilgajaaGreat
open Go.RowKit Rc
open Tr (Nm En T)
namespace Rf
theorem flCells_app (a b:List Ent):flCells (a++b)=flCells a++flCells b:=by simp [flCells]
theorem row_length {α:Type} (f:α→List Value) (k:Nat) (hk:∀ a,(f a).length=k):∀ l:List α,(l.flatMap f).length=l.length*k
 | []=>by simp
 | x :: l=>by rw [List.flatMap_cons,List.length_append,row_length f k hk l,hk,List.length_cons,Nat.add_mul];omega
theorem row_take {α:Type} (f:α→List Value) (k:Nat) (hk:∀ a,(f a).length=k):∀ (l:List α) (m:Nat),(l.flatMap f).take (m*k)=(l.take m).flatMap f
 | [],m=>by simp
 | x :: l,0=>by simp
 | x :: l,m+1=>by
   rw [List.take_succ_cons,List.flatMap_cons,List.flatMap_cons,show (m+1)*k=(f x).length+m*k by rw [hk,Nat.add_mul];omega,List.take_length_add_append,row_take f k hk l m]
theorem row_drop {α:Type} (f:α→List Value) (k:Nat) (hk:∀ a,(f a).length=k):∀ (l:List α) (m:Nat),(l.flatMap f).drop (m*k)=(l.drop m).flatMap f
 | [],m=>by simp
 | x :: l,0=>by simp
 | x :: l,m+1=>by
   rw [List.drop_succ_cons,List.flatMap_cons,show (m+1)*k=(f x).length+m*k by rw [hk,Nat.add_mul];omega,List.drop_length_add_append,row_drop f k hk l m]
theorem flCells_length (l:List Ent):(flCells l).length=l.length*3:=row_length _ 3 (fun _=>rfl) l
theorem flCells_take (l:List Ent) (m:Nat):(flCells l).take (m*3)=flCells (l.take m):=row_take _ 3 (fun _=>rfl) l m
theorem flCells_drop (l:List Ent) (m:Nat):(flCells l).drop (m*3)=flCells (l.drop m):=row_drop _ 3 (fun _=>rfl) l m
theorem ndCells_length (l:T):(ndCells l).length=l.length*6:=row_length _ 6 (fun _=>rfl) l
theorem ndCells_take (l:T) (m:Nat):(ndCells l).take (m*6)=ndCells (l.take m):=row_take _ 6 (fun _=>rfl) l m
theorem ndCells_drop (l:T) (m:Nat):(ndCells l).drop (m*6)=ndCells (l.drop m):=row_drop _ 6 (fun _=>rfl) l m
theorem ndCells_app (a b:T):ndCells (a++b)=ndCells a++ndCells b:=by simp [ndCells]
theorem flCells_one (l:List Ent):∀ u ∈ flCells l,u.oneCell'=true:=by
 intro u hu
 simp only [flCells,List.mem_flatMap] at hu
 obtain ⟨x,_,hx⟩:=hu
 simp [flCell] at hx
 rcases hx with rfl|rfl|rfl <;> rfl
theorem ndCells_one (l:T):∀ u ∈ ndCells l,u.oneCell'=true:=by
 intro u hu
 simp only [ndCells,List.mem_flatMap] at hu
 obtain ⟨x,_,hx⟩:=hu
 simp [ndCell] at hx
 rcases hx with rfl|rfl|rfl|rfl|rfl|rfl <;> rfl
def crow (e:TypeId) (k n:Nat) (xs:List Value):Rc.Fact:=⟨fun x w S=>w.ownsRow 0 e k x n xs∧∀ b,x.ownBlock=some b→S b,fun _ _ _ _ h _ hb=>⟨Tm.own_keep h.1 fun b e=>hb b (h.2 b e),h.2⟩⟩
def cobj (T:TypeId) (g:Nat) (cs:List Value):Rc.Fact:=⟨fun _ w S=>Blk w g T cs∧S g,fun _ _ _ _ h _ hb=>⟨(hb g h.2).trans h.1,h.2⟩⟩
def cbox (T:TypeId) (g i:Nat) (cs:List Value) (e:TypeId) (k n:Nat) (xs:List Value):Rc.Fact :=
 ⟨fun _ w S=>S g∧∃ x,Blk w g T (cs.set i x)∧w.ownsRow 0 e k x n xs∧∀ b,x.ownBlock=some b→S b,fun _ _ _ _ h _ hb=>by
  obtain ⟨h1,x,h2,h3,h4⟩:=h
  exact ⟨h1,x,(hb g h1).trans h2,Tm.own_keep h3 fun b e=>hb b (h4 b e),h4⟩⟩
section
variable {F:Nat→Rc.Fact} {cons:List (Nat × Nat)} {E:Nat→(Nat→Value)→Value→Prop} {V:Nat→Value} {S:Nat→Nat→Prop} {j:Nat} {o:Oper} {b:Act} {w:World} {ty e:TypeId} {k by_:Nat} {z:Value}
theorem step_cnil (e:TypeId) (k:Nat) (hF:F j=crow e k 0 []) (hE:∀ v,E j V v) (hg:Rg.Open o V) (hrun:(execOp b.eval o).run Tryz.prog w=.ok (.value (.slice (some ⟨w.heap.size,0,none⟩) 0 0)) (w.alloc (.cells #[] e))):Rg.Dz Tryz.prog o V b w (Rc.Good F cons E V S j w):=by
 refine .of hg fun K hK=>?_
 unfold Oper.wp
 rw [hrun]
 exact hK _ _ ⟨fun b=>b=w.heap.size,(Mod.of_below (bN w _) _),by rw [hF];exact ⟨Tm.own_low (none_own w e k),fun b hb=>by simp [Value.ownBlock] at hb;exact hb.symm⟩,fun k hk=>⟨.inr (by omega),by rw [World.size_alloc];omega⟩,hE _⟩
theorem step_cone (e:TypeId) (k:Nat) (cs:List Value) (hk:cs.length=k) (hF:F j=crow e k 1 cs) (hE:∀ v,E j V v) (hg:Rg.Open o V) (hrun:(execOp b.eval o).run Tryz.prog w=.ok (.value (.slice (some ⟨w.heap.size,0,none⟩) 1 1)) (w.alloc (.cells cs.toArray e))):Rg.Dz Tryz.prog o V b w (Rc.Good F cons E V S j w):=by
 refine .of hg fun K hK=>?_
 unfold Oper.wp
 rw [hrun]
 exact hK _ _ ⟨fun b=>b=w.heap.size,(Mod.of_below (bN w _) _),by rw [hF];exact ⟨Tm.own_low (one_own w e cs k hk),fun b hb=>by simp [Value.ownBlock] at hb;exact hb.symm⟩,fun k hk=>⟨.inr (by omega),by rw [World.size_alloc];omega⟩,hE _⟩
theorem step_capp (R:RowTy ty e k z by_) {i n m cap N:Nat} {xs ys zs:List Value} {A:Option Addr} {s y:Operand} (hop:o.op=.call { callee:=.builtin .append,args:=#[s,y],argTypes:=#[ty,ty] }) (hs:b.eval s=V i) (hx:b.eval y=.slice A m cap) (hF:F j=crow e k N zs) (hi:(j,i) ∈ cons)
    (h1:(crow e k n xs).holds (V i) w (S i)) (hsrc:Src w A ys) (hl:ys.length=m*k) (hone:∀ u ∈ ys,u.oneCell'=true) (hn:n+m≤10000000) (hN:N=n+m) (hz:zs=xs++ys) (hE:∀ v,E j V v) (hg:Rg.Open o V):Rg.Dz Tryz.prog o V b w (Rc.Good F cons E V S j w):=by
 subst hN hz
 refine .of hg fun K hK=>?_
 obtain ⟨v',w',r1,r2,r3,r4⟩:=run_cat R (cap:=cap) o.type h1.1 hsrc hl hone hn (Nat.zero_le _)
 unfold Oper.wp
 simp [execOp,hop,resolve,invoke,builtin,hs,hx,r1,Result.andThen]
 refine hK v' w' ⟨fun b=>v'.ownBlock=some b,⟨r3.os,r3.tape,r3.output,r3.size,fun m hm hn=>r3.block m hm fun e=>hn ⟨i,hi,h1.2 m e.symm⟩⟩,by rw [hF];exact ⟨r2,fun b h=>h⟩,fun m hm=>⟨?_,(Tm.oB r2 hm).2.1⟩,hE _⟩
 rcases r4 with e|e
 ·exact .inl ⟨i,hi,h1.2 m (e ▸ hm)⟩
 ·rw [e] at hm;injection hm with hm;exact .inr (by omega)
theorem step_capp2 (R:RowTy ty e k z by_) {i i2 n m N:Nat} {xs ys zs:List Value} {s y:Operand} (hop:o.op=.call { callee:=.builtin .append,args:=#[s,y],argTypes:=#[ty,ty] }) (hs:b.eval s=V i) (hx:b.eval y=V i2) (hF:F j=crow e k N zs) (hi:(j,i) ∈ cons)
    (h1:(crow e k n xs).holds (V i) w (S i)) (h2:(crow e k m ys).holds (V i2) w (S i2)) (hone:∀ u ∈ ys,u.oneCell'=true) (hn:n+m≤10000000) (hN:N=n+m) (hz:zs=xs++ys) (hE:∀ v,E j V v) (hg:Rg.Open o V):Rg.Dz Tryz.prog o V b w (Rc.Good F cons E V S j w):=by
 obtain ⟨A,c,h3,h4,h5,h6⟩:=own_src h2.1
 exact step_capp R hop hs (hx.trans h3) hF hi h1 h5 h2.1.1 hone hn hN hz hE hg
theorem step_cput {T:TypeId} {g i n0 r n:Nat} {cs xs:List Value} (x:Value) (hV:V r=x) (hF:F j=cbox T g i cs e k n xs) (h0:(j,n0) ∈ cons) (hr:(j,r) ∈ cons) (hb0:(cobj T g cs).holds (V n0) w (S n0)) (h1:(crow e k n xs).holds (V r) w (S r)) (hne:e≠T)
    (hlt:∀ b,S r b→b<w.heap.size) (hE:∀ v,E j V v) (hg:Rg.Open o V) (h:(execOp b.eval o).run Tryz.prog w=.ok .skip (w.setCell ⟨g,i,none⟩ x)):Rg.Dz Tryz.prog o V b w (Rc.Good F cons E V S j w):=by
 subst hV
 obtain ⟨hb,hSg⟩:=hb0
 refine .of hg fun K hK=>?_
 unfold Oper.wp
 rw [h]
 have hgx:∀ b,(V r).ownBlock=some b→b≠g:=fun b hb2=>by
  obtain ⟨_,_,cs2,h3⟩:=Tm.oB h1.1 hb2
  rintro rfl
  unfold Blk at h3 hb
  rw [h3] at hb
  injection hb with hb
  injection hb with _ hb
  exact hne hb
 refine hK undef (w.setCell ⟨g,i,none⟩ (V r)) ⟨fun b=>b=g∨(V r).ownBlock=some b,⟨rfl,rfl,rfl,by simp [World.setCell],fun m hm hn=>Below.heap_setCell _ _ _ _ (fun e=>hn ⟨n0,h0,e ▸ hSg⟩)⟩,?_,fun m hm=>?_,hE _⟩
 ·rw [hF]
  exact ⟨.inl rfl,V r,hb.set_ i (V r),Tm.own_keep h1.1 fun b hb2=>Below.heap_setCell _ _ _ _ (hgx b hb2),fun b hb2=>.inr hb2⟩
 ·rcases hm with rfl|hm
  ·exact ⟨.inl ⟨n0,h0,hSg⟩,by have:=hb.lt;simpa [World.setCell] using this⟩
  ·exact ⟨.inl ⟨r,hr,h1.2 m hm⟩,by have:=hlt m (h1.2 m hm);simpa [World.setCell] using this⟩
end
theorem own_up {w:World} {B e k n:Nat} {v:Value} {xs:List Value} (h:w.ownsRow 0 e k v n xs) (hb:∀ b,v.ownBlock=some b→B≤b):w.ownsRow B e k v n xs:=by
 refine ⟨h.1,?_⟩
 rcases h.2 with h2|⟨g,cap,cur,rfl,_,h5⟩
 ·exact .inl h2
 ·exact .inr ⟨g,cap,cur,rfl,hb g rfl,h5⟩
theorem box_inv {T:TypeId} {g:Nat} {cs:List Value} {w:World} (h:Blk w g T cs) (F:Nat→Rc.Fact) (cons:List (Nat × Nat)) (n:Nat) (hF:F n=cobj T g cs) :
    Rc.Inv F cons (Rg.alias []) w.drew (fun b=>b=g) (fun i=>n≤i∧i<n+1) (fun _=>undef) (fun _ b=>b=g) w.drew:=by
 refine ⟨Mod.refl _ _,fun i hi=>?_,fun i b hi hb=>⟨?_,.inl hb⟩,fun i k b hi hk hne _=>?_,fun j _=>fun i f hm=>by simp at hm⟩
 ·obtain rfl:i=n:=by have:=hi.1;omega
  rw [hF];exact ⟨h,rfl⟩
 ·have e:b=g:=hb
  subst e
  exact h.lt
 ·have:=hi.1;have:=hk.1;omega
end Rf
end Go.Proofs.YtjoedamiilgajaaGreat
