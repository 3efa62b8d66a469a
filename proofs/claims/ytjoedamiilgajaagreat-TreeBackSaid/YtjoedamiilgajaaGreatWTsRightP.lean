/-
  OWN WORK. Trees: plain mathematics: nodes that were read are a tree just if they lead, are linked and are joined.
-/
import Derived.Test.YtjoedamiilgajaaGreatW17
import Derived.Test.YtjoedamiilgajaaGreatW18
import Derived.Test.YtjoedamiilgajaaGreatW01
namespace Go.Proofs.YtjoedamiilgajaaGreat
open Go.RowKit
namespace Tr
variable {t:T}
def Raw (t:T):Prop:=∀ e ∈ t,e.nd.Right∧e.nd.size=(e.data.length:Nat)∧e.names.length≤65535∧Rise e.names∧∀ m ∈ e.names,Pa.good m.1=true∧∃ k:Nat,m.2=k∧k≤65535
def headB:T→Bool
 | []=>false
 | e :: _=>(e.nd.id==0)&&(e.nd.kind==2)
def UpTo (t:T) (j:Nat):Prop:=∀ i,i+1<j→∀ a b,t[i]?=some a→t[i+1]?=some b→a.nd.id<b.nd.id
theorem UpTo.zero (t:T):UpTo t 0:=fun i h=>by omega
theorem UpTo.one (t:T):UpTo t 1:=fun i h=>by omega
theorem UpTo.next {j:Nat} (h:UpTo t (j+1)) (h1:∀ a b,t[j]?=some a→t[j+1]?=some b→a.nd.id<b.nd.id):UpTo t (j+2):=fun i hi a b ha hb=>by
 by_cases hij:i=j
 ·subst hij;exact h1 a b ha hb
 ·exact h i (by omega) a b ha hb
theorem UpTo.far (h:UpTo t t.length):∀ (d i:Nat) (a b:En),t[i]?=some a→t[i+d+1]?=some b→a.nd.id<b.nd.id
 | 0,i,a,b,ha,hb=>by
   obtain ⟨h1,_⟩:=List.getElem?_eq_some_iff.1 hb
   exact h i (by omega) a b ha hb
 | d+1,i,a,b,ha,hb=>by
   obtain ⟨h1,_⟩:=List.getElem?_eq_some_iff.1 hb
   obtain ⟨c,hc⟩:∃ c,t[i+d+1]?=some c:=⟨_,List.getElem?_eq_getElem (by omega)⟩
   have h2:=UpTo.far h d i a c ha hc
   have h3:=h (i+d+1) (by omega) c b hc hb
   omega
theorem UpTo.rise (h:UpTo t t.length):t.Pairwise fun a b=>a.nd.id<b.nd.id:=by
 rw [List.pairwise_iff_getElem]
 intro i j hi hj hij
 exact UpTo.far h (j-i-1) i _ _ (List.getElem?_eq_getElem hi) (by rw [show i+(j-i-1)+1=j by omega];exact List.getElem?_eq_getElem hj)
theorem up_of (h:t.Pairwise fun a b=>a.nd.id<b.nd.id) (j:Nat):UpTo t j:=fun i _ a b ha hb=>by
 obtain ⟨h1,h2⟩:=List.getElem?_eq_some_iff.1 ha
 obtain ⟨h3,h4⟩:=List.getElem?_eq_some_iff.1 hb
 have:=List.pairwise_iff_getElem.1 h i (i+1) h1 h3 (by omega)
 rw [h2,h4] at this
 exact this
theorem fT_all (t:T) (x:Int):Tm.fT t [] x=((Tr.count t x:Nat):Int)+(if x=0 then 1 else 0):=by
 unfold Tm.fT Tm.upN
 simp
 omega
theorem half_of (hr:Raw t) (h64:t.length≤64) (hh:headB t=true) (hu:UpTo t t.length) (hl:t.all (Tm.leadsB t)=true) (hk:t.all (Tm.linkB t)=true):Half t:=by
 have hL:∀ e ∈ t,Tm.leadsB t e=true:=List.all_eq_true.1 hl
 have hK:∀ e ∈ t,Tm.linkB t e=true:=List.all_eq_true.1 hk
 have hfile:∀ e ∈ t,e.nd.kind=1→e.names=[]:=fun e he h1=>by
  have:=hL e he
  unfold Tm.leadsB at this
  rw [if_pos h1] at this
  exact List.isEmpty_iff.1 this
 refine ⟨?_,hu.rise,h64,fun e he=>?_,fun e he n hn=>?_,fun e he=>?_,fun e he h2=>?_,fun e he h2=>?_⟩
 ·cases t with
  | nil=>cases hh
  | cons r rest =>
    unfold headB at hh
    simp only [Bool.and_eq_true,beq_iff_eq] at hh
    exact ⟨r,rest,rfl,hh.1,hh.2⟩
 ·obtain ⟨h1,h2,_,h4,h5⟩:=hr e he
  exact ⟨h1,h2,h4,fun n hn=>(h5 n hn).1,hfile e he⟩
 ·have h1:=hL e he
  unfold Tm.leadsB at h1
  by_cases hk1:e.nd.kind=1
  ·rw [hfile e he hk1] at hn;cases hn
  ·rw [if_neg hk1] at h1
   have h2:=List.all_eq_true.1 h1 n hn
   unfold Tm.nameB at h2
   simp only [Bool.and_eq_true,Bool.not_eq_true',beq_eq_false_iff_ne] at h2
   exact ⟨h2.1,h2.2⟩
 ·have h1:=hK e he
  unfold Tm.linkB at h1
  simp only [Bool.and_eq_true,beq_iff_eq] at h1
  rw [← h1.1,fT_all]
 ·have h1:=hK e he
  unfold Tm.linkB at h1
  simp only [Bool.and_eq_true,beq_iff_eq,Bool.not_eq_true',Bool.or_eq_false_iff,h2] at h1
  simpa using h1.2.1
 ·have h1:=hK e he
  unfold Tm.linkB at h1
  simp only [Bool.and_eq_true,beq_iff_eq,Bool.not_eq_true',Bool.or_eq_false_iff,h2] at h1
  simpa using h1.2.2
theorem Good.head (h:Good t):headB t=true:=by
 obtain ⟨r,rest,rfl,h1,h2⟩:=h.root
 unfold headB
 simp [h1,h2]
theorem Good.lead (h:Good t):t.all (Tm.leadsB t)=true:=List.all_eq_true.2 fun e he=>by
 unfold Tm.leadsB
 split
 ·rename_i h1
  rw [(h.each e he).file h1];rfl
 ·refine List.all_eq_true.2 fun n hn=>?_
  obtain ⟨h1,h2⟩:=h.leads e he n hn
  unfold Tm.nameB
  simp [h1,h2]
theorem Good.link_ (h:Good t):t.all (Tm.linkB t)=true:=List.all_eq_true.2 fun e he=>by
 have h1:=h.linked e he
 have h2:=h.dirs e he
 have h3:=h.shut e he
 unfold Tm.linkB
 rw [fT_all,h1]
 simp only [beq_self_eq_true,Bool.true_and,Bool.not_eq_true',Bool.or_eq_false_iff,Bool.and_eq_false_iff,Bool.not_eq_false',beq_iff_eq,beq_eq_false_iff_ne]
 refine ⟨?_,?_⟩
 ·by_cases hk:e.nd.kind=2
  ·exact .inr (h2 hk)
  ·exact .inl hk
 ·by_cases hs:e.nd.shut=true
  ·exact .inr (h3 hs)
  ·exact .inl (by simpa using hs)
/-! Many nodes, one behind the other. -/
theorem ldEns_add:∀ (j k:Nat) (s:Co.Rs),ldEns (j+k) s=(ldEns j s).bind fun r=>(ldEns k r.2).map fun q=>(r.1++q.1,q.2)
 | 0,k,s=>by
   rw [Nat.zero_add]
   show _=(ldEns k s).map fun q=>([]++q.1,q.2)
   cases ldEns k s <;> rfl
 | j+1,k,s=>by
   rw [show j+1+k=(j+k)+1 by omega]
   show (ldEn s).bind (fun r=>(ldEns (j+k) r.2).map fun q=>(r.1 :: q.1,q.2))=((ldEn s).bind fun r=>(ldEns j r.2).map fun q=>(r.1 :: q.1,q.2)).bind _
   cases hE:ldEn s with
   | none=>rfl
   | some r =>
     show (ldEns (j+k) r.2).map _=((ldEns j r.2).map _).bind _
     rw [ldEns_add j k r.2]
     cases ldEns j r.2 with
     | none=>rfl
     | some q =>
       show ((ldEns k q.2).map _).map _=(ldEns k q.2).map _
       cases ldEns k q.2 <;> rfl
theorem ldEns_succ (n:Nat) (s:Co.Rs):ldEns (n+1) s=(ldEn s).bind fun r=>(ldEns n r.2).map fun q=>(r.1 :: q.1,q.2):=rfl
theorem ldEns_zero (s:Co.Rs):ldEns 0 s=some ([],s):=rfl
theorem ldEns_one {j:Nat} {s s1 s2:Co.Rs} {t:T} {e:En} (h:ldEns j s=some (t,s1)) (h1:ldEn s1=some (e,s2)):ldEns (j+1) s=some (t++[e],s2):=by
 rw [ldEns_add,h,Option.bind_some]
 dsimp only
 rw [show (1:Nat)=0+1 from rfl,ldEns_succ,h1,Option.bind_some]
 dsimp only
 rw [ldEns_zero,Option.map_some,Option.map_some]
theorem ldEns_no {j n:Nat} {s s1:Co.Rs} {t:T} (hj:j<n) (h:ldEns j s=some (t,s1)) (h1:ldEn s1=none):ldEns n s=none:=by
 obtain ⟨k,rfl⟩:∃ k,n=j+(k+1):=⟨n-j-1,by omega⟩
 rw [ldEns_add,h,Option.bind_some]
 dsimp only
 rw [ldEns_succ,h1,Option.bind_none,Option.map_none]
theorem save_reads (h:Good t) (hs:Slim t):Co.num 2 ⟨save t,0⟩=(t.length,⟨t.flatMap enBytes,0⟩)∧ldEns t.length ⟨t.flatMap enBytes,0⟩=some (t,⟨[],0⟩):=by
 have hf:=h.few
 constructor
 ·unfold save
  rw [Co.num_short,Nat.mod_eq_of_lt (by omega)]
 ·have:=ldEns_back t [] fun e he=>⟨h.each e he,hs e he,h.ids he⟩
  rw [List.append_nil] at this
  exact this
theorem fin_zero {s:Co.Rs} (h:Co.fin s=0):s.why=0∧s.rem=[]:=by
 unfold Co.fin at h
 by_cases h0:s.why=0
 ·rw [if_neg (by simpa using h0)] at h
  refine ⟨h0,?_⟩
  cases hr:s.rem with
  | nil=>rfl
  | cons a r=>rw [hr,if_pos (by simp)] at h;cases h
 ·rw [if_pos h0] at h
  exact absurd h h0
theorem reads_save {n:Nat} {b:Bs} {s s':Co.Rs} (hn:Co.num 2 ⟨b,0⟩=(n,s)) (hl:ldEns n s=some (t,s')) (hf:Co.fin s'=0):save t=b∧Slim t∧Raw t∧t.length=n:=by
 obtain ⟨f1,f2⟩:=fin_zero hf
 obtain ⟨h1,h2,h3,h4⟩:=ldEns_inv n s t s' hl f1
 obtain ⟨k1,k2,k3⟩:=Co.short_inv ⟨b,0⟩ (by rw [hn];exact h1)
 rw [hn] at k2 k3
 refine ⟨?_,fun e he=>(h4 e he).2.2.1,h4,h2⟩
 unfold save
 rw [h2]
 have k4:b=Co.wShort n++s.rem:=k3
 rw [k4,h3,f2,List.append_nil]
end Tr
end Go.Proofs.YtjoedamiilgajaaGreat
