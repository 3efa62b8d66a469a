/-
  OWN WORK. CpBase, CpBack, BaIn64, NoPure, PaPure, BaStr, BaText, BaStrs, TrPure, TrLaw, BaBig, Rc, CpClone, BaRgStr
-/
import Derived.Test.YtjoedamiilgajaaGreatQ01
import Derived.WalkSpells
import Derived.Lib.SliceRun
namespace Go.Proofs.YtjoedamiilgajaaGreat
open Go.RowKit
namespace Co
theorem bits_or64 (x b:Nat) (hb:b<256):bits .or .u64 (IntKind.u64.wrap ((x:Int)*(256:Int))) (b:Int)=(((x*256+b) % 18446744073709551616:Nat):Int):=by
 show IntKind.u64.wrap ((BitVec.ofInt 64 _ ||| BitVec.ofInt 64 _).toNat:Int)=_
 obtain ⟨y,hy⟩:∃ y:Nat,y=(x % 72057594037927936) <<< 8:=⟨_,rfl⟩
 have hy2:y=(x % 72057594037927936)*256:=by rw [hy,Nat.shiftLeft_eq]
 have hx:IntKind.u64.wrap ((x:Int)*(256:Int))=(y:Int):=by rw [IntKind.wrap_u64];omega
 have hor:y ||| b=y+b:=by rw [hy];exact (Nat.shiftLeft_add_eq_or_of_lt (by omega:b<2 ^ 8) _).symm
 rw [hx,BitVec.ofInt_natCast,BitVec.ofInt_natCast,BitVec.toNat_or,BitVec.toNat_ofNat,BitVec.toNat_ofNat,Nat.mod_eq_of_lt (by omega),Nat.mod_eq_of_lt (by omega),hor]
 rw [IntKind.wrap_u64]
 omega
theorem beVal_snoc (l:List UInt8) (k:Nat) (h:k<l.length):beVal (l.take (k+1))=(beVal (l.take k)*256+(l.getD k 0).toNat) % 18446744073709551616:=by
 rw [List.take_succ_eq_append_getElem h,beVal,beVal,List.foldl_append]
 simp only [List.foldl_cons,List.foldl_nil,List.getD,List.getElem?_eq_getElem h,Option.getD_some]
end Co
theorem own_up {w:World} {B n:Nat} {v:Value} {xs:List Value} (h:w.ownsRow 0 5 1 v n xs) (hb:∀ b,v.ownBlock=some b→B≤b):w.ownsRow B 5 1 v n xs:=by
 refine ⟨h.1,?_⟩
 rcases h.2 with h2|⟨g,cap,cur,rfl,h4,h5⟩
 ·exact .inl h2
 ·exact .inr ⟨g,cap,cur,rfl,hb g rfl,h5⟩
theorem own_nil (w:World) (B:Nat):w.ownsRow B 5 1 (.slice none 0 0) 0 (Lib.byteCells []):=⟨rfl,.inl ⟨rfl,rfl⟩⟩
theorem oF {w:World} {B:Nat} {v:Value} {l:List UInt8} (h:w.ownsRow B 5 1 v l.length (Lib.byteCells l)):∃ X c,v=.slice X l.length c∧l.length≤c∧Rd w X l:=bRow_form (own_base h)
theorem num_small1 (s:Co.Rs):(Co.num 1 s).1<256:=by
 unfold Co.num Co.raw
 split
 ·exact (by decide:Co.beVal []<256)
 ·split
  ·exact (by decide:Co.beVal []<256)
  ·show Co.beVal (s.rem.take 1)<256
   rcases s.rem with _|⟨a,t⟩
   ·decide
   ·have:=a.toNat_lt
    simp [Co.beVal]
    omega
theorem num_small2 (s:Co.Rs):(Co.num 2 s).1<65536:=by
 unfold Co.num Co.raw
 split
 ·exact (by decide:Co.beVal []<65536)
 ·split
  ·exact (by decide:Co.beVal []<65536)
  ·show Co.beVal (s.rem.take 2)<65536
   rcases s.rem with _|⟨a,_|⟨b,t⟩⟩
   ·decide
   ·have:=a.toNat_lt
    simp [Co.beVal]
    omega
   ·have:=a.toNat_lt
    have:=b.toNat_lt
    simp [Co.beVal]
    omega
theorem one_eq (x:Nat):((x:Int)==1)=decide (x=1):=by rw [Bool.eq_iff_iff];simp;omega
end Go.Proofs.YtjoedamiilgajaaGreat
namespace Go.Proofs.YtjoedamiilgajaaGreat
open Go.RowKit
namespace Co
theorem raw_inv (k:Nat) (s:Rs) (hk:1≤k) (h:(raw (k:Int) s).2.why=0):s.why=0∧(raw (k:Int) s).1.length=k∧s.rem=(raw (k:Int) s).1++(raw (k:Int) s).2.rem:=by
 unfold raw at h ⊢
 by_cases h1:s.why≠0∨(k:Int)<1
 ·rw [if_pos h1] at h
  rcases h1 with h1|h1
  ·exact absurd h h1
  ·omega
 ·rw [if_neg h1] at h ⊢
  by_cases h2:(s.rem.length:Int)<(k:Int)
  ·rw [if_pos h2] at h
   exact absurd h (by simp)
  ·rw [if_neg h2] at h ⊢
   refine ⟨h,?_,?_⟩
   ·show (s.rem.take (k:Int).toNat).length=k
    rw [List.length_take];omega
   ·show s.rem=s.rem.take (k:Int).toNat++s.rem.drop (k:Int).toNat
    rw [List.take_append_drop]
theorem num_inv (k:Nat) (s:Rs) (hk:1≤k) (h:(num (k:Int) s).2.why=0):s.why=0∧∃ x:List UInt8,x.length=k∧(num (k:Int) s).1=beVal x∧s.rem=x++(num (k:Int) s).2.rem:=by
 obtain ⟨h1,h2,h3⟩:=raw_inv k s hk h
 exact ⟨h1,_,h2,rfl,h3⟩
theorem byte_inv (s:Rs) (h:(num 1 s).2.why=0):s.why=0∧(num 1 s).1<256∧s.rem=wByte (num 1 s).1++(num 1 s).2.rem:=by
 obtain ⟨h1,x,h2,h3,h4⟩:=num_inv 1 s (by omega) h
 have h5:(num 1 s).1=beVal x:=h3
 have h6:s.rem=x++(num 1 s).2.rem:=h4
 match x,h2 with
 | [a],_ =>
   have ha:=a.toNat_lt
   have e:beVal [a]=a.toNat:=by
    simp only [beVal,List.foldl_cons,List.foldl_nil]
    omega
   rw [e] at h5
   refine ⟨h1,by omega,?_⟩
   rw [h6,h5]
   simp [wByte]
theorem short_inv (s:Rs) (h:(num 2 s).2.why=0):s.why=0∧(num 2 s).1<65536∧s.rem=wS (num 2 s).1++(num 2 s).2.rem:=by
 obtain ⟨h1,x,h2,h3,h4⟩:=num_inv 2 s (by omega) h
 have h5:(num 2 s).1=beVal x:=h3
 have h6:s.rem=x++(num 2 s).2.rem:=h4
 match x,h2 with
 | [a,b],_ =>
   have ha:=a.toNat_lt
   have hb:=b.toNat_lt
   have e:beVal [a,b]=a.toNat*256+b.toNat:=by
    simp only [beVal,List.foldl_cons,List.foldl_nil]
    omega
   rw [e] at h5
   refine ⟨h1,by omega,?_⟩
   rw [h6,h5]
   have e1:UInt8.ofNat ((a.toNat*256+b.toNat) / 256)=a:=by
    apply UInt8.toNat_inj.1
    rw [UInt8.toNat_ofNat']
    omega
   have e2:UInt8.ofNat (a.toNat*256+b.toNat)=b:=by
    apply UInt8.toNat_inj.1
    rw [UInt8.toNat_ofNat']
    omega
   simp only [wS,e1,e2]
theorem long_inv (s:Rs) (h:(num 8 s).2.why=0):s.why=0∧(num 8 s).1≤18446744073709551615∧s.rem=wLong (num 8 s).1++(num 8 s).2.rem:=by
 obtain ⟨h1,x,h2,h3,h4⟩:=num_inv 8 s (by omega) h
 have h5:(num 8 s).1=beVal x:=h3
 have h6:s.rem=x++(num 8 s).2.rem:=h4
 match x,h2 with
 | [a0,a1,a2,a3,a4,a5,a6,a7],_ =>
   have b0:=a0.toNat_lt
   have b1:=a1.toNat_lt
   have b2:=a2.toNat_lt
   have b3:=a3.toNat_lt
   have b4:=a4.toNat_lt
   have b5:=a5.toNat_lt
   have b6:=a6.toNat_lt
   have b7:=a7.toNat_lt
   obtain ⟨v,hv⟩:∃ v,v=beVal [a0,a1,a2,a3,a4,a5,a6,a7]:=⟨_,rfl⟩
   have e:v=((((((a0.toNat*256+a1.toNat)*256+a2.toNat)*256+a3.toNat)*256+a4.toNat)*256+a5.toNat)*256+a6.toNat)*256+a7.toNat:=by
    rw [hv]
    simp only [beVal,List.foldl_cons,List.foldl_nil]
    omega
   rw [← hv] at h5
   refine ⟨h1,by omega,?_⟩
   rw [h6,h5,wLong_is]
   have f:∀ (d:Nat) (a:UInt8),v / d % 256=a.toNat→UInt8.ofNat (v / d)=a:=fun d a hh=>by
    apply UInt8.toNat_inj.1
    rw [UInt8.toNat_ofNat']
    exact hh
   have f7:UInt8.ofNat v=a7:=by
    apply UInt8.toNat_inj.1
    rw [UInt8.toNat_ofNat']
    omega
   rw [f 72057594037927936 a0 (by omega),f 281474976710656 a1 (by omega),f 1099511627776 a2 (by omega),f 4294967296 a3 (by omega),f 16777216 a4 (by omega),f 65536 a5 (by omega),f 256 a6 (by omega),f7]
theorem flag_inv (s:Rs) (h:(flag s).2.why=0):s.why=0∧s.rem=wFlag (flag s).1++(flag s).2.rem:=by
 by_cases h1:1<(num 1 s).1
 ·exfalso
  unfold flag at h
  rw [if_pos h1] at h
  exact absurd h (by simp)
 ·have e:flag s=(decide ((num 1 s).1=1),(num 1 s).2):=by unfold flag;rw [if_neg h1]
  rw [e] at h ⊢
  obtain ⟨h2,h3,h4⟩:=byte_inv s h
  refine ⟨h2,?_⟩
  rw [h4]
  show wByte _++_=wFlag (decide ((num 1 s).1=1))++_
  congr 1
  rcases Nat.lt_or_ge (num 1 s).1 1 with h5|h5
  ·have h6:(num 1 s).1=0:=by omega
   rw [h6];rfl
  ·have h6:(num 1 s).1=1:=by omega
   rw [h6];rfl
theorem fin_inv (s:Rs) (h:fin s=0):s.why=0∧s.rem=[]:=by
 unfold fin at h
 by_cases h1:s.why=0
 ·rw [if_neg (by simpa using h1)] at h
  refine ⟨h1,?_⟩
  by_cases h2:0<s.rem.length
  ·rw [if_pos h2] at h
   exact absurd h (by decide)
  ·exact List.eq_nil_of_length_eq_zero (by omega)
 ·rw [if_pos h1] at h
  exact absurd h h1
end Co
end Go.Proofs.YtjoedamiilgajaaGreat
namespace Go.Proofs.YtjoedamiilgajaaGreat
open Go.RowKit
def In64 (n:Int):Prop:=-9223372036854775808≤n∧n≤9223372036854775807
end Go.Proofs.YtjoedamiilgajaaGreat
namespace Go.Proofs.YtjoedamiilgajaaGreat
open Go.RowKit
structure Nd where
 id:Int
 kind:Int
 links:Int
 size:Int
 till:Nat
 shut:Bool
namespace Nd
def val (n:Nd):Value:=.agg #[.int .i64 n.id,.int .i64 n.kind,.int .i64 n.links,.int .i64 n.size,.int .u64 (n.till:Nat),.bool n.shut]
def zero:Nd:=⟨0,0,0,0,0,false⟩
structure Ok (n:Nd):Prop where
 id:In64 n.id
 kind:In64 n.kind
 links:In64 n.links
 size:In64 n.size
 till:n.till≤18446744073709551615
def Right (n:Nd):Prop :=
 0≤n.id∧n.id≤65535∧0≤n.links∧n.links≤65535∧0≤n.size∧n.size≤4096∧n.till≤1099511627776∧(n.kind=1∨n.kind=2∧n.size=0∧n.till=0∧n.shut=true)
instance (n:Nd):Decidable n.Right:=by unfold Right;infer_instance
def right (n:Nd):Bool:=decide n.Right
def lo16 (x:Int):Nat:=(x % 65536).toNat
def lo8 (x:Int):Nat:=(x % 256).toNat
def bytes (n:Nd):List UInt8:=Co.wS (lo16 n.id)++(Co.wByte (lo8 n.kind)++(Co.wS (lo16 n.links)++(Co.wS (lo16 n.size)++(Co.wLong n.till++Co.wFlag n.shut))))
theorem bytes_length (n:Nd):n.bytes.length=16:=by
 simp only [bytes,List.length_append,Co.wLong_length]
 rfl
end Nd
def ndRead (L:List UInt8):Nd × Co.Rs :=
 let p1:=Co.num 2 ⟨L,0⟩
 let p2:=Co.num 1 p1.2
 let p3:=Co.num 2 p2.2
 let p4:=Co.num 2 p3.2
 let p5:=Co.num 8 p4.2
 let p6:=Co.flag p5.2
 (⟨(p1.1:Nat),(p2.1:Nat),(p3.1:Nat),(p4.1:Nat),p5.1,p6.1⟩,p6.2)
def ndDec (L:List UInt8):Nd × Nat :=
 if Co.fin (ndRead L).2≠0∨(ndRead L).1.right=false then (Nd.zero,12) else ((ndRead L).1,0)
theorem ndDec_bytes (n:Nd) (h:n.Right):ndDec n.bytes=(n,0):=by
 have hr:n.right=true:=by simpa [Nd.right] using h
 obtain ⟨h1,h2,h3,h4,h5,h6,h7,h8⟩:=h
 obtain ⟨id,kind,links,size,till,shut⟩:=n
 simp only at h1 h2 h3 h4 h5 h6 h7 h8
 have e:ndRead (Nd.bytes ⟨id,kind,links,size,till,shut⟩)=(⟨id,kind,links,size,till,shut⟩,⟨[],0⟩):=by
  unfold ndRead Nd.bytes
  simp only [Co.num_short,Co.num_byte,Co.num_long till (by omega)]
  have ef:=Co.flag_app shut []
  rw [List.append_nil] at ef
  rw [ef]
  have e1:((Nd.lo16 id % 65536:Nat):Int)=id:=by unfold Nd.lo16;omega
  have e2:((Nd.lo8 kind % 256:Nat):Int)=kind:=by unfold Nd.lo8;omega
  have e3:((Nd.lo16 links % 65536:Nat):Int)=links:=by unfold Nd.lo16;omega
  have e4:((Nd.lo16 size % 65536:Nat):Int)=size:=by unfold Nd.lo16;omega
  rw [e1,e2,e3,e4]
 unfold ndDec
 rw [e]
 rw [if_neg (by simp [hr,Co.fin])]
theorem ndDec_inv (L:List UInt8) (h:(ndDec L).2=0):(ndDec L).1.Right∧(ndDec L).1.bytes=L:=by
 by_cases h0:Co.fin (ndRead L).2≠0∨(ndRead L).1.right=false
 ·unfold ndDec at h
  rw [if_pos h0] at h
  exact absurd h (by decide)
 ·have e:ndDec L=((ndRead L).1,0):=by unfold ndDec;rw [if_neg h0]
  rw [e]
  have hf:Co.fin (ndRead L).2=0:=Decidable.byContradiction fun hc=>h0 (.inl hc)
  have hr:(ndRead L).1.right=true:=by
   cases hh:(ndRead L).1.right
   ·exact absurd (.inr hh) h0
   ·rfl
  refine ⟨by simpa [Nd.right] using hr,?_⟩
  obtain ⟨w6,r6⟩:=Co.fin_inv _ hf
  obtain ⟨w5,f6⟩:=Co.flag_inv _ w6
  obtain ⟨w4,l5,f5⟩:=Co.long_inv _ w5
  obtain ⟨w3,l4,f4⟩:=Co.short_inv _ w4
  obtain ⟨w2,l3,f3⟩:=Co.short_inv _ w3
  obtain ⟨w1,l2,f2⟩:=Co.byte_inv _ w2
  obtain ⟨w0,l1,f1⟩:=Co.short_inv _ w1
  have r6':(Co.flag (Co.num 8 (Co.num 2 (Co.num 2 (Co.num 1 (Co.num 2 ⟨L,0⟩).2).2).2).2).2).2.rem=[]:=r6
  rw [r6',List.append_nil] at f6
  have f1':L=Co.wS (Co.num 2 ⟨L,0⟩).1++(Co.num 2 ⟨L,0⟩).2.rem:=f1
  have k16:∀ x:Nat,x<65536→Nd.lo16 ((x:Nat):Int)=x:=fun x hx=>by unfold Nd.lo16;omega
  have k8:∀ x:Nat,x<256→Nd.lo8 ((x:Nat):Int)=x:=fun x hx=>by unfold Nd.lo8;omega
  dsimp only [Nd.bytes,ndRead]
  rw [k16 _ l1,k8 _ l2,k16 _ l3,k16 _ l4,← f6,← f5,← f4,← f3,← f2,← f1']
end Go.Proofs.YtjoedamiilgajaaGreat
namespace Go.Proofs.YtjoedamiilgajaaGreat
namespace Pa
abbrev Bytes:=List UInt8
def okByte (c:UInt8):Bool:=(97≤c.toNat&&c.toNat≤122) || (48≤c.toNat&&c.toNat≤57) || c==46 || c==45 || c==95
def good (n:Bytes):Bool:=n.all okByte&&decide (1≤n.length)&&decide (n.length≤16)&&n != [46]&&n != [46,46]
def pieces:Bytes→List Bytes
 | []=>[[]]
 | c :: s=>if c=47 then [] :: pieces s else match pieces s with
   | []=>[[c]]
   | p :: ps=>(c :: p) :: ps
def join (l:List Bytes):Bytes:=if l=[] then [47] else l.flatMap (47 :: ·)
def split (d:Nat) (s:Bytes):List Bytes × Nat :=
 if s=[47] then ([],0)
 else match s with
  | []=>([],12)
  | c :: s=>if c=47 then
      (if (pieces s).all good then (if (pieces s).length≤d then (pieces s,0) else ([],3)) else ([],12))
   else ([],12)
theorem pieces_plain {p:Bytes} (h:∀ c ∈ p,c≠47):pieces p=[p]:=by
 induction p with
 | nil=>rfl
 | cons c s ih =>
   unfold pieces
   rw [if_neg (h c (by simp)),ih fun d hd=>h d (by simp [hd])]
theorem pieces_app {p s:Bytes} (h:∀ c ∈ p,c≠47):pieces (p++47 :: s)=p :: pieces s:=by
 induction p with
 | nil=>simp [pieces]
 | cons c q ih =>
   rw [List.cons_append]
   have e:∀ x,pieces (c :: x)=(match pieces x with|[]=>[[c]]|p :: ps=>(c :: p) :: ps):=fun x=>by rw [pieces,if_neg (h c (by simp))]
   rw [e,ih fun d hd=>h d (by simp [hd])]
structure Parts (s0 t:Bytes) (c:List Bytes):Prop where
 good:∀ n ∈ c,good n=true
 way:∃ u0,s0=47 :: u0∧u0≠[]∧(t=[]→pieces u0=c)∧(t≠[]→∃ u,t=47 :: u∧pieces u0=c++pieces u)
theorem pieces_next {p r:Bytes} (hp:∀ x ∈ p,x≠47) (hr:r=[]∨∃ r',r=47 :: r'):(r=[]→pieces (p++r)=[p])∧(r≠[]→∃ r',r=47 :: r'∧pieces (p++r)=p :: pieces r'):=by
 rcases hr with rfl|⟨r',rfl⟩
 ·exact ⟨(fun _=>by rw [List.append_nil];exact pieces_plain hp),fun h=>absurd rfl h⟩
 ·exact ⟨(fun h=>by cases h),fun _=>⟨r',rfl,pieces_app hp⟩⟩
theorem split_of {d:Nat} {u:Bytes} (h:u≠[]):split d (47 :: u)=if (pieces u).all Pa.good then (if (pieces u).length≤d then (pieces u,0) else ([],3)) else ([],12):=by
 unfold split
 rw [if_neg (by simpa using h)]
 simp
theorem Parts.bad {d:Nat} {s0 p r:Bytes} {c:List Bytes} (h:Parts s0 (47 :: (p++r)) c) (hp:∀ x ∈ p,x≠47) (hr:r=[]∨∃ r',r=47 :: r') (hg:Pa.good p=false):split d s0=([],12):=by
 obtain ⟨u0,rfl,hu,_,h2⟩:=h.way
 obtain ⟨u,e,h3⟩:=h2 (by simp)
 simp only [List.cons.injEq,true_and] at e
 subst e
 obtain ⟨n1,n2⟩:=pieces_next hp hr
 have hm:p ∈ pieces u0:=by
  rw [h3]
  by_cases hr0:r=[]
  ·rw [n1 hr0];simp
  ·obtain ⟨r',_,h4⟩:=n2 hr0
   rw [h4];simp
 rw [split_of hu,if_neg]
 rw [Bool.not_eq_true,List.all_eq_false]
 exact ⟨p,hm,by rw [hg];decide⟩
end Pa
end Go.Proofs.YtjoedamiilgajaaGreat
namespace Go.Proofs.YtjoedamiilgajaaGreat
open Go.RowKit
def strOf (l:List UInt8):ByteArray:=⟨l.toArray⟩
theorem strOf_size (l:List UInt8):(strOf l).size=l.length:=by simp [strOf,ByteArray.size]
theorem str_any (w:World) (A:Option Addr) (l:List UInt8) (c:Nat) (h:Rd w A l):(convert 39 9 (.slice A l.length c)).run Tryz.prog w=.ok (.string (strOf l)) w:=by
 cases A with
 | none =>
   have hl:l=[]:=by
    rcases Nat.eq_zero_or_pos l.length with h1|h1
    ·exact List.eq_nil_of_length_eq_zero h1
    ·obtain ⟨b,off,h2,_⟩:=h h1
     cases h2
   subst hl
   exact run_convert_bytes_nil w 39 5 Tryz.underlying39 Tryz.underlying5 0 c 9 Tryz.underlying9
 | some ad =>
   have hl:(loadCells ad l.length).run Tryz.prog w=.ok ((l.map fun b=>((b.toNat:Nat):Int)).map (Value.int .u8)).toArray w:=by
    have:=run_loadCells_list (P:=Tryz.prog) w ad ((l.map fun b=>((b.toNat:Nat):Int)).map (Value.int .u8)) (fun j v hj=>by
     rw [List.map_map] at hj
     simp only [List.getElem?_map,Option.map_eq_some_iff] at hj
     obtain ⟨x,hx,rfl⟩:=hj
     obtain ⟨b,off,h1,_,h2⟩:=h (by have:=(List.getElem?_eq_some_iff.1 hx).1;omega)
     obtain rfl:ad=⟨b,off,none⟩:=by injection h1
     rw [add_plain]
     exact h2 j x hx)
    simpa using this
   rw [run_convert_bytes_string w 39 9 5 _ l.length c Tryz.underlying39 Tryz.underlying5 Tryz.underlying9,run_bytesToString w _ l.length c _ hl,foldl_push_bytes]
   congr 3
   simp [ByteArray.empty,ByteArray.emptyWithCapacity]
   have e:((fun n:Int=>UInt8.ofNat n.toNat) ∘ fun b:UInt8=>((b.toNat:Nat):Int))=id:=funext fun b=>by simp
   rw [e,List.map_id]
   rfl
end Go.Proofs.YtjoedamiilgajaaGreat
namespace Go.Proofs.YtjoedamiilgajaaGreat
open Go.RowKit
theorem strOf_list (l:List UInt8):(strOf l).toList=l:=ByteArray.toList_mk l
theorem strOf_beq (a b:List UInt8):((strOf a).toList==(strOf b).toList)=decide (a=b):=by
 rw [strOf_list,strOf_list]
 by_cases h:a=b
 ·subst h;simp
 ·rw [decide_eq_false h];exact beq_eq_false_iff_ne.2 h
theorem strOf_lit (a b:List UInt8):((strOf a).toList==b)=decide (a=b):=by
 rw [strOf_list]
 by_cases h:a=b
 ·subst h;simp
 ·rw [decide_eq_false h];exact beq_eq_false_iff_ne.2 h
theorem str_at {l:List UInt8} {i:Nat} {c:UInt8} (h:l[i]?=some c) (w:World):(Instr.index 9 (.string (strOf l)) (.int .i64 (i:Nat))).run Tryz.prog w=.ok (.int .u8 (c.toNat:Nat)) w:=by
 have hi:=(List.getElem?_eq_some_iff.1 h).1
 rw [run_index_string w 9 (strOf l) .i64 i Tryz.underlying9,dif_pos (by rw [strOf_size];omega)]
 congr 3
 simp only [strOf,ByteArray.getElem_eq_getElem_data,Int.toNat_natCast,List.getElem_toArray]
 rw [(List.getElem?_eq_some_iff.1 h).2]
end Go.Proofs.YtjoedamiilgajaaGreat
namespace Go.Proofs.YtjoedamiilgajaaGreat
open Go.RowKit
abbrev Bs:=List UInt8
theorem Tryz.infoStr:(Tryz.prog.info? 9).map (fun i=>(i.zero,i.size,i.bytes))=some (some (.string .empty),1,16):=by kernel_rfl
def txtCells (l:List Bs):List Value:=l.map fun s=>.string (strOf s)
theorem txtCells_length (l:List Bs):(txtCells l).length=l.length:=List.length_map _
theorem txtCells_append (a b:List Bs):txtCells (a++b)=txtCells a++txtCells b:=List.map_append
def RdS (w:World) (A:Option Addr) (l:List Bs):Prop :=
 0<l.length→∃ b off,A=some ⟨b,off,none⟩∧b<w.heap.size∧∀ j x,l[j]?=some x→w.cell? ⟨b,off+j,none⟩=some (.string (strOf x))
theorem RdS.nil (w:World) (A:Option Addr):RdS w A []:=fun h=>absurd h (by simp)
theorem RdS.below {w w':World} {A:Option Addr} {l:List Bs} (h:RdS w A l) (hb:Below w.heap.size w w'):RdS w' A l:=fun hl=>by
 obtain ⟨b,off,h1,h2,h3⟩:=h hl
 exact ⟨b,off,h1,Nat.lt_of_lt_of_le h2 hb.size,fun j x hx=>(hb.cell (p:=⟨b,off+j,none⟩) h2).trans (h3 j x hx)⟩
theorem RdS.at_ {w:World} {A:Option Addr} {l:List Bs} (h:RdS w A l) {j:Nat} {x:Bs} (hj:l[j]?=some x):∃ b off,A=some ⟨b,off,none⟩∧w.cell? ⟨b,off+j,none⟩=some (.string (strOf x)):=by
 obtain ⟨b,off,h1,_,h3⟩:=h (by have:=(List.getElem?_eq_some_iff.1 hj).1;omega)
 exact ⟨b,off,h1,h3 j x hj⟩
theorem RdS.take {w:World} {A:Option Addr} {l:List Bs} (h:RdS w A l) (k:Nat):RdS w A (l.take k):=by
 intro hl
 rw [List.length_take] at hl
 obtain ⟨b,off,rfl,hlt,hcell⟩:=h (by omega)
 refine ⟨b,off,rfl,hlt,fun j x hx=>hcell j x ?_⟩
 rw [List.getElem?_take] at hx
 split at hx
 ·exact hx
 ·cases hx
theorem txt_under:Tryz.prog.underlying 26=some (.slice (Tryz.prog.elem 26)):=by kernel_rfl
theorem txt_size (w:World):(sizeOf (Tryz.prog.elem 26)).run Tryz.prog w=.ok 1 w:=by kernel_rfl
theorem sls_h (w:World) (A:Option Addr) (len cap n:Nat) (h:n≤cap):(Instr.sliceAt 26 (.slice A len cap) none (some (.int .i64 n)) none).run Tryz.prog w=.ok (.slice A n cap) w:=by
 rw [run_sliceAt_slice w _ _ _ _ _ txt_under,run_slice_h w _ _ _ _ txt_under .i64 n (by omega) (by omega),txt_size]
 have e:∀ a:Addr,a.add 0=a:=fun a=>by unfold Addr.add;simp
 cases A <;> simp [Result.andThen,sliced,e]
def TAt (B:Nat) (v:Value) (l:List Bs) (w0 wr:World):Prop :=
 wr.ownsRow B 9 1 v l.length (txtCells l)∧Below B w0 wr∧B=w0.heap.size
theorem TAt.nil (w:World):TAt w.heap.size (.slice none 0 0) [] w w:=⟨⟨rfl,.inl ⟨rfl,rfl⟩⟩,Below.refl _ _,rfl⟩
theorem TAt.empty (w:World):TAt w.heap.size (.slice (some ⟨w.heap.size,0,none⟩) 0 0) [] w (w.alloc (.cells #[] 9)) :=
 ⟨⟨rfl,.inr ⟨w.heap.size,0,#[],rfl,Nat.le_refl _,heap_alloc_new w _,Nat.le_refl _,by unfold maxLen;omega,rfl,rfl⟩⟩,bN w _,rfl⟩
theorem owned_below {w wa:World} {B e n:Nat} {v:Value} {xs:List Value} (h:w.ownsRow B e 1 v n xs) (ha:Below w.heap.size w wa):wa.ownsRow B e 1 v n xs:=by
 refine ⟨h.1,?_⟩
 rcases h.2 with h2|⟨g,cap,cur,h3,h4,h5,h6⟩
 ·exact .inl h2
 ·refine .inr ⟨g,cap,cur,h3,h4,(ha.block g ?_).trans h5,h6⟩
  rcases Nat.lt_or_ge g w.heap.size with hlt|hge
  ·exact hlt
  ·rw [Array.getElem?_eq_none hge] at h5;cases h5
theorem TAt.own {B:Nat} {v:Value} {l:List Bs} {w0 wr wa:World} (h:TAt B v l w0 wr) (ha:Below wr.heap.size wr wa):wa.ownsRow B 9 1 v l.length (txtCells l):=owned_below h.1 ha
theorem TAt.push {B:Nat} {v v':Value} {l x:List Bs} {w0 wr wa w':World} (h:TAt B v l w0 wr) (ha:Below wr.heap.size wr wa) (hown:w'.ownsRow B 9 1 v' (l.length+x.length) (txtCells l++txtCells x)) (hg:wa.grownBy w' v.ownBlock):TAt B v' (l++x) w0 w':=by
 refine ⟨by rw [List.length_append,txtCells_append];exact hown,?_,h.2.2⟩
 have hb:Below B w0 wa:=h.2.1.trans (ha.mono (by have:=h.2.1.size;have:=h.2.2;omega))
 exact hb.grown hg (by have:=h.2.1.size;have:=ha.size;have:=h.2.2;omega) (fun k hk=>h.1.ownBlock_ge k hk)
theorem TAt.below {B:Nat} {v:Value} {l:List Bs} {w0 wr w':World} (h:TAt B v l w0 wr) (hb:Below wr.heap.size wr w'):TAt B v l w0 w' :=
 ⟨owned_below h.1 hb,h.2.1.trans (hb.mono (by have:=h.2.1.size;have:=h.2.2;omega)),h.2.2⟩
theorem TAt.later {B:Nat} {v:Value} {l:List Bs} {w0 wr:World} (h:TAt B v l w0 wr):Below w0.heap.size w0 wr:=h.2.2 ▸ h.2.1
theorem TAt.form {B:Nat} {v:Value} {l:List Bs} {w0 wr:World} (h:TAt B v l w0 wr):∃ X c,v=.slice X l.length c∧l.length≤c∧RdS wr X l:=by
 rcases h.1.2 with ⟨rfl,h1⟩|⟨g,cap,cur,rfl,hb,hh,hc,_,hcs,htk⟩
 ·have:l=[]:=List.eq_nil_of_length_eq_zero h1
  subst this
  exact ⟨none,0,rfl,Nat.le_refl _,RdS.nil _ _⟩
 ·refine ⟨_,cap,rfl,hc,fun _=>⟨g,0,rfl,(Array.getElem?_eq_some_iff.1 hh).1,fun j x hx=>?_⟩⟩
  have hj:j<l.length:=(List.getElem?_eq_some_iff.1 hx).1
  rw [cell_of_row wr g _ cur 9 (0,0) hh,Nat.zero_add]
  have e:(cur.toList.take (l.length*1))[j]?=some (.string (strOf x)):=by
   rw [htk];simp [txtCells,hx]
  rw [List.getElem?_take_of_lt (by omega)] at e
  simpa using e
theorem txt_one (l:List Bs):∀ v ∈ txtCells l,v.oneCell'=true:=by
 intro v hv
 simp only [txtCells,List.mem_map] at hv
 obtain ⟨x,_,rfl⟩:=hv
 rfl
theorem run_append_txts (w:World) (base:Nat) (v:Value) (n:Nat) (xs:List Value) (hown:w.ownsRow base 9 1 v n xs) (A:Option Addr) (l:List Bs) (c:Nat) (hr:RdS w A l) (hn:n+l.length≤68719476736) (hbase:base≤w.heap.size) (ty:TypeId) :
    ∃ v' w',(Builtin.append_ #[26,26] ty #[v,.slice A l.length c]).run Tryz.prog w=.ok v' w'∧w'.ownsRow base 9 1 v' (n+l.length) (xs++txtCells l)∧w.grownBy w' v.ownBlock:=by
 obtain ⟨i,hi,hz,hsize,hby⟩:=info_parts Tryz.infoStr
 cases A with
 | none =>
   have hl:l=[]:=by
    rcases Nat.eq_zero_or_pos l.length with h|h
    ·exact List.eq_nil_of_length_eq_zero h
    ·obtain ⟨b,off,h1,_⟩:=hr h
     cases h1
   subst hl
   refine ⟨v,w,?_,by simpa [txtCells] using hown,⟨rfl,rfl,rfl,Nat.le_refl _,fun _ _ _=>rfl⟩⟩
   show (Builtin.append_ #[26,26] ty #[v,.slice none 0 c]).run Tryz.prog w=.ok v w
   have ht:=Tryz.underlying26
   rcases hown.2 with ⟨rfl,rfl⟩|⟨g,cap,cur,rfl,_,_,hnc,_⟩
   ·simp [Builtin.append_,run_underlying ht,sizeOf,typeInfo,hi,Builtin.lenOf,Builtin.firstCells]
   ·simp [Builtin.append_,run_underlying ht,sizeOf,typeInfo,hi,Builtin.lenOf,Builtin.firstCells,hnc,storeCells]
 | some ad =>
   have hc:∀ j u,(txtCells l)[j]?=some u→w.cell? (ad.add j)=some u:=by
    intro j u hu
    simp only [txtCells,List.getElem?_map,Option.map_eq_some_iff] at hu
    obtain ⟨x,hx,rfl⟩:=hu
    obtain ⟨b,off,h1,_,h2⟩:=hr (by have:=(List.getElem?_eq_some_iff.1 hx).1;omega)
    obtain rfl:ad=⟨b,off,none⟩:=by injection h1
    rw [add_plain]
    exact h2 j x hx
   obtain ⟨v',w',h1,h2,h3,_⟩:=run_append_own (P:=Tryz.prog) (w:=w) base 26 ty 9 i (.string .empty) 1 16 Tryz.underlying26 hi hz hsize hby rfl (by decide) v n xs hown ad l.length c (txtCells l) (by simp [txtCells_length]) hc (txt_one l) (by unfold maxLen;omega) (by omega) hbase
   exact ⟨v',w',h1,h2,h3⟩
theorem wpList_append_txts {w:World} {ops:Array Oper} {rest:List Oper} {o:Oper} {a:Act} {Q:Exit→Act→World→Prop} (hgd:Region.wanted o (yielded ops a.tmps)=true) (s x:Operand)
    (ho:o.op=.call { callee:=.builtin .append,args:=#[s,x],argTypes:=#[26,26] })
    {B:Nat} {v:Value} {l:List Bs} {w0 wr:World} (hs:a.eval s=v) (hI:TAt B v l w0 wr) (hw:Below wr.heap.size wr w) (A:Option Addr) (y:List Bs) (m c:Nat) (hm:y.length=m) (hx:a.eval x=.slice A m c) (hr:RdS w A y) (hn:l.length+y.length≤68719476736)
    (h:∀ v' w',Hid (TAt B v' (l++y) w0 w')→Hid (w.grownBy w' v.ownBlock)→wpList Tryz.prog ops Q rest (a.put o.dst v') w'):wpList Tryz.prog ops Q (o :: rest) a w:=by
 subst hm
 refine wpList_step fun K hK=>?_
 rw [if_pos hgd]
 obtain ⟨v',w',hrun,h1,h2⟩:=run_append_txts w B v l.length (txtCells l) (hI.own hw) A y c hr hn (by have:=hI.2.1.size;have:=hI.2.2;have:=hw.size;omega) o.type
 unfold Oper.wp
 simp [execOp,ho,resolve,invoke,builtin,hs,hx,hrun,Result.andThen]
 exact hK _ _ (h v' w' (hI.push hw h1 h2) h2)
theorem rds_one (w:World) (x:Bs) (t:TypeId):RdS (w.alloc (.cells #[.string (strOf x)] t)) (some ⟨w.heap.size,0,none⟩) [x]:=by
 intro _
 refine ⟨_,_,rfl,by rw [World.size_alloc];omega,fun j y hy=>?_⟩
 have hj:j=0:=by
  have:=(List.getElem?_eq_some_iff.1 hy).1
  simp at this
  exact this
 subst hj
 obtain rfl:x=y:=by simpa using hy
 rw [World.cell?_alloc_at _ _ _ _ rfl]
 rfl
theorem rds_alloc (w:World) (l:List Bs) (t:TypeId) (fz:Nat × Nat):RdS (w.alloc (.cells (txtCells l).toArray t fz)) (some ⟨w.heap.size,0,none⟩) l:=fun _=>by
 refine ⟨_,_,rfl,by rw [World.size_alloc];omega,fun j x hx=>?_⟩
 rw [cell_of_row _ w.heap.size (0+j) _ _ _ (heap_alloc_new w _),Nat.zero_add]
 simp only [List.getElem?_toArray,txtCells,List.getElem?_map,hx,Option.map_some]
end Go.Proofs.YtjoedamiilgajaaGreat
namespace Go.Proofs.YtjoedamiilgajaaGreat
open Go.RowKit
namespace Tr
abbrev Nm:=Bs × Int
structure En where
 nd:Nd
 data:Bs
 names:List Nm
abbrev T:=List En
/-! Texts in their order. -/
def less (a b:Bs):Bool:=Op.bytesLess a b
theorem less_eq:∀ (a b:Bs),less a b=decide (a<b)
 | [],[]=>by simp [less,Op.bytesLess]
 | _ :: _,[]=>by simp [less,Op.bytesLess]
 | [],_ :: _=>by simp [less,Op.bytesLess]
 | a :: x,b :: y=>by
   have h:=less_eq x y
   unfold less at h ⊢
   rw [Op.bytesLess,h]
   by_cases h1:a<b
   ·simp [h1,List.cons_lt_cons_iff]
   ·by_cases h2:a=b
    ·subst h2;simp [List.cons_lt_cons_iff]
    ·simp [h1,h2,List.cons_lt_cons_iff]
theorem less_self (a:Bs):less a a=false:=by rw [less_eq];simp
theorem less_trans {a b c:Bs} (h:less a b=true) (k:less b c=true):less a c=true:=by
 rw [less_eq] at *
 simp only [decide_eq_true_eq] at *
 exact List.lt_trans h k
theorem less_asym {a b:Bs} (h:less a b=true):less b a=false:=by
 cases k:less b a
 ·rfl
 ·have:=less_trans h k
  rw [less_self] at this
  cases this
theorem less_tri {a b:Bs} (h:less a b=false) (k:less b a=false):a=b:=by
 rw [less_eq] at *
 simp only [decide_eq_false_iff_not] at *
 exact List.le_antisymm k h
theorem less_ne {a b:Bs} (h:less a b=true):a≠b:=by
 rintro rfl
 rw [less_self] at h
 cases h
/-! Names of one directory. -/
def get (l:List Nm) (x:Bs):Option Int:=(l.find? fun n=>n.1==x).map (·.2)
def ins (l:List Nm) (x:Bs) (k:Int):List Nm :=
 match l with
 | []=>[(x,k)]
 | n :: l=>if less n.1 x then n :: ins l x k else (x,k) :: n :: l
def del (l:List Nm) (x:Bs):List Nm:=l.filter fun n=>!(n.1==x)
def strike (l:List Nm) (k:Int):List Nm:=l.filter fun n=>!(n.2==k)
/-! Nodes by their ID. -/
def find (t:T) (i:Int):Option En:=t.find? fun e=>e.nd.id==i
def kids (t:T) (i:Int):List Nm:=((find t i).map (·.names)).getD []
def ndOf (t:T) (i:Int):Nd:=((find t i).map (·.nd)).getD Nd.zero
def kindOf (t:T) (i:Int):Int:=(ndOf t i).kind
def upd (t:T) (i:Int) (f:En→En):T:=t.map fun e=>if e.nd.id==i then f e else e
def remove (t:T) (i:Int):T:=t.filter fun e=>!(e.nd.id==i)
def insE (t:T) (n:En):T :=
 match t with
 | []=>[n]
 | e :: t=>if e.nd.id<n.nd.id then e :: insE t n else n :: e :: t
def freeFrom:Int→T→Int
 | i,[]=>i
 | i,e :: t=>if e.nd.id=i then freeFrom (i+1) t else i
def free (t:T):Int:=freeFrom 0 t
def put (t:T) (d:Int) (x:Bs) (k:Int):T:=upd t d fun e=>{ e with names:=ins e.names x k }
def cut (t:T) (d:Int) (x:Bs):T:=upd t d fun e=>{ e with names:=del e.names x }
def more (t:T) (i:Int) (by_:Int):T:=upd t i fun e=>{ e with nd:={ e.nd with links:=e.nd.links+by_ } }
def fresh (id kind:Int):En:=⟨⟨id,kind,1,0,0,kind==2⟩,[],[]⟩
def new:T:=[fresh 0 2]
/-! Paths. -/
def formed (p:List Bs):Nat:=if p.all Pa.good then (if 8<p.length then 3 else 0) else 12
def lF (t:T):Int→List Bs→Int × Nat
 | i,[]=>(i,0)
 | i,x :: p=>if kindOf t i≠2 then (0,23) else match get (kids t i) x with
   | none=>(0,20)
   | some k=>lF t k p
def look (t:T) (p:List Bs):Int × Nat:=if formed p≠0 then (0,formed p) else lF t 0 p
def place (t:T) (p:List Bs):Int × Bs × Nat :=
 if p=[] then (0,[],1)
 else if (lF t 0 p.dropLast).2≠0 then (0,[],(lF t 0 p.dropLast).2)
 else if kindOf t (lF t 0 p.dropLast).1≠2 then (0,[],23)
 else ((lF t 0 p.dropLast).1,p.getLastD [],0)
def high (t:T):Nat→Int→Nat
 | 0,_=>0
 | n+1,i=>(kids t i).foldl (fun m k=>max m (1+high t n k.2)) 0
def walk (t:T):Nat→Int→List Bs→List (List Bs × Int)
 | 0,_,_=>[]
 | n+1,i,p=>(kids t i).flatMap fun k=>(p++[k.1],k.2) :: walk t n k.2 (p++[k.1])
def within (l of_:List Bs):Bool:=of_.isPrefixOf l
/-! The calls. -/
def make (t:T) (p:List Bs) (kind:Int):(Int × Nat) × T :=
 if formed p≠0 then ((0,formed p),t)
 else if kind≠1∧kind≠2 then ((0,30),t)
 else if (place t p).2.2≠0 then ((0,(place t p).2.2),t)
 else if (get (kids t (place t p).1) (place t p).2.1).isSome then ((0,21),t)
 else if 64≤t.length then ((0,4),t)
 else ((free t,0),put (insE t (fresh (free t) kind)) (place t p).1 (place t p).2.1 (free t))
def node (t:T) (i:Int):Nd × Bool:=(ndOf t i,(find t i).isSome)
def list (t:T) (i:Int):List Bs × Nat :=
 if (find t i).isNone then ([],20)
 else if kindOf t i≠2 then ([],23)
 else ((kids t i).map (·.1),0)
def link (t:T) (p z:List Bs):Nat × T :=
 if formed p≠0 then (formed p,t)
 else if formed z≠0 then (formed z,t)
 else if (lF t 0 p).2≠0 then ((lF t 0 p).2,t)
 else if kindOf t (lF t 0 p).1=2 then (22,t)
 else if (place t z).2.2≠0 then ((place t z).2.2,t)
 else if (get (kids t (place t z).1) (place t z).2.1).isSome then (21,t)
 else if 64≤(ndOf t (lF t 0 p).1).links then (4,t)
 else (0,more (put t (place t z).1 (place t z).2.1 (lF t 0 p).1) (lF t 0 p).1 1)
def unlinked (t:T) (p:List Bs):T:=more (cut t (place t p).1 (place t p).2.1) (lF t 0 p).1 (-1)
def unlink (t:T) (p:List Bs):Nat × T :=
 if formed p≠0 then (formed p,t)
 else if (lF t 0 p).2≠0 then ((lF t 0 p).2,t)
 else if kindOf t (lF t 0 p).1=2 then (22,t)
 else if (ndOf t (lF t 0 p).1).links=1∧(ndOf t (lF t 0 p).1).shut=true then (0,remove (unlinked t p) (lF t 0 p).1)
 else (0,unlinked t p)
def rmdir (t:T) (p:List Bs):Nat × T :=
 if formed p≠0 then (formed p,t)
 else if (lF t 0 p).2≠0 then ((lF t 0 p).2,t)
 else if kindOf t (lF t 0 p).1≠2 then (23,t)
 else if p=[] then (1,t)
 else if kids t (lF t 0 p).1≠[] then (24,t)
 else (0,remove (cut t (place t p).1 (place t p).2.1) (lF t 0 p).1)
def rename (t:T) (p z:List Bs):Nat × T :=
 if formed p≠0 then (formed p,t)
 else if formed z≠0 then (formed z,t)
 else if (lF t 0 p).2≠0 then ((lF t 0 p).2,t)
 else if p=[] then (1,t)
 else if (place t z).2.2≠0 then ((place t z).2.2,t)
 else if kindOf t (lF t 0 p).1=2∧within z p=true then (1,t)
 else if get (kids t (place t z).1) (place t z).2.1=some (lF t 0 p).1 then (0,t)
 else if (get (kids t (place t z).1) (place t z).2.1).isSome then (21,t)
 else if 8<z.length+high t 64 (lF t 0 p).1 then (3,t)
 else (0,put (cut t (place t p).1 (place t p).2.1) (place t z).1 (place t z).2.1 (lF t 0 p).1)
def file (t:T) (i:Int):Nat:=if (find t i).isNone then 20 else if kindOf t i=2 then 22 else 0
def append (t:T) (i:Int) (b:Bs):Nat × T :=
 if file t i≠0 then (file t i,t)
 else if (ndOf t i).shut=true then (27,t)
 else if 4096-(ndOf t i).size<(b.length:Int) then (15,t)
 else (0,upd t i fun e=>{ e with data:=e.data++b,nd:={ e.nd with size:=((e.data++b).length:Nat) } })
def dataOf (t:T) (i:Int):Bs:=((find t i).map (·.data)).getD []
def read (t:T) (i at_ n:Int):Bs × Nat :=
 if file t i≠0 then ([],file t i)
 else if at_<0∨n<0 then ([],1)
 else (((dataOf t i).drop at_.toNat).take n.toNat,0)
def shutE (until_:Nat) (e:En):En:={ e with nd:={ e.nd with shut:=true,till:=until_ } }
def seal_ (t:T) (i:Int) (until_:Nat):Nat × T :=
 if file t i≠0 then (file t i,t)
 else if (ndOf t i).shut=true then (27,t)
 else if 1099511627776<until_ then (1,t)
 else if (ndOf t i).links=0 then (0,remove (upd t i (shutE until_)) i)
 else (0,upd t i (shutE until_))
def keep (t:T) (i:Int) (until_:Nat):Nat × T :=
 if file t i≠0 then (file t i,t)
 else if (ndOf t i).shut=false then (25,t)
 else if until_<(ndOf t i).till then (28,t)
 else if 1099511627776<until_ then (1,t)
 else (0,upd t i fun e=>{ e with nd:={ e.nd with till:=until_ } })
def drop (t:T) (i:Int):Nat × T :=
 if file t i≠0 then (file t i,t)
 else if (ndOf t i).shut=true then (27,t)
 else (0,remove (t.map fun e=>{ e with names:=strike e.names i }) i)
/-! As bytes. -/
def nameBytes (n:Nm):Bs:=Co.wBytes n.1++Co.wS (Nd.lo16 n.2)
def enBytes (e:En):Bs:=Co.wBytes e.nd.bytes++(Co.wBytes e.data++(Co.wS e.names.length++e.names.flatMap nameBytes))
def save (t:T):Bs:=Co.wS t.length++t.flatMap enBytes
/-! What is right. -/
structure EnOk (e:En):Prop where
 nd:e.nd.Right
 size:e.nd.size=(e.data.length:Nat)
 rise:e.names.Pairwise fun a b=>less a.1 b.1=true
 good:∀ n ∈ e.names,Pa.good n.1=true
 file:e.nd.kind=1→e.names=[]
def flat (t:T):List (Int × Nm):=t.flatMap fun e=>e.names.map fun n=>(e.nd.id,n)
def count (t:T) (i:Int):Nat:=(flat t).countP fun x=>x.2.2==i
structure Good (t:T):Prop where
 root:∃ r rest,t=r :: rest∧r.nd.id=0∧r.nd.kind=2
 rise:t.Pairwise fun a b=>a.nd.id<b.nd.id
 few:t.length≤64
 each:∀ e ∈ t,EnOk e
 leads:∀ e ∈ t,∀ n ∈ e.names,n.2≠0∧(find t n.2).isSome=true
 linked:∀ e ∈ t,(count t e.nd.id:Int)+(if e.nd.id=0 then 1 else 0)=e.nd.links
 dirs:∀ e ∈ t,e.nd.kind=2→e.nd.links=1
 shut:∀ e ∈ t,e.nd.shut=true→e.nd.links≠0
 deep:∃ dep:Int→Nat,dep 0=0∧∀ e ∈ t,∀ n ∈ e.names,dep e.nd.id+1≤8∧(kindOf t n.2=2→dep n.2=dep e.nd.id+1)
end Tr
end Go.Proofs.YtjoedamiilgajaaGreat
namespace Go.Proofs.YtjoedamiilgajaaGreat
open Go.RowKit
namespace Tr
/-! Names of one directory. -/
theorem get_nil (x:Bs):get [] x=none:=rfl
theorem get_cons (n:Nm) (l:List Nm) (x:Bs):get (n :: l) x=if n.1=x then some n.2 else get l x:=by
 unfold get
 rw [List.find?_cons]
 by_cases h:n.1=x
 ·rw [if_pos h,beq_iff_eq.2 h];rfl
 ·rw [if_neg h,beq_eq_false_iff_ne.2 h]
theorem get_mem {l:List Nm} {x:Bs} {k:Int} (h:get l x=some k):(x,k) ∈ l:=by
 induction l with
 | nil=>cases h
 | cons n l ih =>
   rw [get_cons] at h
   by_cases h1:n.1=x
   ·rw [if_pos h1] at h
    obtain ⟨a,b⟩:=n
    simp only [Option.some.injEq] at h h1
    subst h h1
    exact .head _
   ·rw [if_neg h1] at h
    exact .tail _ (ih h)
def Rise (l:List Nm):Prop:=l.Pairwise fun a b=>less a.1 b.1=true
theorem get_of_mem {l:List Nm} (hr:Rise l) {n:Nm} (h:n ∈ l):get l n.1=some n.2:=by
 induction l with
 | nil=>cases h
 | cons m l ih =>
   rw [get_cons]
   rcases List.mem_cons.1 h with rfl|h1
   ·rw [if_pos rfl]
   ·have:=(List.pairwise_cons.1 hr).1 n h1
    rw [if_neg (less_ne this),ih (List.pairwise_cons.1 hr).2 h1]
theorem get_none {l:List Nm} {x:Bs}:get l x=none↔∀ n ∈ l,n.1≠x:=by
 induction l with
 | nil=>simp [get_nil]
 | cons m l ih =>
   rw [get_cons]
   by_cases h:m.1=x
   ·simp [h]
   ·rw [if_neg h,ih];simp [h]
theorem ins_perm (l:List Nm) (x:Bs) (k:Int):(ins l x k).Perm ((x,k) :: l):=by
 induction l with
 | nil=>exact .refl _
 | cons n l ih =>
   unfold ins
   split
   ·exact (ih.cons n).trans (.swap _ _ _)
   ·exact .refl _
theorem ins_mem {l:List Nm} {x:Bs} {k:Int} {n:Nm}:n ∈ ins l x k↔n=(x,k)∨n ∈ l:=by
 rw [(ins_perm l x k).mem_iff,List.mem_cons]
theorem ins_rise {l:List Nm} (hr:Rise l) {x:Bs} (k:Int) (h:get l x=none):Rise (ins l x k):=by
 induction l with
 | nil=>exact List.pairwise_singleton _ _
 | cons n l ih =>
   have hr2:=List.pairwise_cons.1 hr
   have hn:=get_none.1 h
   unfold ins
   split
   ·rename_i h1
    refine List.pairwise_cons.2 ⟨fun m hm=>?_,ih hr2.2 (get_none.2 fun m hm=>hn m (.tail _ hm))⟩
    rcases ins_mem.1 hm with rfl|hm
    ·exact h1
    ·exact hr2.1 m hm
   ·rename_i h1
    have h2:less x n.1=true:=by
     cases h3:less x n.1
     ·exact absurd (less_tri (by simpa using h1) h3) (hn n (.head _))
     ·rfl
    refine List.pairwise_cons.2 ⟨fun m hm=>?_,hr⟩
    rcases List.mem_cons.1 hm with rfl|hm
    ·exact h2
    ·exact less_trans h2 (hr2.1 m hm)
theorem del_rise {l:List Nm} (hr:Rise l) (x:Bs):Rise (del l x):=hr.filter _
theorem strike_rise {l:List Nm} (hr:Rise l) (k:Int):Rise (strike l k):=hr.filter _
theorem get_del {l:List Nm} (x y:Bs):get (del l x) y=if y=x then none else get l y:=by
 induction l with
 | nil=>simp [del,get_nil]
 | cons n l ih =>
   unfold del at ih ⊢
   rw [List.filter_cons]
   by_cases h:n.1=x
   ·rw [if_neg (by simp [h]),ih,get_cons]
    by_cases hy:y=x
    ·rw [if_pos hy,if_pos hy]
    ·rw [if_neg hy,if_neg hy,if_neg (by rw [h];exact fun e=>hy e.symm)]
   ·rw [if_pos (by simp [h]),get_cons,ih,get_cons]
    by_cases hy:y=x
    ·subst hy;rw [if_neg h,if_pos rfl,if_pos rfl]
    ·rw [if_neg hy,if_neg hy]
theorem del_perm {l:List Nm} (hr:Rise l) {x:Bs} {k:Int} (h:get l x=some k):l.Perm ((x,k) :: del l x):=by
 induction l with
 | nil=>cases h
 | cons n l ih =>
   have hr2:=List.pairwise_cons.1 hr
   rw [get_cons] at h
   by_cases h1:n.1=x
   ·rw [if_pos h1] at h
    obtain ⟨a,b⟩:=n
    simp only [Option.some.injEq] at h h1
    subst h h1
    have e:del ((a,b) :: l) a=l:=by
     unfold del
     rw [List.filter_cons,if_neg (by simp),List.filter_eq_self]
     intro m hm
     have:=less_ne (hr2.1 m hm)
     simpa using fun e=>this e.symm
    rw [e]
   ·rw [if_neg h1] at h
    have e:del (n :: l) x=n :: del l x:=by
     unfold del
     rw [List.filter_cons,if_pos (by simp [h1])]
    rw [e]
    exact ((ih hr2.2 h).cons n).trans (.swap _ _ _)
/-! Nodes by their ID. -/
def Ris (t:T):Prop:=t.Pairwise fun a b=>a.nd.id<b.nd.id
theorem find_cons (e:En) (t:T) (i:Int):find (e :: t) i=if e.nd.id=i then some e else find t i:=by
 unfold find
 rw [List.find?_cons]
 by_cases h:e.nd.id=i
 ·rw [if_pos h,beq_iff_eq.2 h]
 ·rw [if_neg h,beq_eq_false_iff_ne.2 h]
theorem find_some {t:T} {i:Int} {e:En} (h:find t i=some e):e ∈ t∧e.nd.id=i:=by
 unfold find at h
 exact ⟨List.mem_of_find?_eq_some h,by simpa using List.find?_some h⟩
theorem find_none {t:T} {i:Int}:find t i=none↔∀ e ∈ t,e.nd.id≠i:=by
 unfold find
 rw [List.find?_eq_none]
 simp
theorem Ris.find {t:T} (hr:Ris t) {e:En} (h:e ∈ t):find t e.nd.id=some e:=by
 induction t with
 | nil=>cases h
 | cons a t ih =>
   rw [find_cons]
   rcases List.mem_cons.1 h with rfl|h1
   ·rw [if_pos rfl]
   ·have:=(List.pairwise_cons.1 hr).1 e h1
    rw [if_neg (by omega),ih (List.pairwise_cons.1 hr).2 h1]
theorem Ris.split {t:T} (hr:Ris t) {i:Int} {e:En} (h:Tr.find t i=some e):∃ A B,t=A++e :: B∧e.nd.id=i∧(∀ a ∈ A,a.nd.id<i)∧(∀ b ∈ B,i<b.nd.id):=by
 obtain ⟨hm,rfl⟩:=find_some h
 obtain ⟨A,B,rfl⟩:=List.append_of_mem hm
 have h2:=List.pairwise_append.1 hr
 exact ⟨A,B,rfl,rfl,fun a ha=>h2.2.2 a ha e (.head _),(List.pairwise_cons.1 h2.2.1).1⟩
theorem upd_none {t:T} {i:Int} (h:∀ e ∈ t,e.nd.id≠i) (f:En→En):upd t i f=t:=by
 unfold upd
 conv=>rhs;rw [← List.map_id t]
 apply List.map_congr_left
 intro e he
 rw [if_neg (by simpa using h e he)]
 rfl
theorem upd_app (A B:T) (i:Int) (f:En→En):upd (A++B) i f=upd A i f++upd B i f:=List.map_append
theorem upd_split {A B:T} {e:En} {i:Int} (he:e.nd.id=i) (hA:∀ a ∈ A,a.nd.id<i) (hB:∀ b ∈ B,i<b.nd.id) (f:En→En):upd (A++e :: B) i f=A++f e :: B:=by
 rw [upd_app,upd_none (fun a ha=>by have:=hA a ha;omega)]
 have e1:upd (e :: B) i f=f e :: upd B i f:=by
  show (if e.nd.id==i then f e else e) :: _=_
  rw [if_pos (by simpa using he)];rfl
 rw [e1,upd_none (fun b hb=>by have:=hB b hb;omega)]
theorem remove_split {A B:T} {e:En} {i:Int} (he:e.nd.id=i) (hA:∀ a ∈ A,a.nd.id<i) (hB:∀ b ∈ B,i<b.nd.id):remove (A++e :: B) i=A++B:=by
 unfold remove
 rw [List.filter_append,List.filter_cons,if_neg (by simp [he]),List.filter_eq_self.2 (fun a ha=>by have:=hA a ha;simp;omega),List.filter_eq_self.2 (fun b hb=>by have:=hB b hb;simp;omega)]
theorem upd_length (t:T) (i:Int) (f:En→En):(upd t i f).length=t.length:=List.length_map _
theorem find_upd {t:T} {i:Int} {f:En→En} (hf:∀ e,(f e).nd.id=e.nd.id) (j:Int):find (upd t i f) j=(find t j).map fun e=>if j=i then f e else e:=by
 induction t with
 | nil=>rfl
 | cons e t ih =>
   show find ((if e.nd.id==i then f e else e) :: upd t i f) j=_
   rw [find_cons,find_cons]
   have hid:(if e.nd.id==i then f e else e).nd.id=e.nd.id:=by split <;> simp [hf]
   rw [hid]
   by_cases h:e.nd.id=j
   ·rw [if_pos h,if_pos h,← h];simp
   ·rw [if_neg h,if_neg h,ih]
theorem find_remove (t:T) (i j:Int):find (remove t i) j=if j=i then none else find t j:=by
 induction t with
 | nil=>simp [remove,find]
 | cons e t ih =>
   unfold remove at ih ⊢
   rw [List.filter_cons]
   by_cases h:e.nd.id=i
   ·rw [if_neg (by simp [h]),ih,find_cons]
    by_cases hj:j=i
    ·rw [if_pos hj,if_pos hj]
    ·rw [if_neg hj,if_neg hj,if_neg (by omega)]
   ·rw [if_pos (by simp [h]),find_cons,ih,find_cons]
    by_cases hj:j=i
    ·rw [if_pos hj,if_pos hj,if_neg (by omega)]
    ·rw [if_neg hj,if_neg hj]
theorem insE_perm (t:T) (n:En):(insE t n).Perm (n :: t):=by
 induction t with
 | nil=>exact .refl _
 | cons e t ih =>
   unfold insE
   split
   ·exact (ih.cons e).trans (.swap _ _ _)
   ·exact .refl _
theorem insE_mem {t:T} {n e:En}:e ∈ insE t n↔e=n∨e ∈ t:=by
 rw [(insE_perm t n).mem_iff,List.mem_cons]
theorem insE_length (t:T) (n:En):(insE t n).length=t.length+1:=(insE_perm t n).length_eq
theorem insE_ris {t:T} (hr:Ris t) {n:En} (h:∀ e ∈ t,e.nd.id≠n.nd.id):Ris (insE t n):=by
 induction t with
 | nil=>exact List.pairwise_singleton _ _
 | cons e t ih =>
   have hr2:=List.pairwise_cons.1 hr
   unfold insE
   split
   ·rename_i h1
    refine List.pairwise_cons.2 ⟨fun m hm=>?_,ih hr2.2 fun m hm=>h m (.tail _ hm)⟩
    rcases insE_mem.1 hm with rfl|hm
    ·exact h1
    ·exact hr2.1 m hm
   ·rename_i h1
    have h2:n.nd.id<e.nd.id:=by have:=h e (.head _);omega
    refine List.pairwise_cons.2 ⟨fun m hm=>?_,hr⟩
    rcases List.mem_cons.1 hm with rfl|hm
    ·exact h2
    ·have:=hr2.1 m hm;omega
theorem find_insE {t:T} (hr:Ris t) {n:En} (h:∀ e ∈ t,e.nd.id≠n.nd.id) (j:Int):find (insE t n) j=if j=n.nd.id then some n else find t j:=by
 have hi:=insE_ris hr h
 by_cases hj:j=n.nd.id
 ·rw [if_pos hj,hj]
  exact hi.find (insE_mem.2 (.inl rfl))
 ·rw [if_neg hj]
  cases hg:find t j with
  | none =>
    refine find_none.2 fun e he=>?_
    rcases insE_mem.1 he with rfl|he
    ·exact fun e2=>hj e2.symm
    ·exact find_none.1 hg e he
  | some e =>
    obtain ⟨h1,rfl⟩:=find_some hg
    exact hi.find (insE_mem.2 (.inr h1))
theorem freeFrom_spec (t:T) (hr:Ris t) (i:Int) (h:∀ e ∈ t,i≤e.nd.id):∃ k:Nat,freeFrom i t=i+k∧k≤t.length∧(∀ e ∈ t,e.nd.id≠i+k)∧(∀ j:Nat,j<k→(t[j]?).map (·.nd.id)=some (i+j))∧(∀ j:Nat,k≤j→∀ e,t[j]?=some e→i+k<e.nd.id):=by
 induction t generalizing i with
 | nil=>exact ⟨0,by simp [freeFrom],by simp,by simp,by simp,by simp⟩
 | cons e t ih =>
   have hr2:=List.pairwise_cons.1 hr
   by_cases h1:e.nd.id=i
   ·obtain ⟨k,h2,h3,h4,h5,h6⟩:=ih hr2.2 (i+1) fun m hm=>by have:=hr2.1 m hm;omega
    refine ⟨k+1,by rw [freeFrom,if_pos h1,h2];omega,by simp only [List.length_cons];omega,fun m hm=>?_,fun j hj=>?_,fun j hj m hm=>?_⟩
    ·rcases List.mem_cons.1 hm with rfl|hm
     ·omega
     ·have:=h4 m hm;omega
    ·cases j with
     | zero=>simp [h1]
     | succ j =>
       have:=h5 j (by omega)
       simp only [List.getElem?_cons_succ,this]
       congr 1;omega
    ·cases j with
     | zero=>omega
     | succ j =>
       have:=h6 j (by omega) m (by simpa using hm)
       omega
   ·have h2:=h e (.head _)
    refine ⟨0,by rw [freeFrom,if_neg h1];simp,by omega,fun m hm=>?_,fun j hj=>by omega,fun j hj m hm=>?_⟩
    ·rcases List.mem_cons.1 hm with rfl|hm
     ·omega
     ·have:=hr2.1 m hm;omega
    ·cases j with
     | zero =>
       obtain rfl:e=m:=by simpa using hm
       omega
     | succ j =>
       have:=hr2.1 m (List.mem_of_getElem? (by simpa using hm))
       omega
end Tr
end Go.Proofs.YtjoedamiilgajaaGreat
namespace Go.Proofs.YtjoedamiilgajaaGreat
open Go.RowKit
theorem run_append_big {P:Program} (w:World) (base:Nat) (t ty e:TypeId) (i:TypeInfo) (ht:P.underlying t=some (.slice e)) (hi:P.info? e=some i) (hz:i.zero=some (.int .u8 0)) (hsize:i.size=1) (hby:i.bytes=1)
    (v:Value) (n:Nat) (xs:List Value) (hown:w.ownsRow base e 1 v n xs) (A:Option Addr) (l:List UInt8) (c:Nat) (hr:Rd w A l) (hn:n+l.length≤140737488355328) (hbase:base≤w.heap.size) :
    ∃ v' w',(Builtin.append_ #[t,t] ty #[v,.slice A l.length c]).run P w=.ok v' w'∧w'.ownsRow base e 1 v' (n+l.length) (xs++Lib.byteCells l)∧w.grownBy w' v.ownBlock:=by
 cases A with
 | none =>
   have hl:l=[]:=by
    rcases Nat.eq_zero_or_pos l.length with h|h
    ·exact List.eq_nil_of_length_eq_zero h
    ·obtain ⟨b,off,h1,_⟩:=hr h
     cases h1
   subst hl
   refine ⟨v,w,?_,by simpa [Lib.byteCells] using hown,⟨rfl,rfl,rfl,Nat.le_refl _,fun _ _ _=>rfl⟩⟩
   show (Builtin.append_ #[t,t] ty #[v,.slice none 0 c]).run P w=.ok v w
   rcases hown.2 with ⟨rfl,rfl⟩|⟨g,cap,cur,rfl,_,_,hnc,_⟩
   ·simp [Builtin.append_,run_underlying ht,sizeOf,typeInfo,hi,Builtin.lenOf,Builtin.firstCells]
   ·simp [Builtin.append_,run_underlying ht,sizeOf,typeInfo,hi,Builtin.lenOf,Builtin.firstCells,hnc,storeCells]
 | some ad =>
   have hc:∀ j u,(Lib.byteCells l)[j]?=some u→w.cell? (ad.add j)=some u:=by
    intro j u hu
    simp only [Lib.byteCells,List.getElem?_map,Option.map_eq_some_iff] at hu
    obtain ⟨x,hx,rfl⟩:=hu
    obtain ⟨b,off,h1,_,h2⟩:=hr (by have:=(List.getElem?_eq_some_iff.1 hx).1;omega)
    obtain rfl:ad=⟨b,off,none⟩:=by injection h1
    rw [add_plain]
    exact h2 j x hx
   obtain ⟨v',w',h1,h2,h3,_⟩:=run_append_own (P:=P) (w:=w) base t ty e i (.int .u8 0) 1 1 ht hi hz hsize hby rfl (by decide) v n xs hown ad l.length c (Lib.byteCells l) (by simp [Lib.byteCells_length]) hc (bytes_one l) (by unfold maxLen;omega) (by omega) hbase
   exact ⟨v',w',h1,h2,h3⟩
theorem wpList_append_big {P:Program} {w:World} {ops:Array Oper} {rest:List Oper} {o:Oper} {a:Act} {Q:Exit→Act→World→Prop} (hgd:o.guard=none) (s x:Operand) (t:TypeId)
    (ho:o.op=.call { callee:=.builtin .append,args:=#[s,x],argTypes:=#[t,t] })
    (base:Nat) (e:TypeId) (i:TypeInfo) (ht:P.underlying t=some (.slice e)) (hi:P.info? e=some i) (hz:i.zero=some (.int .u8 0)) (hsize:i.size=1) (hby:i.bytes=1)
    (v:Value) (n:Nat) (xs:List Value) (hs:a.eval s=v) (hown:w.ownsRow base e 1 v n xs) (A:Option Addr) (l:List UInt8) (m c:Nat) (hm:l.length=m) (hx:a.eval x=.slice A m c) (hr:Rd w A l) (hn:n+l.length≤140737488355328) (hbase:base≤w.heap.size)
    (h:∀ v' w',Hid (w'.ownsRow base e 1 v' (n+l.length) (xs++Lib.byteCells l))→Hid (w.grownBy w' v.ownBlock)→wpList P ops Q rest (a.put o.dst v') w'):wpList P ops Q (o :: rest) a w:=by
 subst hm
 refine wpList_plain hgd fun K hK=>?_
 obtain ⟨v',w',hrun,h1,h2⟩:=run_append_big w base t o.type e i ht hi hz hsize hby v n xs hown A l c hr hn hbase
 unfold Oper.wp
 simp [execOp,ho,resolve,invoke,builtin,hs,hx,hrun,Result.andThen]
 exact hK _ _ (h v' w' h1 h2)
end Go.Proofs.YtjoedamiilgajaaGreat
namespace Go.Proofs.YtjoedamiilgajaaGreat.Rc
open Go Go.RowKit Go.Proofs.YtjoedamiilgajaaGreat.Rg
structure Mod (w w':World) (X:Nat→Prop):Prop where
 os:w'.os=w.os
 tape:w'.tape=w.tape
 output:w'.output=w.output
 size:w.heap.size≤w'.heap.size
 block:∀ k,k<w.heap.size→¬ X k→w'.heap[k]?=w.heap[k]?
theorem Mod.refl (w:World) (X:Nat→Prop):Mod w w X:=⟨rfl,rfl,rfl,Nat.le_refl _,fun _ _ _=>rfl⟩
theorem Mod.trans {a b c:World} {X:Nat→Prop} (h:Mod a b X) (k:Mod b c X):Mod a c X :=
 ⟨k.os.trans h.os,k.tape.trans h.tape,k.output.trans h.output,Nat.le_trans h.size k.size,fun i hi hn=>(k.block i (Nat.lt_of_lt_of_le hi h.size) hn).trans (h.block i hi hn)⟩
theorem Mod.mono {a b:World} {X Y:Nat→Prop} (h:Mod a b X) (hXY:∀ k,k<a.heap.size→X k→Y k):Mod a b Y:=⟨h.os,h.tape,h.output,h.size,fun k hk hn=>h.block k hk fun hx=>hn (hXY k hk hx)⟩
theorem Mod.of_below {a b:World} (h:Below a.heap.size a b) (X:Nat→Prop):Mod a b X:=⟨h.os,h.tape,h.output,h.size,fun k hk _=>h.block k hk⟩
theorem Mod.below {a b:World} {X:Nat→Prop} (h:Mod a b X) (hX:∀ k,X k→a.heap.size≤k):Below a.heap.size a b:=⟨h.os,h.tape,h.output,h.size,fun k hk=>h.block k hk fun hx=>Nat.not_lt.2 (hX k hx) hk⟩
theorem Mod.undrew {a b:World} {X:Nat→Prop} (h:Mod a.drew b X):Mod a b X:=⟨h.os,h.tape,h.output,h.size,h.block⟩
structure Fact where
 holds:Value→World→(Nat→Prop)→Prop
 keep:∀ v w w' S,holds v w S→w.heap.size≤w'.heap.size→(∀ b,S b→w'.heap[b]?=w.heap[b]?)→holds v w' S
def Live (cons:List (Nat × Nat)) (L:Nat→Prop) (i:Nat):Prop:=L i∧∀ k,L k→(k,i) ∉ cons
structure Inv (F:Nat→Fact) (cons:List (Nat × Nat)) (E:Nat→(Nat→Value)→Value→Prop) (W0:World) (X0:Nat→Prop) (L:Nat→Prop) (V:Nat→Value) (S:Nat→Nat→Prop) (w:World):Prop where
 mod:Mod W0 w X0
 holds:∀ i,Live cons L i→(F i).holds (V i) w (S i)
 lt:∀ i b,Live cons L i→S i b→b<w.heap.size∧(X0 b∨W0.heap.size≤b)
 sep:∀ i j b,Live cons L i→Live cons L j→i≠j→S i b→¬ S j b
 eqs:∀ j,L j→E j V (V j)
def Taken (cons:List (Nat × Nat)) (S:Nat→Nat→Prop) (j:Nat) (b:Nat):Prop:=∃ i,(j,i) ∈ cons∧S i b
def Good (F:Nat→Fact) (cons:List (Nat × Nat)) (E:Nat→(Nat→Value)→Value→Prop) (V:Nat→Value) (S:Nat→Nat→Prop) (j:Nat) (w:World) (v:Value) (w':World):Prop :=
 ∃ T:Nat→Prop,Mod w w' (Taken cons S j)∧(F j).holds v w' T∧(∀ b,T b→(Taken cons S j b∨w.heap.size≤b)∧b<w'.heap.size)∧E j V v
section
variable {P:Program} {ops:Array Oper} {Q:Exit→Act→World→Prop} {F:Nat→Fact} {cons:List (Nat × Nat)} {E:Nat→(Nat→Value)→Value→Prop}
theorem Inv.step {W0:World} {X0:Nat→Prop} {L:Nat→Prop} {V:Nat→Value} {S:Nat→Nat→Prop} {w w':World} {j:Nat} {v:Value} (h:Inv F cons E W0 X0 L V S w) (hj:¬ L j) (hc:∀ i,(j,i) ∈ cons→Live cons L i) (hnc:∀ k,L k→(k,j) ∉ cons) (hjj:(j,j) ∉ cons)
    (hse:∀ k,L k→∀ V',(∀ i,L i→V i=V' i)→E k V (V k)→E k V' (V k)) (hsj:∀ V',(∀ i,L i→V i=V' i)→E j V v→E j V' v) (hg:Good F cons E V S j w v w') :
    ∃ T,Inv F cons E W0 X0 (fun k=>k=j∨L k) (fun k=>if k=j then v else V k) (fun k=>if k=j then T else S k) w':=by
 obtain ⟨T,hg,hf,ho,heq⟩:=hg
 have live:∀ k,k≠j→Live cons (fun k=>k=j∨L k) k→Live cons L k∧(j,k) ∉ cons:=fun k hk ⟨h1,h2⟩=>⟨⟨h1.resolve_left hk,fun m hm=>h2 m (.inr hm)⟩,h2 j (.inl rfl)⟩
 have far:∀ k,k≠j→Live cons (fun k=>k=j∨L k) k→∀ b,S k b→b<w.heap.size∧¬ Taken cons S j b:=fun k hk hl b hb=>by
  obtain ⟨h1,h2⟩:=live k hk hl
  refine ⟨(h.lt k b h1 hb).1,fun ⟨i,hi,hib⟩=>?_⟩
  exact h.sep k i b h1 (hc i hi) (fun e=>h2 (by rw [e];exact hi)) hb hib
 have agree:∀ i,L i→V i=(fun k=>if k=j then v else V k) i:=fun i hi=>by
  have:i≠j:=fun e=>hj (e ▸ hi)
  simp [this]
 refine ⟨T,?_,fun k hk=>?_,fun k b hk hb=>?_,fun i k b hi hk hne hib hkb=>?_,fun k hk=>?_⟩
 ·refine ⟨hg.os.trans h.mod.os,hg.tape.trans h.mod.tape,hg.output.trans h.mod.output,Nat.le_trans h.mod.size hg.size,fun k hk hn=>?_⟩
  refine (hg.block k (Nat.lt_of_lt_of_le hk h.mod.size) fun ⟨i,hi,hib⟩=>?_).trans (h.mod.block k hk hn)
  rcases (h.lt i k (hc i hi) hib).2 with h1|h1
  ·exact hn h1
  ·omega
 ·by_cases e:k=j
  ·subst e;simp only [if_true];exact hf
  ·simp only [if_neg e]
   refine (F k).keep _ _ _ _ (h.holds k (live k e hk).1) hg.size fun b hb=>?_
   have:=far k e hk b hb
   exact hg.block b this.1 this.2
 ·by_cases e:k=j
  ·subst e
   simp only [if_true] at hb
   obtain ⟨h1,h2⟩:=ho b hb
   refine ⟨h2,?_⟩
   rcases h1 with ⟨i,hi,hib⟩|h1
   ·exact (h.lt i b (hc i hi) hib).2
   ·exact .inr (Nat.le_trans h.mod.size h1)
  ·simp only [if_neg e] at hb
   have:=h.lt k b (live k e hk).1 hb
   exact ⟨Nat.lt_of_lt_of_le this.1 hg.size,this.2⟩
 ·by_cases ei:i=j
  ·subst ei
   simp only [if_true] at hib
   simp only [if_neg (Ne.symm hne)] at hkb
   obtain ⟨h1,h2⟩:=far k (Ne.symm hne) hk b hkb
   rcases (ho b hib).1 with h3|h3
   ·exact h2 h3
   ·omega
  ·simp only [if_neg ei] at hib
   by_cases ek:k=j
   ·subst ek
    simp only [if_true] at hkb
    obtain ⟨h1,h2⟩:=far i ei hi b hib
    rcases (ho b hkb).1 with h3|h3
    ·exact h2 h3
    ·omega
   ·simp only [if_neg ek] at hkb
    exact h.sep i k b (live i ei hi).1 (live k ek hk).1 hne hib hkb
 ·by_cases e:k=j
  ·subst e
   simp only [if_true]
   exact hsj _ agree heq
  ·simp only [if_neg e]
   have hk2:=hk.resolve_left e
   exact hse k hk2 _ agree (h.eqs k hk2)
def check (ops:Array Oper) (nv:Nat) (use:List (List (Nat × Nat))) (bef reads:List (List Nat)) (cons:List (Nat × Nat)):Bool :=
 Rg.distinct ops&&Region.noSelect ops &&
 (List.range ops.size).all (fun j=>match ops[j]? with
  | none=>false
  | some o =>
    (use.getD j []).all (fun i=>(ops[i.1]?).bind (·.dst)==some i.2&&(bef.getD j []).contains i.1) &&
    (bef.getD j []).all (fun i=>decide (i<j)&&o.after.any (fun e=>Region.binds .any e&&(e.on==i || (bef.getD e.on []).contains i))) &&
    o.after.all (fun e=>!Region.binds .any e || decide (e.on<j)) &&
    (o.looksAt ops).all (fun t=>(List.range ops.size).all fun i=>(nums use j).contains i || (match ops[i]? with|some x=>x.dst != some t|none=>true)) &&
    decide ((nums use j).Nodup) &&
    (reads.getD j []).all (fun i=>((bef.getD j []).contains i || (decide (ops.size≤i)&&decide (i<ops.size+nv)))&&cons.all (fun x=>x.2 != i || x.1==j || (bef.getD x.1 []).contains j)) &&
    (match o.guard with|some (g,_)=>(nums use j).contains g|none=>true)) &&
 cons.all (fun x=>(reads.getD x.1 []).contains x.2&&decide (x.1<ops.size))
structure Use (F:Nat→Fact) (V:Nat→Value) (S:Nat→Nat→Prop) (w:World) (l:List Nat):Prop where
 holds:∀ i,i ∈ l→(F i).holds (V i) w (S i)
 lt:∀ i,i ∈ l→∀ b,S i b→b<w.heap.size
 sep:∀ i,i ∈ l→∀ k,k ∈ l→i≠k→∀ b,S i b→¬ S k b
theorem run_all (nv:Nat) (use:List (List (Nat × Nat))) (bef reads:List (List Nat)) (hchk:Rc.check ops nv use bef reads cons=true) (hE:∀ j V V' v,(∀ i ∈ nums use j,V i=V' i)→E j V v→E j V' v) (a0:Act) (W0:World) (X0:Nat→Prop)
    (hE0:∀ j,ops.size≤j→∀ V v,E j V v)
    (hstep:∀ j o,ops[j]?=some o→∀ V S w,Mod W0 w X0→Use F V S w (reads.getD j [])→(∀ i ∈ nums use j,E i V (V i))→Does P ops o (pU V (use.getD j []) a0) w (Good F cons E V S j w))
    (hend:∀ V S w a,Inv F cons E W0 X0 (fun i=>i<ops.size+nv) V S w→Frm ops (fun i=>i<ops.size) V a0 a→Q .normal a w) :
    ∀ (fuel:Nat) (listed:Array Bool) (V:Nat→Value) (S:Nat→Nat→Prop) (a:Act) (w:World),listed.size=ops.size→(listed.toList.filter (!·)).length≤fuel →
     (∀ k o,ops[k]?=some o→listed.getD k false=true→∀ e ∈ o.after,Region.binds .any e=true→listed.getD e.on false=true) →
     Inv F cons E W0 X0 (fun i=>listed.getD i false=true∨(ops.size≤i∧i<ops.size+nv)) V S w→Frm ops (fun i=>listed.getD i false=true) V a0 a→wpAny P .any ops Q fuel listed a w:=by
 simp only [Rc.check,Bool.and_eq_true] at hchk
 obtain ⟨⟨⟨hdis,hsel⟩,hops⟩,hcons⟩:=hchk
 have hO:∀ j o,ops[j]?=some o→(∀ x ∈ use.getD j [],(ops[x.1]?).bind (·.dst)=some x.2∧x.1 ∈ bef.getD j [])∧(∀ i ∈ bef.getD j [],i<j∧∃ e ∈ o.after,Region.binds .any e=true∧(e.on=i∨i ∈ bef.getD e.on []))∧(∀ e ∈ o.after,Region.binds .any e=true→e.on<j) ∧
     (∀ t ∈ o.looksAt ops,∀ i x,ops[i]?=some x→x.dst=some t→i ∈ nums use j)∧(nums use j).Nodup∧(∀ i ∈ reads.getD j [],(i ∈ bef.getD j []∨(ops.size≤i∧i<ops.size+nv))∧∀ x ∈ cons,x.2=i→x.1=j∨j ∈ bef.getD x.1 []):=by
  intro j o ho
  have h:=List.all_eq_true.1 hops j (List.mem_range.2 (Array.getElem?_eq_some_iff.1 ho).1)
  simp only [ho,Bool.and_eq_true] at h
  obtain ⟨⟨⟨⟨⟨⟨h1,h2⟩,h3⟩,h4⟩,h5⟩,h6⟩,_⟩:=h
  refine ⟨fun x hx=>?_,fun i hi=>?_,fun e he hb=>?_,fun t ht i x hx hd=>?_,by simpa using h5,fun i hi=>?_⟩
  ·have:=List.all_eq_true.1 h1 x hx
   simp only [Bool.and_eq_true,beq_iff_eq] at this
   exact ⟨this.1,by simpa using this.2⟩
  ·have:=List.all_eq_true.1 h2 i hi
   simp only [Bool.and_eq_true,decide_eq_true_eq] at this
   obtain ⟨e,he,hb⟩:=Array.any_eq_true'.1 this.2
   simp only [Bool.and_eq_true,Bool.or_eq_true,beq_iff_eq] at hb
   exact ⟨this.1,e,he,hb.1,hb.2.imp id (fun h=>by simpa using h)⟩
  ·have:=Array.all_eq_true_iff_forall_mem.1 h3 e he
   simpa [hb] using this
  ·have:=List.all_eq_true.1 (List.all_eq_true.1 h4 t ht) i (List.mem_range.2 (Array.getElem?_eq_some_iff.1 hx).1)
   simpa [hx,hd] using this
  ·have:=List.all_eq_true.1 h6 i hi
   simp only [Bool.and_eq_true,Bool.or_eq_true,decide_eq_true_eq] at this
   refine ⟨this.1.imp (fun h=>by simpa using h) id,fun x hx e=>?_⟩
   have h7:=List.all_eq_true.1 this.2 x hx
   simpa [e] using h7
 have hC:∀ j i,(j,i) ∈ cons→i ∈ reads.getD j []∧j<ops.size:=fun j i h=>by
  have:=List.all_eq_true.1 hcons _ h
  simpa using this
 intro fuel
 have all_of:∀ listed:Array Bool,listed.size=ops.size→Region.ready .any ops listed=[]→∀ k,k<ops.size→listed.getD k false=true:=by
  intro listed hsz hr k
  induction k using Nat.strongRecOn with
  | _ k ih =>
    intro hk
    by_cases hl:listed.getD k false=true
    ·exact hl
    ·exfalso
     have:k ∈ Region.ready .any ops listed:=mem_ready.2 ⟨by
      simp only [Array.getD_eq_getD_getElem?] at hl ⊢
      rw [Array.getElem?_eq_getElem (by omega)] at hl ⊢
      simpa using hl,_,Array.getElem?_eq_getElem hk,fun e he hb=>ih e.on ((hO k _ (Array.getElem?_eq_getElem hk)).2.2.1 e he hb) (Nat.lt_trans ((hO k _ (Array.getElem?_eq_getElem hk)).2.2.1 e he hb) hk)⟩
     rw [hr] at this
     cases this
 have lis_lt:∀ (listed:Array Bool),listed.size=ops.size→∀ i,listed.getD i false=true→i<ops.size:=fun listed hsz i h=>by
  rcases Nat.lt_or_ge i ops.size with h1|h1
  ·exact h1
  ·simp [Array.getD_eq_getD_getElem?,Array.getElem?_eq_none (show listed.size≤i by omega)] at h
 have fin:∀ (listed:Array Bool) (V:Nat→Value) (S:Nat→Nat→Prop) (a:Act) (w:World),listed.size=ops.size→Region.ready .any ops listed=[] →
     Inv F cons E W0 X0 (fun i=>listed.getD i false=true∨(ops.size≤i∧i<ops.size+nv)) V S w→Frm ops (fun i=>listed.getD i false=true) V a0 a→Q .normal a w:=by
  intro listed V S a w hsz hr hi hf
  have hall:=all_of listed hsz hr
  have heq:∀ i,(listed.getD i false=true)↔i<ops.size:=fun i=>⟨lis_lt listed hsz i,hall i⟩
  refine hend V S w a ?_ (hf.congr heq fun _ _=>rfl)
  have:(fun i=>listed.getD i false=true∨(ops.size≤i∧i<ops.size+nv))=(fun i=>i<ops.size+nv):=funext fun i=>propext (by rw [heq];omega)
  rwa [this] at hi
 /- what is listed has all that comes before it listed -/
 have befL:∀ listed:Array Bool,(∀ k o,ops[k]?=some o→listed.getD k false=true→∀ e ∈ o.after,Region.binds .any e=true→listed.getD e.on false=true) →
     ∀ j o,ops[j]?=some o→(∀ e ∈ o.after,Region.binds .any e=true→listed.getD e.on false=true)→∀ i ∈ bef.getD j [],listed.getD i false=true:=by
  intro listed hcl j
  induction j using Nat.strongRecOn with
  | _ j ih =>
    intro o ho haft i hi
    obtain ⟨_,e,he,hb,h⟩:=(hO j o ho).2.1 i hi
    have hel:=haft e he hb
    rcases h with rfl|h
    ·exact hel
    ·have hlt:=(hO j o ho).2.2.1 e he hb
     have hon:e.on<ops.size:=Nat.lt_trans hlt (Array.getElem?_eq_some_iff.1 ho).1
     exact ih e.on hlt _ (Array.getElem?_eq_getElem hon) (hcl _ _ (Array.getElem?_eq_getElem hon) hel) i h
 induction fuel with
 | zero =>
   intro listed V S a w hsz hfu hcl hi hf
   have hr:Region.ready .any ops listed=[]:=by
    apply List.eq_nil_iff_forall_not_mem.2
    intro j hj
    obtain ⟨h1,o,ho,_⟩:=mem_ready.1 hj
    have h2:=left_none listed.toList (by omega) j (by simp;rw [hsz];exact (Array.getElem?_eq_some_iff.1 ho).1)
    simp only [Array.getElem?_toList] at h2
    simp [Array.getD_eq_getD_getElem?,h2] at h1
   exact ⟨hr,fin listed V S a w hsz hr hi hf⟩
 | succ fuel ih =>
   intro listed V S a w hsz hfu hcl hi hf
   refine ⟨fun hr=>fin listed V S a w hsz hr hi hf,fun j hj=>?_⟩
   obtain ⟨hjf,o,ho,haft⟩:=mem_ready.1 hj
   have hjlt:j<ops.size:=(Array.getElem?_eq_some_iff.1 ho).1
   have hjs:listed[j]?=some false:=by
    simp only [Array.getD_eq_getD_getElem?,Array.getElem?_eq_getElem (show j<listed.size by omega),Option.getD_some] at hjf ⊢
    rw [hjf]
   have hjn:¬ listed.getD j false=true:=by simp [Array.getD_eq_getD_getElem?,hjs]
   obtain ⟨h0,h1,h2,h3,h4,h5⟩:=hO j o ho
   have hBL:=befL listed hcl j o ho haft
   have hUL:∀ i,i ∈ nums use j→listed.getD i false=true:=fun i hi=>by
    obtain ⟨x,hx,rfl⟩:=List.mem_map.1 hi
    exact hBL _ (h0 x hx).2
   have hjL:¬ (listed.getD j false=true∨(ops.size≤j∧j<ops.size+nv)):=by
    rintro (h|h)
    ·exact hjn h
    ·omega
   have kL:∀ k,(listed.getD k false=true∨(ops.size≤k∧k<ops.size+nv))→k<ops.size→listed.getD k false=true:=fun k hk hlt=>hk.resolve_right (by omega)
   have jbef:∀ k,k<ops.size→listed.getD k false=true→¬ j ∈ bef.getD k []:=fun k hkl hk hb =>
    hjn (befL listed hcl k _ (Array.getElem?_eq_getElem hkl) (hcl k _ (Array.getElem?_eq_getElem hkl) hk) j hb)
   have hlive:∀ i,i ∈ reads.getD j []→Live cons (fun i=>listed.getD i false=true∨(ops.size≤i∧i<ops.size+nv)) i:=fun i hir=>by
    obtain ⟨h6,h7⟩:=h5 i hir
    refine ⟨h6.imp (hBL i) id,fun k hk hck=>?_⟩
    have hkl:=(hC k i hck).2
    rcases h7 _ hck rfl with h8|h8
    ·simp only at h8
     subst h8
     exact hjL hk
    ·exact jbef k hkl (kL k hk hkl) h8
   have hd:=hstep j o ho V S w hi.mod ⟨fun i hir=>hi.holds i (hlive i hir),fun i hir b hb=>(hi.lt i b (hlive i hir) hb).1,fun i hir k hkr hne b hib=>hi.sep i k b (hlive i hir) (hlive k hkr) hne hib⟩ (fun i hiu=>hi.eqs i (.inl (hUL i hiu)))
   have hb:=Frm.pU (V:=V) (a0:=a0) hdis (use.getD j []) (fun x hx=>(h0 x hx).1) h4
   refine Does.at_ ho (Region.noSelect_spec hsel j o · · ho) (hf.size.trans hb.size.symm) (fun t ht=>hf.at_ hb t (fun i x hx hd=>?_)) hd (fun v w' hg=>?_)
   ·exact ⟨fun _=>h3 t ht i x hx hd,fun h=>hUL i h⟩
   ·have hus:∀ k,(listed.getD k false=true∨(ops.size≤k∧k<ops.size+nv))→∀ i ∈ nums use k,k<ops.size→listed.getD i false=true:=fun k hk i hik hkl=>by
     obtain ⟨x,hx,rfl⟩:=List.mem_map.1 hik
     exact befL listed hcl k _ (Array.getElem?_eq_getElem hkl) (hcl k _ (Array.getElem?_eq_getElem hkl) (kL k hk hkl)) _ ((hO k _ (Array.getElem?_eq_getElem hkl)).1 x hx).2
    obtain ⟨T,h6⟩:=hi.step (v:=v) hjL (fun i hci=>hlive i (hC j i hci).1) (fun k hk hck=>by
        have hkl:k<ops.size:=(hC k j hck).2
        have:=(hO k _ (Array.getElem?_eq_getElem hkl)).2.2.2.2.2 j (hC k j hck).1
        rcases this.1 with h7|h7
        ·exact jbef k hkl (kL k hk hkl) h7
        ·omega) (fun hcj=>by
        have:=(h5 j (hC j j hcj).1).1
        rcases this with h7|h7
        ·exact Nat.lt_irrefl j (h1 j h7).1
        ·omega) (fun k hk V' hV h=>by
        rcases Nat.lt_or_ge k ops.size with hkl|hkl
        ·exact hE k V V' _ (fun i hik=>hV i (.inl (hus k hk i hik hkl))) h
        ·exact hE0 k hkl _ _) (fun V' hV=>hE j V V' _ (fun i hij=>hV i (.inl (hUL i hij)))) hg
    refine ih (listed.setIfInBounds j true) (fun k=>if k=j then v else V k) (fun k=>if k=j then T else S k) (a.put o.dst v) w' (by simpa using hsz) ?_ ?_ ?_ ?_
    ·have:=left_set listed.toList j (by simpa using hjs)
     rw [Array.toList_setIfInBounds]
     omega
    ·intro k ok hok hk e he hb2
     rw [getD_set] at hk ⊢
     rcases hk with ⟨rfl,_⟩|hk
     ·obtain rfl:ok=o:=by rw [ho] at hok;exact (Option.some.inj hok).symm
      exact .inr (haft e he hb2)
     ·exact .inr (hcl k ok hok hk e he hb2)
    ·have e:(fun i=>(listed.setIfInBounds j true).getD i false=true∨(ops.size≤i∧i<ops.size+nv))=(fun k=>k=j∨(listed.getD k false=true∨(ops.size≤k∧k<ops.size+nv))):=funext fun k=>propext (by
      rw [getD_set];constructor
      ·rintro ((⟨h,_⟩|h)|h)
       ·exact .inl h
       ·exact .inr (.inl h)
       ·exact .inr (.inr h)
      ·rintro (h|h|h)
       ·exact .inl (.inl ⟨h,by omega⟩)
       ·exact .inl (.inr h)
       ·exact .inr h)
     rw [e];exact h6
    ·refine (hf.step hdis j o ho hjn v).congr (fun k=>?_) (fun _ _=>rfl)
     rw [getD_set];constructor
     ·rintro (h|h)
      ·exact .inl ⟨h,by omega⟩
      ·exact .inr h
     ·rintro (⟨h,_⟩|h)
      ·exact .inl h
      ·exact .inr h
theorem wp_region {id:Nat} {a0:Act} {w0:World} (hm:P.follows .mixedOrders=true) (F:Nat→Fact) (nv:Nat) (al:List (Nat × Nat × (Value→Value))) (use:List (List (Nat × Nat))) (bef reads:List (List Nat)) (cons:List (Nat × Nat)) (hchk:Rc.check ops nv use bef reads cons=true)
    (hal:(al.all fun x=>decide (x.1<ops.size)&&(nums use x.1).contains x.2.1)=true) (hsz:(ops.all fun o=>(o.dst.map fun d=>decide (d<a0.tmps.size)).getD true)=true)
    (X0:Nat→Prop) (S0:Nat→Nat→Prop) (h0:Inv F cons (alias al) w0.drew X0 (fun i=>ops.size≤i∧i<ops.size+nv) (fun _=>undef) S0 w0.drew)
    (hstep:∀ a1,a1=a0→Rg.Steps (fun j o=>∀ V S w,Mod w0 w X0→Use F V S w (reads.getD j [])→(∀ i ∈ nums use j,alias al i V (V i))→Dz P o V (pU V (use.getD j []) a1) w (Good F cons (alias al) V S j w)) 0 ops.toList)
    (hend:∀ V S w,Inv F cons (alias al) w0.drew X0 (fun i=>i<ops.size+nv) V S w→Q .normal (putList ops.toList 0 V a0) w):(Code.region id ops true).wp P Q a0 w0:=by
 refine wp_region_any hm ?_
 have hchk0:=hchk
 simp only [Rc.check,Bool.and_eq_true] at hchk
 obtain ⟨⟨⟨hdis,_⟩,hops⟩,_⟩:=hchk
 have hal2:(al.all fun x=>(nums use x.1).contains x.2.1)=true:=List.all_eq_true.2 fun x hx=>by
  have:=List.all_eq_true.1 hal x hx
  simp only [Bool.and_eq_true] at this
  exact this.2
 have no:∀ i,¬ ((Array.replicate ops.size false).getD i false=true):=fun i h=>by
  simp [Array.getD_eq_getD_getElem?,Array.getElem?_replicate] at h
  split at h <;> simp at h
 refine run_all (F:=F) (cons:=cons) nv use bef reads hchk0 (alias_dep hal2) a0 w0.drew X0 (fun j hj V v i f hm=>?_) (fun j o ho=>?_) (fun V S w a hi hf=>?_) _ _ (fun _=>undef) S0 _ _ (by simp) ?_ ?_ ?_ ?_
 ·have:=List.all_eq_true.1 hal _ hm
  simp only [Bool.and_eq_true,decide_eq_true_eq] at this
  omega
 ·intro V S w hl hh he
  have h1:=(hstep a0 rfl).get j o (by simpa using ho) V S w hl.undrew (by simpa using hh) (by simpa using he)
  simp only [Nat.zero_add] at h1
  unfold Dz at h1
  unfold Does
  cases hgd:o.guard with
  | none =>
    rw [hgd] at h1
    exact .inr ⟨by unfold Region.wanted;rw [hgd],h1⟩
  | some gw =>
    obtain ⟨g,want⟩:=gw
    rw [hgd] at h1
    simp only at h1
    have hy:∀ x,V g=.bool x→yielded ops (pU V (use.getD j []) a0).tmps g=some x:=by
     intro x hx
     have h:=List.all_eq_true.1 hops j (List.mem_range.2 (Array.getElem?_eq_some_iff.1 ho).1)
     simp only [ho,Bool.and_eq_true,hgd] at h
     obtain ⟨⟨⟨⟨⟨⟨h1,_⟩,_⟩,_⟩,h4⟩,_⟩,h6⟩:=h
     have h0:∀ x ∈ use.getD j [],(ops[x.1]?).bind (·.dst)=some x.2:=fun x hx=>by
      have:=List.all_eq_true.1 h1 x hx
      simp only [Bool.and_eq_true,beq_iff_eq] at this
      exact this.1
     have hb:=Frm.pU (V:=V) (a0:=a0) hdis (use.getD j []) h0 (by simpa [nums] using h4)
     have h6:g ∈ nums use j:=by simpa using h6
     obtain ⟨y,hy,rfl⟩:=List.mem_map.1 h6
     obtain ⟨og,hog,hdg⟩:=Option.bind_eq_some_iff.1 (h0 y hy)
     have hlt:=Array.all_eq_true_iff_forall_mem.1 hsz og (Array.mem_of_getElem? hog)
     simp only [hdg,Option.map_some,Option.getD_some,decide_eq_true_eq] at hlt
     have h7:=hb.put y.1 og y.2 hog hdg h6
     rw [if_pos hlt,hx] at h7
     unfold yielded
     rw [h0 y hy]
     simp only [Option.bind_some]
     rw [h7]
    rcases h1 with ⟨h1,h2⟩|⟨h1,h2⟩
    ·exact .inr ⟨by unfold Region.wanted;rw [hgd];simp only [];rw [hy _ h1];exact beq_self_eq_true _,h2⟩
    ·refine .inl ⟨?_,h2⟩
     unfold Region.wanted;rw [hgd];simp only [];rw [hy _ h1]
     cases want <;> rfl
 ·have h1:=Frm.putList (V:=V) (a0:=a0) hdis ops.toList 0 a0 (fun k _=>by simp) ((Frm.refl ops V a0).congr (fun i=>by simp) fun _ _=>rfl)
  have h2:a=putList ops.toList 0 V a0:=hf.uniq (h1.congr (fun i=>by simp) fun _ _=>rfl)
  rw [h2];exact hend V S w hi
 ·exact Nat.le_trans (List.length_filter_le _ _) (by simp)
 ·intro k o _ hk
  exact absurd hk (no k)
 ·have e:(fun i=>(Array.replicate ops.size false).getD i false=true∨(ops.size≤i∧i<ops.size+nv))=(fun i=>ops.size≤i∧i<ops.size+nv):=funext fun i=>propext ⟨fun h=>h.resolve_left (no i),.inr⟩
  rw [e];exact h0
 ·exact (Frm.refl ops _ a0).congr (fun i=>⟨fun h=>h.elim,fun h=>absurd h (no i)⟩) fun _ _=>rfl
end
theorem Inv.get {F:Nat→Fact} {cons:List (Nat × Nat)} {E:Nat→(Nat→Value)→Value→Prop} {W0:World} {X0:Nat→Prop} {V:Nat→Value} {S:Nat→Nat→Prop} {w:World} {n:Nat} (h:Inv F cons E W0 X0 (fun i=>i<n) V S w) (i:Nat) (hi:i<n) (hc:cons.all (fun x=>x.2 != i)=true):(F i).holds (V i) w (S i) :=
 h.holds i ⟨hi,fun k _ hk=>by have:=List.all_eq_true.1 hc _ hk;simp at this⟩
theorem Inv.same {F:Nat→Fact} {cons:List (Nat × Nat)} {al:List (Nat × Nat × (Value→Value))} {W0:World} {X0:Nat→Prop} {V:Nat→Value} {S:Nat→Nat→Prop} {w:World} {n:Nat} (h:Inv F cons (alias al) W0 X0 (fun i=>i<n) V S w) (j i:Nat) (f:Value→Value) (hj:j<n) (hm:(j,i,f) ∈ al):V j=f (V i):=h.eqs j hj i f hm
theorem Inv.none {F:Nat→Fact} {cons:List (Nat × Nat)} {E:Nat→(Nat→Value)→Value→Prop} {w:World} {n:Nat}:Inv F cons E w (fun _=>False) (fun i=>n≤i∧i<n+0) (fun _=>undef) (fun _ _=>False) w :=
 ⟨Mod.refl _ _,fun i h=>by have:=h.1;omega,fun i b h=>by have:=h.1;omega,fun i j b h=>by have:=h.1;omega,fun j h=>by omega⟩
def val (x:Value):Fact:=⟨fun v _ _=>v=x,fun _ _ _ _ h _ _=>h⟩
def any:Fact:=⟨fun _ _ _=>True,fun _ _ _ _ h _ _=>h⟩
section
variable {P:Program} {F:Nat→Fact} {cons:List (Nat × Nat)} {E:Nat→(Nat→Value)→Value→Prop} {V:Nat→Value} {S:Nat→Nat→Prop} {j:Nat} {o:Oper} {b:Act} {w:World}
theorem step_val (x:Value) (hE:E j V x) (hg:Rg.Open o V) (h:(execOp b.eval o).run P w=.ok (.value x) w) (hf:(F j).holds x w (fun _=>False)):Dz P o V b w (Good F cons E V S j w) :=
 .of hg fun K hK=>by unfold Oper.wp;rw [h];exact hK x w ⟨_,Mod.refl _ _,hf,fun b hb=>hb.elim,hE⟩
theorem step_new (v:Value) (w':World) (T:Nat→Prop) (hE:E j V v) (hg:Rg.Open o V) (h:(execOp b.eval o).run P w=.ok (.value v) w') (hb:Below w.heap.size w w') (hf:(F j).holds v w' T) (ho:∀ k,T k→w.heap.size≤k∧k<w'.heap.size):Dz P o V b w (Good F cons E V S j w) :=
 .of hg fun K hK=>by
  unfold Oper.wp;rw [h]
  exact hK v w' ⟨T,Mod.of_below hb _,hf,fun k hk=>⟨.inr (ho k hk).1,(ho k hk).2⟩,hE⟩
theorem step_call {f:FuncId} {xs:Array Operand} {ts:Array TypeId} (args:Array Value) (hent:∀ args w,(callFunc f args).run P w=.ok (.enter f args) w) (hop:o.op=.call { callee:=.value (.func f),args:=xs,argTypes:=ts }) (hargs:xs.map b.eval=args) (hE:∀ v,E j V v) (hg:Rg.Open o V)
    (h:Calls P f args w fun e w'=>∃ v T,e=.returned v∧Mod w w' (Taken cons S j)∧(F j).holds v w' T∧∀ k,T k→(Taken cons S j k∨w.heap.size≤k)∧k<w'.heap.size):Dz P o V b w (Good F cons E V S j w) :=
 .of hg fun K hK=>by
  have he:(execOp b.eval o).run P w=.ok (.enter f args) w:=by
   subst hargs
   have:execOp b.eval o=callFunc f (#[]++xs.map b.eval++#[]):=by
    obtain ⟨dst,op,ty,pos,after,guard⟩:=o
    simp only at hop
    subst hop
    rfl
   rw [this,hent]
   simp
  unfold Oper.wp;rw [he]
  refine h.mono ?_
  rintro e w' ⟨v,T,rfl,hb,hf,ho⟩
  exact hK v w' ⟨T,hb,hf,ho,hE v⟩
end
end Go.Proofs.YtjoedamiilgajaaGreat.Rc
namespace Go.Proofs.YtjoedamiilgajaaGreat
open Go.RowKit Rc
set_option maxHeartbeats 1000000 in
set_option maxRecDepth 100000 in
theorem clone_any (w:World) (A:Option Addr) (x:List UInt8) (cap:Nat) (hr:Rd w A x) (hx:x.length≤140737488355328) :
    Calls Tryz.prog 71 #[.slice A x.length cap] w fun e w'=>∃ v,e=.returned v∧w'.ownsRow w.heap.size 5 1 v x.length (Lib.byteCells x)∧Below w.heap.size w w':=by
 have q22:∀ (w:World) (a:Option Addr) (n c n' c':Nat),(binOp .eql 39 (.slice a n c) (.slice none n' c')).run Tryz.prog w=.ok (.bool a.isNone) w:=fun w a n c n' c'=>Lib.run_eql_slice_nil w _ _ a n c n' c' Tryz.underlying39
 cases A with
 | none =>
   obtain rfl:x=[]:=by
    rcases Nat.eq_zero_or_pos x.length with h|h
    ·exact List.eq_nil_of_length_eq_zero h
    ·obtain ⟨b,off,h1,_⟩:=hr h
     cases h1
   go_enter Tryz.func71,Tryz.ntmps71
   go_wp2_with fail
   go_ret
   exact ⟨_,rfl,own_nil _ _,Below.refl _ _⟩
 | some ad =>
   obtain ⟨i0,hi,hz0,hz1,hz2⟩:=info_parts Tryz.infoU8
   have HI0:=Lib.hid hi
   have HZ0:=Lib.hid hz0
   have HZ1:=Lib.hid hz1
   have HZ2:=Lib.hid hz2
   have H0:Hid (MAt w.heap.size (.slice (some ⟨w.heap.size,0,none⟩) 0 0) [] w (w.alloc (.cells #[] 5))):=MAt.empty w
   have HRW:Hid (Rd (w.alloc (.cells #[] 5)) (some ad) x):=hr.below (bN w _)
   clear hi hz0 hz1 hz2 hr
   go_enter Tryz.func71,Tryz.ntmps71
   go_wp2_with (at_builtin;refine wpList_append_big rfl (.tmp 5) (.tmp 6) 39 rfl w.heap.size 5 i0 Tryz.underlying39 HI0.out HZ0.out HZ1.out HZ2.out _ 0 [] rfl H0.out.1 (some ad) x x.length cap rfl rfl HRW.out (by omega) (by rw [World.size_alloc];omega) ?_;intro v1 w1 HO1 HG1;have H1:Hid (MAt w.heap.size v1 x w w1):=H0.out.push (Below.refl _ _) HO1.out HG1.out)
   clear HO1 HG1
   go_ret
   exact ⟨_,rfl,H1.out.1,H1.out.2.1⟩
theorem wpList_append_at_rd {P:Program} {w:World} {ops:Array Oper} {rest:List Oper} {o:Oper} {a:Act} {Q:Exit→Act→World→Prop} (hgd:o.guard=none) (s x:Operand) (t:TypeId)
    (ho:o.op=.call { callee:=.builtin .append,args:=#[s,x],argTypes:=#[t,t] })
    (base:Nat) (e:TypeId) (i:TypeInfo) (ht:P.underlying t=some (.slice e)) (hi:P.info? e=some i) (hz:i.zero=some (.int .u8 0)) (hsize:i.size=1) (hby:i.bytes=1)
    (v:Value) (n:Nat) (xs:List Value) (hs:a.eval s=v) (hown:w.ownsRow base e 1 v n xs) (A:Option Addr) (l:List UInt8) (m c:Nat) (hm:l.length=m) (hx:a.eval x=.slice A m c) (hr:Rd w A l) (hn:n+l.length≤1099511627776) (hbase:base≤w.heap.size)
    (h:∀ v' w',Hid (w'.ownsRow base e 1 v' (n+l.length) (xs++Lib.byteCells l))→Hid (w.grownBy w' v.ownBlock)→Hid (v'.ownBlock=v.ownBlock∨v'.ownBlock=some w.heap.size)→wpList P ops Q rest (a.put o.dst v') w'):wpList P ops Q (o :: rest) a w :=
 wpList_plain hgd fun _ hK=>wp_append_at s x t ho base e i ht hi hz hsize hby v n xs hs hown A l m c hm hx hr hn hbase fun v' w' h1 h2 h3=>hK _ _ (h v' w' h1 h2 h3)
theorem step_append_rd {P:Program} {ops:Array Oper} {o:Oper} {a:Act} {w:World} {K:Act→World→Prop} {Q:Exit→Act→World→Prop} {E:Prop} (hgd:o.guard=none) (s x:Operand) (t:TypeId)
    (ho:o.op=.call { callee:=.builtin .append,args:=#[s,x],argTypes:=#[t,t] })
    (base:Nat) (e:TypeId) (i:TypeInfo) (ht:P.underlying t=some (.slice e)) (hi:P.info? e=some i) (hz:i.zero=some (.int .u8 0)) (hsize:i.size=1) (hby:i.bytes=1)
    (v:Value) (n:Nat) (xs:List Value) (hs:a.eval s=v) (hown:w.ownsRow base e 1 v n xs) (A:Option Addr) (l:List UInt8) (m c:Nat) (hm:l.length=m) (hx:a.eval x=.slice A m c) (hr:Rd w A l) (hn:n+l.length≤1099511627776) (hbase:base≤w.heap.size)
    (h:∀ v' w',Hid (w'.ownsRow base e 1 v' (n+l.length) (xs++Lib.byteCells l))→Hid (w.grownBy w' v.ownBlock)→Hid (v'.ownBlock=v.ownBlock∨v'.ownBlock=some w.heap.size)→K (a.put o.dst v') w') :
    if Region.wanted o (yielded ops a.tmps)=true then Oper.wp P o a w K Q else E:=by
 rw [if_pos (show Region.wanted o (yielded ops a.tmps)=true by simp [Region.wanted,hgd])]
 exact wp_append_at s x t ho base e i ht hi hz hsize hby v n xs hs hown A l m c hm hx hr hn hbase h
end Go.Proofs.YtjoedamiilgajaaGreat
namespace Go.Proofs.YtjoedamiilgajaaGreat
open Go.RowKit
section
variable {F:Nat→Rg.Fact} {cons:List (Nat × Nat)} {al:List (Nat × Nat × (Value→Value))} {W0:World} {V:Nat→Value} {j:Nat} {o:Oper} {b:Act} {w:World}
theorem step_str (l:List UInt8) {x:Operand} {A:Option Addr} {m c:Nat} (hop:o.op=.convert 39 9 x) (hx:b.eval x=.slice A m c) (hm:l.length=m) (hr:Rd w A l) (hF:F j=Rg.val (.string (strOf l))) (ha:(al.all fun x=>x.1 != j)=true) (hc:Rg.consOf cons j=none) (hg:Rg.Open o V) :
    Rg.Dz Tryz.prog o V b w (Rg.Good F (Rg.consOf cons) (Rg.alias al) W0 V j w):=by
 subst hm
 refine Rg.step_val (.string (strOf l)) (Rg.aN ha V _) hc hg ?_ (by rw [hF];rfl) (by rw [hF];rfl)
 have:=str_any w A l c hr
 obtain ⟨dst,op,ty,pos,after,guard⟩:=o
 simp only at hop
 subst hop
 simp only [execOp,hx]
 go_simp
end
end Go.Proofs.YtjoedamiilgajaaGreat
