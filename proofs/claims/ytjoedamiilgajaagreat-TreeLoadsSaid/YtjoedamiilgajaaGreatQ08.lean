/-
  OWN WORK. PtRef, RfRight, RfLookA, RfPlace, RfPoke, RfLink, RfSeal
-/
import Derived.Test.YtjoedamiilgajaaGreatQ03
import Derived.Test.YtjoedamiilgajaaGreatQ02
import Derived.Test.YtjoedamiilgajaaGreatQ07
import Derived.StillTailTactics
set_option maxHeartbeats 4000000
namespace Go.Proofs.YtjoedamiilgajaaGreat
open Go.RowKit
theorem okByte_nat (c:UInt8):Pa.okByte c=((decide (97≤c.toNat)&&decide (c.toNat≤122)) || (decide (48≤c.toNat)&&decide (c.toNat≤57)) || decide (c.toNat=46) || decide (c.toNat=45) || decide (c.toNat=95)):=by
 have e:∀ k:UInt8,(c==k)=decide (c.toNat=k.toNat):=fun k=>by
  by_cases h:c=k
  ·subst h;simp
  ·rw [beq_eq_false_iff_ne.2 h]
   exact (decide_eq_false fun h2=>h (UInt8.toNat_inj.1 h2)).symm
 unfold Pa.okByte
 rw [e,e,e]
 rfl
set_option maxRecDepth 100000 in
theorem refGood_any (l:Bs) (w:World) (hl:l.length≤9223372036854775807):Calls Tryz.prog 110 #[.string (strOf l)] w fun e w'=>e=.returned (.bool (Pa.good l))∧w=w':=by
 have e0:=strOf_size l
 have e1:=strOf_lit l [46]
 have e2:=strOf_lit l [46,46]
 have HG:Hid (Pa.good l=(l.all Pa.okByte&&(decide (1≤l.length)&&(decide (l.length≤16)&&(!decide (l=[46])&&!decide (l=[46,46])))))):=by
  show _=_
  have e:∀ k:Bs,(l != k)=!decide (l=k):=fun k=>by
   by_cases h:l=k
   ·subst h;simp
   ·rw [decide_eq_false h];exact bne_iff_ne.2 h
  unfold Pa.good
  rw [e,e,Bool.and_assoc,Bool.and_assoc,Bool.and_assoc]
 go_enter Tryz.func110,Tryz.ntmps110
 go_wp2
 go_loopw [3] (fun t3 wr=>∃ k:Nat,t3=.int .i64 k∧Hid (Oks l k)∧wr=w) (fun t3 _=>l.length-(match t3 with|.int _ k=>k.toNat|_=>0))
 case atStart=>exact ⟨0,rfl,Oks.zero l,rfl⟩
 case round =>
  obtain ⟨k,rfl,HO,rfl⟩:=hrel
  by_cases hk:k<l.length
  ·obtain ⟨c,hc⟩:∃ c,l[k]?=some c:=⟨_,List.getElem?_eq_getElem hk⟩
   have hix:=fun wx=>str_at hc wx
   have HC:=Lib.hid hc
   have HB:=Lib.hid (okByte_nat c)
   clear hc
   obtain ⟨n,hn⟩:∃ n,n=c.toNat:=⟨_,rfl⟩
   rw [← hn] at hix HB
   have good:Pa.okByte c=true→Hid (Oks l (k+1)):=fun h=>HO.out.step HC.out h
   have bad:Pa.okByte c=false→Hid (Pa.good l=false):=fun h=>by show _=_;rw [HG.out,bad_at HC.out h];rfl
   have hn256:n<256:=by rw [hn];exact c.toNat_lt
   clear hn HC
   by_cases h1:n=46
   ·have HO2:=good (by rw [HB.out,h1];rfl)
    clear good bad HB
    subst h1
    go_wp2
    go_roundw
    case rel=>exact ⟨k+1,rfl,HO2.out,by first|rfl|trivial⟩
    case measure=>simp;omega
   by_cases h2:n=45
   ·have HO2:=good (by rw [HB.out,h2];rfl)
    clear good bad HB
    subst h2
    go_wp2
    go_roundw
    case rel=>exact ⟨k+1,rfl,HO2.out,by first|rfl|trivial⟩
    case measure=>simp;omega
   by_cases h3:n=95
   ·have HO2:=good (by rw [HB.out,h3];rfl)
    clear good bad HB
    subst h3
    go_wp2
    go_roundw
    case rel=>exact ⟨k+1,rfl,HO2.out,by first|rfl|trivial⟩
    case measure=>simp;omega
   have f1:((n:Int)==46)=false:=beq_eq_false_iff_ne.2 (by omega)
   have f2:((n:Int)==45)=false:=beq_eq_false_iff_ne.2 (by omega)
   have f3:((n:Int)==95)=false:=beq_eq_false_iff_ne.2 (by omega)
   by_cases g1:97≤n
   ·by_cases g2:n≤122
    ·have HO2:=good (by rw [HB.out];simp [g1,g2])
     clear good bad HB
     go_wp2
     all_goals
      go_roundw
      case rel=>exact ⟨k+1,rfl,HO2.out,by first|rfl|trivial⟩
      case measure=>simp;omega
    ·have HF:=bad (by rw [HB.out];simp [g2,h1,h2,h3];omega)
     clear good bad HB
     have d1:decide ((n:Int)≤122)=false:=decide_eq_false (by omega)
     have d2:decide ((n:Int)≤57)=false:=decide_eq_false (by omega)
     go_wp2
     go_ret
     exact ⟨by rw [HF.out];rfl,rfl⟩
   ·by_cases g2:48≤n
    ·by_cases g3:n≤57
     ·have HO2:=good (by rw [HB.out];simp [g2,g3])
      clear good bad HB
      go_wp2
      all_goals
       go_roundw
       case rel=>exact ⟨k+1,rfl,HO2.out,by first|rfl|trivial⟩
       case measure=>simp;omega
     ·have HF:=bad (by rw [HB.out];simp [g3,h1,h2,h3];omega)
      clear good bad HB
      have d1:decide ((97:Int)≤n)=false:=decide_eq_false (by omega)
      have d2:decide ((n:Int)≤57)=false:=decide_eq_false (by omega)
      go_wp2
      go_ret
      exact ⟨by rw [HF.out];rfl,rfl⟩
    ·have HF:=bad (by rw [HB.out];simp [g2,h1,h2,h3];omega)
     clear good bad HB
     go_wp2
     go_ret
     exact ⟨by rw [HF.out];rfl,rfl⟩
  ·obtain rfl:k=l.length:=by have:=HO.out.1;omega
   have HF:Hid (Pa.good l=(decide (1≤l.length)&&(decide (l.length≤16)&&(!decide (l=[46])&&!decide (l=[46,46]))))):=by show _=_;rw [HG.out,HO.out.all,Bool.true_and]
   by_cases a1:1≤l.length
   ·by_cases a2:l.length≤16
    ·by_cases a3:l=[46]
     ·have e3:((strOf l).toList==[46])=true:=by rw [e1,decide_eq_true a3]
      have HF2:Hid (Pa.good l=false):=by show _=_;rw [HF.out,decide_eq_true a3];simp
      clear e1 a3
      go_wp2
      go_ret
      exact ⟨by rw [HF2.out];rfl,rfl⟩
     ·have e3:((strOf l).toList==[46])=false:=by rw [e1,decide_eq_false a3]
      by_cases a4:l=[46,46]
      ·have e4:((strOf l).toList==[46,46])=true:=by rw [e2,decide_eq_true a4]
       have HF2:Hid (Pa.good l=false):=by show _=_;rw [HF.out,decide_eq_true a4];simp
       clear e1 e2 a3 a4
       go_wp2
       go_ret
       exact ⟨by rw [HF2.out];rfl,rfl⟩
      ·have e4:((strOf l).toList==[46,46])=false:=by rw [e2,decide_eq_false a4]
       have HF2:Hid (Pa.good l=true):=by show _=_;rw [HF.out,decide_eq_true a1,decide_eq_true a2,decide_eq_false a3,decide_eq_false a4];rfl
       clear e1 e2 a3 a4
       go_wp2
       go_ret
       exact ⟨by rw [HF2.out];rfl,rfl⟩
    ·have HF2:Hid (Pa.good l=false):=by show _=_;rw [HF.out,decide_eq_false a2];simp
     go_wp2
     go_ret
     exact ⟨by rw [HF2.out];rfl,rfl⟩
   ·have HF2:Hid (Pa.good l=false):=by show _=_;rw [HF.out,decide_eq_false a1];rfl
    go_wp2
    go_ret
    exact ⟨by rw [HF2.out];rfl,rfl⟩
theorem below_drewPt (w:World) (n b:Nat):Below b w (w.drewN n):=⟨rfl,rfl,rfl,Nat.le_refl _,fun _ _=>rfl⟩
theorem below_morePt {w wr:World} (h:Below w.heap.size w wr) (n:Nat):Below w.heap.size w (wr.drewN n):=h.trans (below_drewPt _ _ _)
set_option maxRecDepth 100000 in
theorem refWithin_names (w:World) (l o:List Bs) (A B:Option Addr) (c d:Nat) (hr:RdS w A l) (hs:RdS w B o) (_hl:l.length≤1000000) (ho:o.length≤1000000) :
    Calls Tryz.prog 127 #[.slice A l.length c,.slice B o.length d] w fun e w'=>e=.returned (.bool (decide (o=l.take o.length)))∧Below w.heap.size w w':=by
 by_cases hgt:l.length<o.length
 ·have HF:Hid (decide (o=l.take o.length)=false):=decide_eq_false fun e=>by have:=congrArg List.length e;rw [List.length_take] at this;omega
  go_enter Tryz.func127,Tryz.ntmps127
  go_wp2
  go_ret
  exact ⟨by rw [HF.out];rfl,Below.refl _ _⟩
 have HR:=Lib.hid hr
 have HS:=Lib.hid hs
 clear hr hs
 go_enter Tryz.func127,Tryz.ntmps127
 go_wp2
 go_loopw [5] (fun t5 wr=>∃ k:Nat,t5=.int .i64 k∧k≤o.length∧Hid (o.take k=l.take k)∧Hid (Below w.heap.size w wr)) (fun t5 _=>o.length-(match t5 with|.int _ k=>k.toNat|_=>0))
 case atStart=>exact ⟨0,rfl,Nat.zero_le _,rfl,Below.refl _ _⟩
 case round =>
  obtain ⟨k,rfl,hko,HK,HB⟩:=hrel
  by_cases hk:k<o.length
  ·obtain ⟨x,hx⟩:∃ x,o[k]?=some x:=⟨_,List.getElem?_eq_getElem hk⟩
   obtain ⟨y,hy⟩:∃ y,l[k]?=some y:=⟨_,List.getElem?_eq_getElem (by omega)⟩
   obtain ⟨b1,off1,rfl,hc1⟩:=(HS.out.below HB.out).at_ hx
   obtain ⟨b2,off2,rfl,hc2⟩:=(HR.out.below HB.out).at_ hy
   have HX:Hid (o.take (k+1)=o.take k++[x]∧l.take (k+1)=l.take k++[y]):=⟨take_snoc hx,take_snoc hy⟩
   have HXY:Hid (o[k]?=some x∧l[k]?=some y):=⟨hx,hy⟩
   clear hx hy
   by_cases he:y=x
   ·have e1:((strOf y).toList==(strOf x).toList)=true:=by rw [strOf_beq];exact decide_eq_true he
    go_wp2_with fail
    go_quiet (fail)
    go_wp2_with fail
    go_roundw
    case rel=>exact ⟨k+1,by go_num,by omega,by show _=_;rw [HX.out.1,HX.out.2,HK.out,he],below_morePt HB.out _⟩
    case measure=>simp;omega
   ·have e1:((strOf y).toList==(strOf x).toList)=false:=by rw [strOf_beq];exact decide_eq_false he
    have HF:Hid (decide (o=l.take o.length)=false):=decide_eq_false fun e=>he (by
     have h1:=HXY.out.1
     rw [e,List.getElem?_take_of_lt hk,HXY.out.2] at h1
     exact Option.some.inj h1)
    go_wp2_with fail
    go_quiet (fail)
    go_wp2_with fail
    go_ret
    exact ⟨by rw [HF.out];rfl,below_morePt HB.out _⟩
  ·obtain rfl:k=o.length:=by omega
   have HF:Hid (decide (o=l.take o.length)=true):=decide_eq_true (by have:=HK.out;rw [List.take_length] at this;exact this)
   go_wp2
   go_ret
   exact ⟨by rw [HF.out];rfl,HB.out⟩
set_option maxRecDepth 100000 in
theorem sameS_any (w:World) (l o:List Bs) (A B:Option Addr) (c d:Nat) (hr:RdS w A l) (hs:RdS w B o) (hl:l.length≤1000000000) (_ho:o.length≤1000000000) :
    Calls Tryz.prog 37 #[.slice A l.length c,.slice B o.length d] w fun e w'=>e=.returned (.bool (decide (l=o)))∧Below w.heap.size w w':=by
 by_cases hne:l.length=o.length
 case neg =>
  have HF:Hid (decide (l=o)=false):=decide_eq_false fun e=>hne (by rw [e])
  have t1:((l.length:Int) != o.length)=true:=bne_iff_ne.2 (by omega)
  go_enter Tryz.func37,Tryz.ntmps37
  go_wp2
  go_ret
  exact ⟨by rw [HF.out];rfl,Below.refl _ _⟩
 have HR:=Lib.hid hr
 have HS:=Lib.hid hs
 have HN:=Lib.hid hne
 have t1:((l.length:Int) != o.length)=false:=by rw [hne];simp
 clear hr hs hne
 go_enter Tryz.func37,Tryz.ntmps37
 go_wp2
 go_loopw [5] (fun t5 wr=>∃ k:Nat,t5=.int .i64 k∧k≤l.length∧Hid (o.take k=l.take k)∧Hid (Below w.heap.size w wr)) (fun t5 _=>l.length-(match t5 with|.int _ k=>k.toNat|_=>0))
 case atStart=>exact ⟨0,rfl,Nat.zero_le _,rfl,Below.refl _ _⟩
 case round =>
  obtain ⟨k,rfl,hko,HK,HB⟩:=hrel
  by_cases hk:k<l.length
  ·obtain ⟨x,hx⟩:∃ x,o[k]?=some x:=⟨_,List.getElem?_eq_getElem (by have:=HN.out;omega)⟩
   obtain ⟨y,hy⟩:∃ y,l[k]?=some y:=⟨_,List.getElem?_eq_getElem hk⟩
   have hk2:k<o.length:=by have:=HN.out;omega
   obtain ⟨b1,off1,rfl,hc1⟩:=(HS.out.below HB.out).at_ hx
   obtain ⟨b2,off2,rfl,hc2⟩:=(HR.out.below HB.out).at_ hy
   have HX:Hid (o.take (k+1)=o.take k++[x]∧l.take (k+1)=l.take k++[y]):=⟨take_snoc hx,take_snoc hy⟩
   have HXY:Hid (o[k]?=some x∧l[k]?=some y):=⟨hx,hy⟩
   clear hx hy
   by_cases he:y=x
   ·have e1:((strOf y).toList==(strOf x).toList)=true:=by rw [strOf_beq];exact decide_eq_true he
    go_wp2_with fail
    go_quiet (fail)
    go_wp2_with fail
    go_roundw
    case rel=>exact ⟨k+1,by go_num,by omega,by show _=_;rw [HX.out.1,HX.out.2,HK.out,he],below_morePt HB.out _⟩
    case measure=>simp;omega
   ·have e1:((strOf y).toList==(strOf x).toList)=false:=by rw [strOf_beq];exact decide_eq_false he
    have HF:Hid (decide (l=o)=false):=decide_eq_false fun e=>he (by
     have h1:=HXY.out.1
     rw [← e,HXY.out.2] at h1
     exact Option.some.inj h1)
    go_wp2_with fail
    go_quiet (fail)
    go_wp2_with fail
    go_ret
    exact ⟨by rw [HF.out];rfl,below_morePt HB.out _⟩
  ·obtain rfl:k=l.length:=by omega
   have HF:Hid (decide (l=o)=true):=decide_eq_true (by have:=HK.out;rw [List.take_length,HN.out,List.take_length] at this;exact this.symm)
   go_wp2
   go_ret
   exact ⟨by rw [HF.out];rfl,HB.out⟩
end Go.Proofs.YtjoedamiilgajaaGreat
namespace Go.Proofs.YtjoedamiilgajaaGreat
open Go.RowKit
namespace Rf
set_option maxRecDepth 100000 in
theorem right_any (w:World) (A:Option Addr) (q:List Bs) (cap:Nat) (hr:RdS w A q) (hl:q.length≤1000000) (hs:∀ s ∈ q,s.length≤1000000) :
    Calls Tryz.prog 52 #[.slice A q.length cap] w fun e w'=>e=.returned (.int .i64 (Tr.formed q:Nat))∧w'=w:=by
 have HR:=Lib.hid hr
 have HS:=Lib.hid hs
 clear hr hs
 go_enter Tryz.func52,Tryz.ntmps52
 go_wp2_with fail
 go_loopw [3] (fun t3 wr=>∃ j:Nat,t3=.int .i64 j∧j≤q.length∧Hid (∀ s ∈ q.take j,Pa.good s=true)∧wr=w) (fun t3 _=>q.length-(match t3 with|.int _ k=>k.toNat|_=>0))
 case atStart=>exact ⟨0,rfl,Nat.zero_le _,fun e he=>by simp at he,rfl⟩
 case round =>
  obtain ⟨j,rfl,hj,HN,rfl⟩:=hrel
  by_cases hk:j<q.length
  ·obtain ⟨s,hsj⟩:∃ s,q[j]?=some s:=⟨_,List.getElem?_eq_getElem hk⟩
   obtain ⟨b,off,rfl,_,hcell⟩:=HR.out (by omega)
   have c0:=hcell j s hsj
   have hlt:(j:Int)<(q.length:Int):=by omega
   have HSJ:=Lib.hid hsj
   have hsl:s.length≤9223372036854775807:=by have:=HS.out s (List.mem_of_getElem? hsj);omega
   clear hsj hcell
   go_wp2_with fail
   refine (refGood_any s _ hsl).mono ?_
   rintro e w1 ⟨rfl,rfl⟩
   cases hg:Pa.good s with
   | false =>
     have HF:Hid (Tr.formed q=12):=by
      show _=_
      unfold Tr.formed
      rw [if_neg]
      intro h
      rw [List.all_eq_true] at h
      rw [h s (List.mem_of_getElem? HSJ.out)] at hg
      cases hg
     go_wp2_with fail
     go_ret
     exact ⟨by rw [HF.out];rfl,rfl⟩
   | true =>
     have HN1:Hid (∀ s ∈ q.take (j+1),Pa.good s=true):=fun m hm=>by
      rw [List.take_succ_eq_append_getElem hk,List.mem_append] at hm
      rcases hm with hm|hm
      ·exact HN.out m hm
      ·simp only [List.mem_singleton] at hm
       rw [hm,(List.getElem?_eq_some_iff.1 HSJ.out).2];exact hg
     go_wp2_with fail
     go_roundw
     case rel=>exact ⟨j+1,by go_num,by omega,HN1.out,by first|rfl|trivial⟩
     case measure=>simp;omega
  ·obtain rfl:j=q.length:=by omega
   have hall:q.all Pa.good=true:=by
    rw [List.all_eq_true]
    intro s hm
    exact HN.out s (by rw [List.take_length];exact hm)
   by_cases h8:8<q.length
   ·have h8i:(8:Int)<(q.length:Int):=by omega
    have HF:Hid (Tr.formed q=3):=by
     show _=_
     unfold Tr.formed
     rw [if_pos hall,if_pos h8]
    clear h8 hall
    go_wp2_with fail
    go_ret
    exact ⟨by rw [HF.out];rfl,rfl⟩
   ·have h8i:¬ (8:Int)<(q.length:Int):=by omega
    have HF:Hid (Tr.formed q=0):=by
     show _=_
     unfold Tr.formed
     rw [if_pos hall,if_neg h8]
    clear h8 hall
    go_wp2_with fail
    go_ret
    exact ⟨by rw [HF.out];rfl,rfl⟩
set_option maxRecDepth 100000 in
theorem rights_any (w:World) (A B:Option Addr) (q r:List Bs) (cap cap2:Nat) (hr:RdS w A q) (hl:q.length≤1000000) (hs:∀ s ∈ q,s.length≤1000000) (hr2:RdS w B r) (hl2:r.length≤1000000) (hs2:∀ s ∈ r,s.length≤1000000) :
    Calls Tryz.prog 65 #[.slice A q.length cap,.slice B r.length cap2] w fun e w'=>e=.returned (.int .i64 ((if Tr.formed q≠0 then Tr.formed q else Tr.formed r):Nat))∧w'=w:=by
 have H1:=Lib.hid (right_any w A q cap hr hl hs)
 have H2:=Lib.hid (right_any w B r cap2 hr2 hl2 hs2)
 clear hr hs hr2 hs2
 obtain ⟨n,hn⟩:∃ n,n=Tr.formed q:=⟨_,rfl⟩
 obtain ⟨m,hm⟩:∃ m,m=Tr.formed r:=⟨_,rfl⟩
 rw [← hn] at H1 ⊢
 rw [← hm] at H2 ⊢
 clear hn hm
 by_cases h:n=0
 ·subst h
  rw [if_neg (by simp)]
  go_enter Tryz.func65,Tryz.ntmps65
  go_wp2_with fail
  refine H1.out.mono ?_
  rintro e w1 ⟨rfl,rfl⟩
  go_wp2_with fail
  refine H2.out.mono ?_
  rintro e w1 ⟨rfl,rfl⟩
  go_wp2_with fail
  go_ret
  exact ⟨rfl,rfl⟩
 ·rw [if_pos h]
  have hni:((n:Int)==0)=false:=by rw [beq_eq_false_iff_ne];omega
  clear h
  go_enter Tryz.func65,Tryz.ntmps65
  go_wp2_with fail
  refine H1.out.mono ?_
  rintro e w1 ⟨rfl,rfl⟩
  go_wp2_with fail
  go_ret
  exact ⟨rfl,rfl⟩
end Rf
end Go.Proofs.YtjoedamiilgajaaGreat
namespace Go.Proofs.YtjoedamiilgajaaGreat
open Go.RowKit Rc
open Tr (Nm En T)
namespace Rf
variable {p:Nat} {nv dv ev:Value} {D:Nat→Prop} {t:T} {w:World}
set_option maxRecDepth 100000 in
theorem look_any (h:RIn p nv dv ev D t w) (hG:Tr.Good t) (hD:∀ b,D b→b<w.heap.size) (A:Option Addr) (q:List Bs) (cap:Nat) (hr:RdS w A q) (hl:q.length≤1000000) (hs:∀ s ∈ q,s.length≤1000000) :
    Calls Tryz.prog 60 #[.pointer (some ⟨p,0,none⟩),.slice A q.length cap] w fun e w'=>e=.returned (.tuple #[.int .i64 (Tr.look t q).1,.int .i64 ((Tr.look t q).2:Nat)])∧Below w.heap.size w w':=by
 have H1:=Lib.hid (right_any w A q cap hr hl hs)
 have H2:=Lib.hid (lookF_any h hG hD A q cap hr hl)
 have hR:Tr.look t q=if Tr.formed q≠0 then (0,Tr.formed q) else Tr.lF t 0 q:=rfl
 rw [hR]
 obtain ⟨n,hn⟩:∃ n,n=Tr.formed q:=⟨_,rfl⟩
 rw [← hn] at H1 ⊢
 obtain ⟨R,hR2⟩:∃ R,R=Tr.lF t 0 q:=⟨_,rfl⟩
 rw [← hR2] at H2 ⊢
 obtain ⟨r1,r2⟩:=R
 simp only at H2
 clear hn hR hR2 h hG hD hr hs
 by_cases h:n=0
 ·subst h
  rw [if_neg (by simp)]
  go_enter Tryz.func60,Tryz.ntmps60
  go_wp2_with fail
  refine H1.out.mono ?_
  rintro e w1 ⟨rfl,rfl⟩
  go_wp2_with fail
  refine H2.out.mono ?_
  rintro e w2 ⟨rfl,hb⟩
  have HB:=Lib.hid hb
  clear hb
  go_wp2_with fail
  go_ret2
  exact ⟨rfl,HB.out⟩
 ·rw [if_pos h]
  have hni:((n:Int)==0)=false:=by rw [beq_eq_false_iff_ne];omega
  clear h
  go_enter Tryz.func60,Tryz.ntmps60
  go_wp2_with fail
  refine H1.out.mono ?_
  rintro e w1 ⟨rfl,rfl⟩
  go_wp2_with fail
  go_ret2
  exact ⟨rfl,Below.refl _ _⟩
end Rf
end Go.Proofs.YtjoedamiilgajaaGreat
namespace Go.Proofs.YtjoedamiilgajaaGreat
open Go.RowKit Rc
open Tr (Nm En T)
namespace Rf
variable {p:Nat} {nv dv ev:Value} {D:Nat→Prop} {t t':T} {w:World}
set_option maxRecDepth 100000 in
theorem place_any (h:RA p nv dv ev D t w) (hG:Tr.Good t) (A:Option Addr) (q:List Bs) (cap:Nat) (hr:RdS w A q) (hc:q.length≤cap) (hl:q.length≤1000000) :
    Calls Tryz.prog 53 #[.pointer (some ⟨p,0,none⟩),.slice A q.length cap] w fun e w'=>e=.returned (.tuple #[.int .i64 (Tr.place t q).1,.string (strOf (Tr.place t q).2.1),.int .i64 ((Tr.place t q).2.2:Nat)])∧Below w.heap.size w w':=by
 rcases List.eq_nil_or_concat q with rfl|⟨r,x,hq⟩
 ·have HV:Hid (Tr.place t []=(0,[],1)):=rfl
  show Calls _ _ #[_,.slice A 0 cap] w _
  clear h hG hr
  go_enter Tryz.func53,Tryz.ntmps53
  go_wp2_with fail
  go_ret3
  exact ⟨by rw [HV.out];rfl,Below.refl _ _⟩
 ·rw [List.concat_eq_append] at hq
  have hql:q.length=r.length+1:=by rw [hq];simp
  have hqne:q≠[]:=by rw [hq];simp
  have hdl:q.dropLast=r:=by rw [hq];simp
  have hgl:q.getLastD []=x:=by rw [hq];simp
  have htk:q.take r.length=r:=by rw [hq];simp
  obtain ⟨i,k,hin⟩:∃ i k,Tr.lF t 0 r=(i,k):=⟨_,_,rfl⟩
  have hplace:Tr.place t q=if k≠0 then (0,[],k) else if Tr.kindOf t i≠2 then (0,[],23) else (i,x,0):=by
   unfold Tr.place
   rw [if_neg hqne,hdl,hgl,hin]
  have hr2:RdS w A r:=by have:=hr.take r.length;rw [htk] at this;exact this
  have hlk:=lookF_any h.in_ hG h.low A r cap hr2 (by omega)
  rw [hin] at hlk
  have HLK:=Lib.hid hlk
  have HND:Hid (∀ W,Below w.heap.size w W→Calls Tryz.prog 35 #[.pointer (some ⟨p,0,none⟩),.int .i64 i] W fun e w'=>e=.returned (.tuple #[(Tr.node t i).1.val,.bool (Tr.node t i).2])∧Below W.heap.size W w'):=fun W hW =>
   node_any (h.below hW).in_ (h.below hW).low i (by have:=hG.few;omega)
  obtain ⟨b,off,hA,hbl,hcell⟩:=hr (by omega)
  have hx:q[r.length]?=some x:=by rw [hq];simp
  have HCX:Hid (∀ W,Below w.heap.size w W→W.cell? ⟨b,off+r.length,none⟩=some (.string (strOf x))):=fun W hW=>(hW.cell (p:=⟨b,off+r.length,none⟩) hbl).trans (hcell _ x hx)
  have e0:Tr.node t i=(Tr.ndOf t i,(Tr.find t i).isSome):=rfl
  rw [e0] at HND
  rw [show Tr.kindOf t i=(Tr.ndOf t i).kind from rfl] at hplace
  obtain ⟨fo,hfo⟩:∃ fo,fo=(Tr.find t i).isSome:=⟨_,rfl⟩
  rw [← hfo] at HND
  obtain ⟨⟨a1,a2,a3,a4,a5,a6⟩,hnd⟩:∃ nd,nd=Tr.ndOf t i:=⟨_,rfl⟩
  rw [← hnd] at HND hplace
  unfold Nd.val at HND
  simp only at HND hplace
  have HPL:=Lib.hid hplace
  obtain ⟨n,hn⟩:∃ n,n=q.length:=⟨_,rfl⟩
  obtain ⟨m,hm⟩:∃ m,m=r.length:=⟨_,rfl⟩
  rw [← hm] at HLK HCX hql
  rw [← hn] at hql hc hl ⊢
  have hsl:∀ W,(Instr.sliceAt 26 (.slice A n cap) none (some (.int .i64 (m:Nat))) none).run Tryz.prog W=.ok (.slice A m cap) W:=fun W=>sls_h W A n cap m (by omega)
  have hwr:IntKind.i64.wrap ((n:Int)-1)=(m:Int):=by rw [IntKind.wrap_i64];omega
  have hn0:((n:Int)==0)=false:=by rw [beq_eq_false_iff_ne];omega
  have hmn:(m:Int)<(n:Int):=by omega
  subst hA
  clear h hG hr hr2 hlk hin hq hqne hdl hgl htk hx hcell hbl hplace e0 hfo hnd hn hm hl hc hql
  go_enter Tryz.func53,Tryz.ntmps53
  go_wp2_with fail
  refine HLK.out.mono ?_
  rintro e w1 ⟨rfl,hb1⟩
  have HB1:=Lib.hid hb1
  clear hb1 HLK
  by_cases hk:k=0
  case neg =>
   have hkb:((k:Int) != 0)=true:=by rw [bne_iff_ne];omega
   have HN:Hid (Tr.place t q=(0,[],k)):=by
    have:=HPL.out
    rw [if_pos hk] at this
    exact this
   clear hk
   go_wp2_with fail
   go_ret3
   rw [HN.out]
   exact ⟨rfl,HB1.out⟩
  subst hk
  have HND1:=Lib.hid (HND.out w1 HB1.out)
  go_wp2_with fail
  refine HND1.out.mono ?_
  rintro e w2 ⟨rfl,hb2⟩
  have HB2:Hid (Below w.heap.size w w2):=HB1.out.trans (hb2.mono HB1.out.size)
  have HB3:Hid (Below w.heap.size w (w2.alloc (.cells #[.int .i64 a1,.int .i64 a2,.int .i64 a3,.int .i64 a4,.int .u64 (a5:Nat),.bool a6] 59))):=HB2.out.alloc HB2.out.size _
  clear hb2 HND HND1
  by_cases h2:a2=2
  case neg =>
   have hk2:(a2 != 2)=true:=by rw [bne_iff_ne];exact h2
   have HN:Hid (Tr.place t q=(0,[],23)):=by
    have:=HPL.out
    rw [if_neg (by simp),if_pos h2] at this
    exact this
   clear h2
   go_wp2_with fail
   go_ret3
   rw [HN.out]
   exact ⟨rfl,HB3.out⟩
  subst h2
  have HN:Hid (Tr.place t q=(i,x,0)):=by
   have:=HPL.out
   rw [if_neg (by simp),if_neg (by simp)] at this
   exact this
  have cx:=HCX.out _ HB3.out
  have cx2:((w2.alloc (.cells #[.int .i64 a1,.int .i64 2,.int .i64 a3,.int .i64 a4,.int .u64 (a5:Nat),.bool a6] 59)).drew).cell? ⟨b,off+m,none⟩=some (.string (strOf x)):=cx
  go_wp2_with fail
  go_quiet (fail)
  go_wp2_with fail
  go_ret3
  rw [HN.out]
  exact ⟨rfl,⟨HB3.out.os,HB3.out.tape,HB3.out.output,HB3.out.size,HB3.out.block⟩⟩
theorem flat_kids {t:T} (hr:Tr.Ris t) (i:Int):((Tr.flat t).filter fun y=>y.1==i).map (·.2)=Tr.kids t i:=by
 induction t with
 | nil=>rfl
 | cons e t ih =>
   have hr2:=List.pairwise_cons.1 hr
   have e1:Tr.flat (e :: t)=e.names.map (fun n=>(e.nd.id,n))++Tr.flat t:=rfl
   rw [e1,List.filter_append,List.map_append]
   have hk:Tr.kids (e :: t) i=if e.nd.id=i then e.names else Tr.kids t i:=by
    unfold Tr.kids
    rw [Tr.find_cons]
    split <;> rfl
   rw [hk]
   by_cases h:e.nd.id=i
   ·rw [if_pos h]
    have e2:(Tr.flat t).filter (fun y=>y.1==i)=[]:=by
     rw [List.filter_eq_nil_iff]
     intro y hy
     obtain ⟨a,ha,hid⟩:=flat_ids hy
     have:=hr2.1 a ha
     simp
     omega
    rw [e2,List.map_nil,List.append_nil]
    rw [List.filter_eq_self.2 (fun y hy=>by obtain ⟨n,_,rfl⟩:=List.mem_map.1 hy;simpa using h),List.map_map]
    exact List.map_id _
   ·rw [if_neg h,List.filter_eq_nil_iff.2 (fun y hy=>by obtain ⟨n,_,rfl⟩:=List.mem_map.1 hy;simpa using h)]
    exact ih hr2.2
def LAns (l:List Bs) (n:Nat) (w:World) (e:Ending) (w':World):Prop:=∃ x,e=.returned (.tuple #[x,.int .i64 (n:Nat)])∧TAt w.heap.size x l w w'
theorem LAns.none (n:Nat) {w w':World} (hb:Below w.heap.size w w'):LAns [] n w (.returned (.tuple #[.slice none 0 0,.int .i64 (n:Nat)])) w':=⟨_,rfl,(TAt.nil w).below hb⟩
set_option maxRecDepth 100000 in
theorem list_any (h:RA p nv dv ev D t w) (hG:Tr.Good t) (i:Int) :
    Calls Tryz.prog 61 #[.pointer (some ⟨p,0,none⟩),.int .i64 i] w (LAns (Tr.list t i).1 (Tr.list t i).2 w):=by
 have HND:=Lib.hid (node_any h.in_ h.low i (by have:=hG.few;omega))
 have hlist:Tr.list t i=if (Tr.find t i).isNone then ([],20) else if (Tr.ndOf t i).kind≠2 then ([],23) else (((Tr.flat t).filter fun y=>y.1==i).map (·.2.1),0):=by
  unfold Tr.list Tr.kindOf
  rw [← flat_kids hG.ris i,List.map_map]
  rfl
 have e0:Tr.node t i=(Tr.ndOf t i,(Tr.find t i).isSome):=rfl
 rw [e0] at HND
 obtain ⟨fo,hfo⟩:∃ fo,fo=(Tr.find t i).isSome:=⟨_,rfl⟩
 have hno:(Tr.find t i).isNone=!fo:=by rw [hfo];cases Tr.find t i <;> rfl
 rw [hno] at hlist
 rw [← hfo] at HND
 obtain ⟨⟨a1,a2,a3,a4,a5,a6⟩,hnd⟩:∃ nd,nd=Tr.ndOf t i:=⟨_,rfl⟩
 rw [← hnd] at HND hlist
 unfold Nd.val at HND
 simp only at HND hlist
 have HLI:=Lib.hid hlist
 have hfew:=hG.flat_le
 obtain ⟨l,hl⟩:∃ l,l=Tr.flat t:=⟨_,rfl⟩
 obtain ⟨A,c,rfl,hc,hA⟩:=Tm.oF h.in_.ents
 rw [← hl] at hA hfew HLI
 have HA:=Lib.hid hA
 have HC0:Hid (∀ W,Below w.heap.size w W→W.cell? ⟨p,2,none⟩=some (.slice A l.length c)):=fun W hW=>by
  have:=(h.below hW).in_.box.cell 2
  rw [hl]
  exact this
 clear h hG e0 hfo hno hnd hl hA hlist hc
 go_enter Tryz.func61,Tryz.ntmps61
 go_wp2_with fail
 refine HND.out.mono ?_
 rintro e w1 ⟨rfl,hb1⟩
 have HB1:=Lib.hid hb1
 have HB2:Hid (Below w.heap.size w (w1.alloc (.cells #[.int .i64 a1,.int .i64 a2,.int .i64 a3,.int .i64 a4,.int .u64 (a5:Nat),.bool a6] 59))):=HB1.out.alloc HB1.out.size _
 clear hb1 HND
 cases fo with
 | false =>
   have HN:Hid (Tr.list t i=([],20)):=HLI.out
   clear HLI
   go_wp2_with fail
   go_ret2
   rw [HN.out]
   exact LAns.none _ HB2.out
 | true =>
   by_cases h2:a2=2
   case neg =>
    have hk2:(a2 != 2)=true:=by rw [bne_iff_ne];exact h2
    have HN:Hid (Tr.list t i=([],23)):=by
     have:=HLI.out
     rw [if_neg (by simp),if_pos h2] at this
     exact this
    clear h2 HLI
    go_wp2_with fail
    go_ret2
    rw [HN.out]
    exact LAns.none _ HB2.out
   subst h2
   have HN:Hid (Tr.list t i=((l.filter fun y=>y.1==i).map (·.2.1),0)):=by
    have:=HLI.out
    rw [if_neg (by simp),if_neg (by simp)] at this
    exact this
   clear HLI
   obtain ⟨wb,hwb⟩:∃ wb,wb=w1.alloc (.cells #[.int .i64 a1,.int .i64 2,.int .i64 a3,.int .i64 a4,.int .u64 (a5:Nat),.bool a6] 59):=⟨_,rfl⟩
   have HBB:Hid (Below w.heap.size w wb):=by show Below _ _ _;rw [hwb];exact HB2.out
   clear HB2
   go_upto_region 6 with (fail)
   rw [← hwb]
   clear hwb
   go_wp2_with fail
   go_loopw [8,9] (fun t8 t9 wr=>∃ j:Nat,t9=.int .i64 j∧j≤l.length∧Hid (TAt wb.heap.size t8 (((l.take j).filter fun y=>y.1==i).map (·.2.1)) wb wr)) (fun _ t9 _=>l.length-(match t9 with|.int _ k=>k.toNat|_=>0))
   case atStart=>exact ⟨0,rfl,Nat.zero_le _,TAt.nil wb⟩
   case round =>
    obtain ⟨j,rfl,hj,HT⟩:=hrel
    have cE:=HC0.out _ (HBB.out.trans (HT.out.later.mono HBB.out.size))
    by_cases hk:j<l.length
    ·obtain ⟨y,hy⟩:∃ y,l[j]?=some y:=⟨_,List.getElem?_eq_getElem hk⟩
     obtain ⟨q,rfl,_,_,hql,hcell⟩:=HA.out (by omega)
     have hlow:=HBB.out.trans (HT.out.later.mono HBB.out.size)
     have d0:wr.cell? ⟨q,j*3,none⟩=some (.int .i64 y.1):=(hlow.cell (p:=⟨q,j*3,none⟩) hql).trans (hcell _ _ (fl_get hy 0 (by omega)))
     have d1:wr.cell? ⟨q,j*3+1,none⟩=some (.string (strOf y.2.1)):=(hlow.cell (p:=⟨q,j*3+1,none⟩) hql).trans (hcell _ _ (fl_get hy 1 (by omega)))
     have hlt2:(j:Int)<(l.length:Int):=by omega
     have htk:l.take (j+1)=l.take j++[y]:=by
      rw [List.take_succ_eq_append_getElem hk]
      rw [List.getElem?_eq_getElem hk] at hy
      injection hy with hy
      rw [hy]
     have HTK:Hid (((l.take (j+1)).filter fun y=>y.1==i).map (·.2.1)=((l.take j).filter fun y=>y.1==i).map (·.2.1)++if y.1=i then [y.2.1] else []):=by
      show _=_
      rw [htk,List.filter_append,List.map_append]
      congr 1
      by_cases h:y.1=i
      ·rw [if_pos h,List.filter_cons,if_pos (by simpa using h)];rfl
      ·rw [if_neg h,List.filter_cons,if_neg (by simpa using h)];rfl
     have HLL:Hid ((((l.take j).filter fun y=>y.1==i).map (·.2.1)).length+[y.2.1].length≤68719476736):=by
      have h2:(((l.take j).filter fun y=>y.1==i).map (·.2.1)).length≤(l.take j).length:=by rw [List.length_map];exact List.length_filter_le _ _
      rw [List.length_take] at h2
      have h3:[y.2.1].length=1:=rfl
      show _+_≤_
      rw [h3]
      refine Nat.le_trans (Nat.add_le_add_right h2 1) ?_
      omega
     obtain ⟨y1,y2,y3⟩:=y
     simp only at d0 d1 HTK HLL
     clear hy hcell hlow hql htk
     by_cases h1:y1=i
     ·subst h1
      have HBC:Hid (Below wr.heap.size wr (wr.alloc (.cells #[.string (strOf y2)] 9))):=bN wr _
      have HRD:Hid (RdS (wr.alloc (.cells #[.string (strOf y2)] 9)) (some ⟨wr.heap.size,0,none⟩) [y2]):=rds_one wr y2 9
      go_wp2_with (at_builtin;refine wpList_append_txts rfl (.tmp 40) (.tmp 49) rfl rfl HT.out HBC.out _ [y2] 1 1 rfl rfl HRD.out HLL.out ?_;intro v2 w2 HO2 HG2)
      have HNX:Hid (TAt wb.heap.size v2 (((l.take (j+1)).filter fun y=>y.1==y1).map (·.2.1)) wb w2):=by
       have:=HO2.out
       show TAt _ _ _ _ _
       rw [HTK.out,if_pos rfl];exact this
      clear HO2 HG2 HTK HLL HBC HRD
      go_roundw
      case rel=>exact ⟨j+1,by go_num,by omega,HNX.out⟩
      case measure=>simp;omega
     ·have hb:(y1==i)=false:=by rw [beq_eq_false_iff_ne];exact h1
      have HNX:Hid (TAt wb.heap.size u8 (((l.take (j+1)).filter fun y=>y.1==i).map (·.2.1)) wb wr):=by
       show TAt _ _ _ _ _
       rw [HTK.out,if_neg h1,List.append_nil];exact HT.out
      clear HTK HLL h1
      go_wp2_with fail
      go_roundw
      case rel=>exact ⟨j+1,by go_num,by omega,HNX.out⟩
      case measure=>simp;omega
    ·obtain rfl:j=l.length:=by omega
     have HEND:Hid (TAt w.heap.size u8 ((l.filter fun y=>y.1==i).map (·.2.1)) w wr):=by
      have:=HT.out
      rw [List.take_length] at this
      exact ⟨own_mono this.1 HBB.out.size,HBB.out.trans (this.later.mono HBB.out.size),rfl⟩
     go_wp2_with fail
     go_ret2
     rw [HN.out]
     exact ⟨_,rfl,HEND.out⟩
end Rf
end Go.Proofs.YtjoedamiilgajaaGreat
namespace Go.Proofs.YtjoedamiilgajaaGreat
open Go.RowKit Rc
open Tr (Nm En T)
namespace Rf
variable {p:Nat} {nv dv ev:Value} {D:Nat→Prop} {t t':T} {w w1 w2:World}
theorem row_set {α:Type} (f:α→List Value) (k:Nat) (hk:∀ a,(f a).length=k):∀ (l:List α) (j c:Nat) (a b:α) (u:Value),l[j]?=some a→c<k→(f a).set c u=f b→(l.flatMap f).set (j*k+c) u=(l.set j b).flatMap f
 | x :: l,0,c,a,b,u,h,hc,hs=>by
   obtain rfl:x=a:=by simpa using h
   rw [List.set_cons_zero,List.flatMap_cons,List.flatMap_cons,Nat.zero_mul,Nat.zero_add,← hs,List.set_append_left _ _ (by rw [hk];exact hc)]
 | x :: l,j+1,c,a,b,u,h,hc,hs=>by
   rw [List.set_cons_succ,List.flatMap_cons,List.flatMap_cons,show (j+1)*k+c=(f x).length+(j*k+c) by rw [hk,Nat.add_mul];omega,List.set_append_right _ _ (by omega),Nat.add_sub_cancel_left,row_set f k hk l j c a b u (by simpa using h) hc hs]
theorem own_set {B e k n g c i:Nat} {xs:List Value} {u:Value} (h:w.ownsRow B e k (.slice (some ⟨g,0,none⟩) n c) n xs) (hi:i<xs.length):(w.setCell ⟨g,i,none⟩ u).ownsRow B e k (.slice (some ⟨g,0,none⟩) n c) n (xs.set i u)∧w.frozen? ⟨g,i,none⟩=false∧g<w.heap.size:=by
 rcases h.2 with ⟨h1,_⟩|⟨g',cap,cur,he,hb,hg,hn,hm,hsz,hx⟩
 ·cases h1
 ·injection he with e1 _ e3
  injection e1 with e1
  injection e1 with e1
  subst e1 e3
  have hg2:(w.setCell ⟨g,i,none⟩ u).heap[g]?=some (.cells (cur.set! i u) e (0,0)):=by
   simp [World.setCell,Array.getElem?_modify,hg,Array.set!_eq_setIfInBounds]
  refine ⟨⟨by rw [List.length_set];exact h.1,.inr ⟨g,c,cur.set! i u,rfl,hb,hg2,hn,hm,by simpa using hsz,?_⟩⟩,by simp [World.frozen?,hg],(Array.getElem?_eq_some_iff.1 hg).1⟩
  rw [← hx]
  simp [List.take_set]
theorem nd_maps_set {j:Nat} {e e':En} (he:t[j]?=some e) (hd:e'.data=e.data) (hn:e'.names=e.names) (hi:e'.nd.id=e.nd.id):(t.set j e').map (·.data)=t.map (·.data)∧Tr.flat (t.set j e')=Tr.flat t:=by
 have key:∀ (l:T) (j:Nat),l[j]?=some e→(l.set j e').map (·.data)=l.map (·.data)∧Tr.flat (l.set j e')=Tr.flat l:=by
  intro l
  induction l with
  | nil=>intro j h;simp at h
  | cons a l ih =>
    intro j h
    cases j with
    | zero =>
      obtain rfl:a=e:=by simpa using h
      refine ⟨by simp [hd],?_⟩
      show e'.names.map (fun n=>(e'.nd.id,n))++Tr.flat l=a.names.map (fun n=>(a.nd.id,n))++Tr.flat l
      rw [hn,hi]
    | succ j =>
      obtain ⟨h1,h2⟩:=ih j (by simpa using h)
      refine ⟨by rw [List.set_cons_succ,List.map_cons,List.map_cons,h1],?_⟩
      show a.names.map (fun n=>(a.nd.id,n))++Tr.flat (l.set j e')=a.names.map (fun n=>(a.nd.id,n))++Tr.flat l
      rw [h2]
 exact key t j he
theorem RA.poke {g c j f:Nat} {e e':En} {u:Value} (h:RA p (.slice (some ⟨g,0,none⟩) t.length c) dv ev D t w) (he:t[j]?=some e) (hf:f<6) (hc:(ndCell e.nd).set f u=ndCell e'.nd) (hd:e'.data=e.data) (hn:e'.names=e.names) (hi:e'.nd.id=e.nd.id) :
    Left p (t.set j e') (RS p (.slice (some ⟨g,0,none⟩) t.length c) ev D) w (w.setCell ⟨g,j*6+f,none⟩ u) (.slice (some ⟨g,0,none⟩) t.length c) dv ev D:=by
 have hjl:j<t.length:=(List.getElem?_eq_some_iff.1 he).1
 obtain ⟨k1,k2,k3⟩:=own_set (i:=j*6+f) (u:=u) h.in_.nodes (by rw [ndCells_length];omega)
 obtain ⟨m1,m2⟩:=nd_maps_set he hd hn hi
 have hg0:(Value.slice (some ⟨g,0,none⟩) t.length c).ownBlock=some g:=rfl
 have hgs:RS p (.slice (some ⟨g,0,none⟩) t.length c) ev D g:=.inr (.inl hg0)
 have hh:∀ b,b≠g→(w.setCell ⟨g,j*6+f,none⟩ u).heap[b]?=w.heap[b]?:=fun b hb=>Below.heap_setCell _ _ _ _ hb
 have hsz:(w.setCell ⟨g,j*6+f,none⟩ u).heap.size=w.heap.size:=by simp [World.setCell]
 have hcells:(ndCells t).set (j*6+f) u=ndCells (t.set j e'):=row_set (fun e:En=>ndCell e.nd) 6 (fun _=>rfl) t j f e e' u he hf hc
 refine ⟨⟨⟨?_,?_,?_,?_⟩,fun b hD=>?_⟩,⟨rfl,rfl,rfl,by rw [hsz];exact Nat.le_refl _,fun k _ hk=>hh k fun e=>hk (e ▸ hgs)⟩,fun b hb=>.inl hb⟩
 ·exact (hh p fun e=>h.np.1 (e ▸ hg0)).trans h.in_.box
 ·rw [List.length_set,← hcells];exact k1
 ·rw [m2]
  exact Tm.own_keep h.in_.ents fun b hb=>hh b fun e=>h.np.2.2 g hg0 (e ▸ hb)
 ·rw [m1]
  exact h.in_.data.keep (by rw [hsz];exact Nat.le_refl _) fun b hD=>hh b fun e=>(h.apart b hD).2.2.1 (e ▸ hg0)
 ·obtain ⟨q1,q2,q3,q4⟩:=h.apart b hD
  exact ⟨by rw [hsz];exact q1,q2,q3,q4⟩
theorem RA.copied (h:RA p nv dv ev D t w) (hpos:0<t.length) {v2:Value} (ho:w2.ownsRow w.heap.size 59 6 v2 t.length (ndCells t)) (hg:(w.alloc (.cells #[] 59)).grownBy w2 (Value.slice (some ⟨w.heap.size,0,none⟩) 0 0).ownBlock) :
    ∃ g c,v2=.slice (some ⟨g,0,none⟩) t.length c∧w2.cell? ⟨p,0,none⟩=some nv∧w2.frozen? ⟨p,0,none⟩=false∧Hid (Left p t (RS p nv ev D) w (w2.setCell ⟨p,0,none⟩ v2) v2 dv ev D):=by
 have hb:Below w.heap.size w w2:=by
  have hb1:=bN w (.cells #[] 59)
  exact ⟨hg.os.trans hb1.os,hg.tape.trans hb1.tape,hg.output.trans hb1.output,Nat.le_trans hb1.size hg.size,fun b hb2=>(hg.block b (Nat.lt_of_lt_of_le hb2 hb1.size) fun e=>by simp [Value.ownBlock] at e;omega).trans (hb1.block b hb2)⟩
 obtain ⟨A,c,h1,_,h2⟩:=Tm.oF ho
 obtain ⟨g,rfl,hg1,hg2,_⟩:=h2 hpos
 obtain ⟨k1,k2⟩:=h.box_to hb 0 v2
 have hbx:=(h.below hb).in_.box
 refine ⟨g,c,h1,hbx.cell 0,hbx.frozen 0,?_⟩
 have hgp:g≠p:=by have:=h.in_.box.lt;omega
 refine h.nodes (t':=t) (nv':=v2) k1 k2 (Tm.own_keep ho fun b hb2=>Below.heap_setCell _ _ _ _ fun e=>?_) rfl rfl
 have e2:b=p:=e
 rw [hg1] at hb2
 injection hb2 with hb2
 omega
theorem RA.ndcell {g c j:Nat} {e:En} (h:RA p (.slice (some ⟨g,0,none⟩) t.length c) dv ev D t w) (he:t[j]?=some e) (f:Nat) (hf:f<6):w.cell? ⟨g,j*6+f,none⟩=(ndCell e.nd)[f]?∧w.frozen? ⟨g,j*6+f,none⟩=false:=by
 have hjl:j<t.length:=(List.getElem?_eq_some_iff.1 he).1
 have k:=own_set (i:=j*6+f) (u:=.bool true) h.in_.nodes (by rw [ndCells_length];omega)
 obtain ⟨A,c2,h1,_,h2⟩:=Tm.oF h.in_.nodes
 injection h1 with e1 _ _
 subst e1
 obtain ⟨g',hg,_,_,_,h3⟩:=h2 (by omega)
 injection hg with hg
 injection hg with hg
 subst hg
 refine ⟨?_,k.2.1⟩
 have e1:=nd_get he f hf
 obtain ⟨x,hx⟩:∃ x,(ndCell e.nd)[f]?=some x:=⟨_,List.getElem?_eq_getElem (by show f<6;exact hf)⟩
 rw [hx] at e1 ⊢
 exact h3 _ _ e1
set_option maxRecDepth 100000 in
theorem links_any (h:RA p nv dv ev D t w) (hr:Tr.Ris t) (hfew:t.length≤1000000) {i:Int} {e:En} (hf:Tr.find t i=some e) (b:Int) (hb:-1≤b∧b≤1) (hl:0≤e.nd.links∧e.nd.links≤70000) :
    Calls Tryz.prog 67 #[.pointer (some ⟨p,0,none⟩),.int .i64 i,.int .i64 b] w (RTurn p (Tr.more t i b) (.tuple #[]) (RS p nv ev D) w):=by
 have HAT:=Lib.hid (at_any h.in_ i hfew)
 rcases idx_find t i with ⟨h1,_⟩|⟨e',j,h1,h2,h3,h4⟩
 ·rw [h1] at hf;cases hf
 rw [hf] at h1
 injection h1 with h1
 subst h1
 rw [h3] at HAT
 have hid:e.nd.id=i:=(Tr.find_some hf).2
 have hmore:Tr.more t i b=t.set j { e with nd:={ e.nd with links:=e.nd.links+b } }:=upd_at hr h2 hid _
 rw [hmore]
 have hpos:0<t.length:=by omega
 have HCO:Hid (∀ w2 v2,w2.ownsRow w.heap.size 59 6 v2 t.length (ndCells t)→(w.alloc (.cells #[] 59)).grownBy w2 (Value.slice (some ⟨w.heap.size,0,none⟩) 0 0).ownBlock→∃ g c,v2=.slice (some ⟨g,0,none⟩) t.length c∧w2.cell? ⟨p,0,none⟩=some nv∧w2.frozen? ⟨p,0,none⟩=false∧Hid (Left p t (RS p nv ev D) w (w2.setCell ⟨p,0,none⟩ v2) v2 dv ev D)):=fun w2 v2 ho hg=>h.copied hpos ho hg
 obtain ⟨A,c,hnv,hnc,hS⟩:=srcs h.in_.nodes h.np.1
 have HS0:Hid (Src (w.alloc (.cells #[] 59)) A (ndCells t)):=(hS _ (Mod.of_below (bN w _) _)).1
 have HO0:Hid ((w.alloc (.cells #[] 59)).ownsRow w.heap.size 59 6 (.slice (some ⟨w.heap.size,0,none⟩) 0 0) 0 []):=none_own w _ _
 have HL0:=Lib.hid (ndCells_length t)
 have HFEW:=Lib.hid hfew
 have HHS:Hid (w.heap.size≤(w.alloc (.cells #[] 59)).heap.size):=(bN w _).size
 have HJ:=Lib.hid h2
 have hjl:(j:Int)<(t.length:Int):=by omega
 have cp:(w.alloc (.cells #[] 59)).cell? ⟨p,0,none⟩=some nv:=(h.below (bN w _)).in_.box.cell 0
 have cp0:w.cell? ⟨p,0,none⟩=some nv:=h.in_.box.cell 0
 have hw1:IntKind.i64.wrap (e.nd.links+b)=e.nd.links+b:=by rw [IntKind.wrap_i64];omega
 subst hnv
 clear h hr hfew hf hb hl h2 h3 h4 hid hmore hpos hS hnc
 go_enter Tryz.func67,Tryz.ntmps67
 go_wp2_with fail
 refine HAT.out.mono ?_
 rintro e1 w1 ⟨rfl,rfl⟩
 go_upto_region 1 with (fail)
 go_wp2_with (at_builtin;refine wpList_cat nodeTy rfl (.tmp 11) (.tmp 15) (by rfl) (by rfl) (by rfl) HO0.out HS0.out HL0.out (ndCells_one _) (by have:=HFEW.out;omega) HHS.out (Nat.zero_add _).symm (List.nil_append _).symm ?_;intro v2 w2 HO2 HG2 HP2;obtain ⟨g,c2,hv2,hc2,hf2,HLF⟩:=HCO.out w2 v2 HO2.out HG2.out;subst hv2)
 obtain ⟨W3,hW3⟩:∃ W3,W3=w2.setCell ⟨p,0,none⟩ (.slice (some ⟨g,0,none⟩) t.length c2):=⟨_,rfl⟩
 rw [← hW3] at HLF ⊢
 have hra:=HLF.out.ra
 have c3:W3.cell? ⟨p,0,none⟩=some (.slice (some ⟨g,0,none⟩) t.length c2):=hra.in_.box.cell 0
 obtain ⟨d2,f2⟩:=hra.ndcell HJ.out 2 (by omega)
 have d3:W3.cell? ⟨g,j*6+2,none⟩=some (.int .i64 e.nd.links):=d2
 have d0:W3.cell? ⟨p,0,none⟩=some (.slice (some ⟨g,0,none⟩) t.length c2):=c3
 have HLD:Hid (Left p t (RS p (.slice A t.length c) ev D) w1 W3.drew (.slice (some ⟨g,0,none⟩) t.length c2) dv ev D):=HLF.out.later (undrewR (Below.refl _ _))
 clear hW3 hra d2 HLF HCO HO2 HG2 HP2 HS0 HO0 HL0 HHS HAT HFEW cp cp0 hc2 hf2
 go_still_tail 17,(by kernel_rfl)
 change wpList _ _ _ _ _ W3.drew
 have c4:W3.drew.cell? ⟨g,j*6+2,none⟩=some (.int .i64 e.nd.links):=d3
 have f4:W3.drew.frozen? ⟨g,j*6+2,none⟩=false:=f2
 generalize W3.drew=W4 at *
 have HEND:Hid (RTurn p (t.set j { e with nd:={ e.nd with links:=e.nd.links+b } }) (.tuple #[]) (RS p (.slice A t.length c) ev D) w1 (.returned (.tuple #[])) (W4.setCell ⟨g,j*6+2,none⟩ (.int .i64 (e.nd.links+b)))):=(HLD.out.then (HLD.out.ra.poke (e':={ e with nd:={ e.nd with links:=e.nd.links+b } }) (u:=.int .i64 (e.nd.links+b)) HJ.out (f:=2) (by omega) rfl rfl rfl rfl)).turn
 clear HLD
 go_wp2_with fail
 refine bodyPost_end (results_none rfl _ _ _) rfl ?_
 exact HEND.out
end Rf
end Go.Proofs.YtjoedamiilgajaaGreat
namespace Go.Proofs.YtjoedamiilgajaaGreat
open Go.RowKit Rc
open Tr (Nm En T)
namespace Rf
variable {p:Nat} {nv dv ev:Value} {D:Nat→Prop} {t t':T} {w w1 w2:World}
theorem placed_find (hG:Tr.Good t) {q:List Bs} {d:Int} {x:Bs} (h:Tr.place t q=(d,x,0)):∃ en,Tr.find t d=some en∧en.nd.kind=2∧en.nd.id=d:=by
 obtain ⟨_,_,en,d',_,_,h2,h3,h4,h5⟩:=hG.placed (q:=q) (by rw [h])
 rw [h] at h2
 injection h2 with h2 _
 subst h2
 exact ⟨en,h3,h4,h5⟩
theorem put_any (h:RA p nv dv ev D t w) (hG:Tr.Good t) {d:Int} {en:En} (hf:Tr.find t d=some en) (x:Bs) (i:Int) :
    Calls Tryz.prog 56 #[.pointer (some ⟨p,0,none⟩),.int .i64 d,.string (strOf x),.int .i64 i] w (RTurn p (Tr.put t d x i) (.tuple #[]) (RS p nv ev D) w) :=
 add_any h d x i (by have:=hG.flat_le;omega) (flat_put_is hG.ris hf x i) (put_maps t d x i).1 (put_maps t d x i).2
set_option maxRecDepth 100000 in
theorem link_any (h:RA p nv dv ev D t w) (hG:Tr.Good t) (A A2:Option Addr) (q r:List Bs) (cap cap2:Nat) (hr:RdS w A q) (hc:q.length≤cap) (hl:q.length≤1000000) (hs:∀ s ∈ q,s.length≤1000000) (hr2:RdS w A2 r) (hc2:r.length≤cap2) (hl2:r.length≤1000000) (hs2:∀ s ∈ r,s.length≤1000000) :
    Calls Tryz.prog 14 #[.pointer (some ⟨p,0,none⟩),.slice A q.length cap,.slice A2 r.length cap2] w (RTurn p (Tr.link t q r).2 (.int .i64 ((Tr.link t q r).1:Nat)) (RS p nv ev D) w):=by
 have HS:Hid (∀ x W,Below w.heap.size w W→RTurn p t x (RS p nv ev D) w (.returned x) W):=fun x W hW=>RTurn.stay h hW
 have H1:=Lib.hid (rights_any w A A2 q r cap cap2 hr hl hs hr2 hl2 hs2)
 obtain ⟨i,n,hin⟩:∃ i n,Tr.lF t 0 q=(i,n):=⟨_,_,rfl⟩
 have hlk:=lookF_any h.in_ hG h.low A q cap hr hl
 rw [hin] at hlk
 have H2:=Lib.hid hlk
 have H3:Hid (∀ W,Below w.heap.size w W→Calls Tryz.prog 35 #[.pointer (some ⟨p,0,none⟩),.int .i64 i] W fun e w'=>e=.returned (.tuple #[(Tr.node t i).1.val,.bool (Tr.node t i).2])∧Below W.heap.size W w'):=fun W hW=>node_any (h.below hW).in_ (h.below hW).low i (by have:=hG.few;omega)
 obtain ⟨d,x,m,hpl⟩:∃ d x m,Tr.place t r=(d,x,m):=⟨_,_,_,rfl⟩
 have H4:Hid (∀ W,Below w.heap.size w W→Calls Tryz.prog 53 #[.pointer (some ⟨p,0,none⟩),.slice A2 r.length cap2] W fun e w'=>e=.returned (.tuple #[.int .i64 d,.string (strOf x),.int .i64 (m:Nat)])∧Below W.heap.size W w'):=fun W hW=>by
  have:=place_any (h.below hW) hG A2 r cap2 (hr2.below hW) hc2 hl2
  rw [hpl] at this
  exact this
 have H5:Hid (∀ W,Below w.heap.size w W→Calls Tryz.prog 54 #[.pointer (some ⟨p,0,none⟩),.int .i64 d,.string (strOf x)] W fun e w'=>e=.returned (.int .i64 (idxE (Tr.flat t) d x))∧w'=W):=fun W hW=>entry_any (h.below hW).in_ d x (by have:=hG.flat_le;omega)
 have hlink:Tr.link t q r=if (if Tr.formed q≠0 then Tr.formed q else Tr.formed r)≠0 then (if Tr.formed q≠0 then Tr.formed q else Tr.formed r,t) else if n≠0 then (n,t) else if (Tr.ndOf t i).kind=2 then (22,t) else if m≠0 then (m,t) else if (Tr.get (Tr.kids t d) x).isSome then (21,t) else if 64≤(Tr.ndOf t i).links then (4,t) else (0,Tr.more (Tr.put t d x i) i 1):=by
  unfold Tr.link Tr.kindOf
  rw [hin,hpl]
  by_cases h1:Tr.formed q=0 <;> simp [h1]
 have HGO:Hid (m=0→n=0→(Tr.ndOf t i).links<64→∀ W,Below w.heap.size w W→Calls Tryz.prog 56 #[.pointer (some ⟨p,0,none⟩),.int .i64 d,.string (strOf x),.int .i64 i] W fun e w'=>e=.returned (.tuple #[])∧Calls Tryz.prog 67 #[.pointer (some ⟨p,0,none⟩),.int .i64 i,.int .i64 1] w' (RTurn p (Tr.more (Tr.put t d x i) i 1) (.tuple #[]) (RS p nv ev D) w)):=fun hm hn hlk W hW=>by
  subst hm hn
  obtain ⟨en,k1,k2,k3⟩:=placed_find hG hpl
  have hsm:=hG.look_is (p:=q) (by rw [hin])
  rw [hin] at hsm
  obtain ⟨ei,hei⟩:=Option.isSome_iff_exists.1 hsm
  have hfi:Tr.find (Tr.put t d x i) i=some (if i=d then { ei with names:=Tr.ins ei.names x i } else ei):=by
   unfold Tr.put
   rw [Tr.find_upd (Tr.put_id x i),hei];rfl
  have hnd:(if i=d then { ei with names:=Tr.ins ei.names x i } else ei:En).nd=ei.nd:=by split <;> rfl
  refine (put_any (h.below hW) hG k1 x i).mono ?_
  intro e w' ht
  obtain ⟨rfl,nv2,dv2,ev2,D2,hl⟩:=ht.left
  have hl0:Left p (Tr.put t d x i) (RS p nv ev D) w w' nv2 dv2 ev2 D2:=(h.left.later hW).then hl
  refine ⟨rfl,(links_any hl0.ra (Tr.upd_ris hG.ris fun _=>rfl) (by unfold Tr.put;rw [Tr.upd_length];have:=hG.few;omega) hfi 1 ⟨by omega,by omega⟩ (by
   have hrt:=(hG.each ei (Tr.find_some hei).1).nd
   rw [hnd]
   exact ⟨hrt.2.2.1,by have:=hrt.2.2.2.1;omega⟩)).mono ?_⟩
  intro e2 w2 ht2
  exact RTurn.then hl0.mod hl0.sub ht2
 have HFI:=Lib.hid (flat_idx hG d x)
 have e0:Tr.node t i=(Tr.ndOf t i,(Tr.find t i).isSome):=rfl
 rw [e0] at H3
 obtain ⟨fo,hfo⟩:∃ fo,fo=(Tr.find t i).isSome:=⟨_,rfl⟩
 rw [← hfo] at H3
 obtain ⟨⟨a1,a2,a3,a4,a5,a6⟩,hnd⟩:∃ nd,nd=Tr.ndOf t i:=⟨_,rfl⟩
 rw [← hnd] at H3 hlink HGO
 unfold Nd.val at H3
 simp only at H3 hlink HGO
 obtain ⟨f,hf⟩:∃ f,f=if Tr.formed q≠0 then Tr.formed q else Tr.formed r:=⟨_,rfl⟩
 rw [← hf] at H1 hlink
 have HLI:=Lib.hid hlink
 clear h hG hr hr2 hs hs2 hin hlk hpl hlink e0 hfo hnd hf hc hc2 hl hl2
 go_enter Tryz.func14,Tryz.ntmps14
 go_wp2_with fail
 refine H1.out.mono ?_
 rintro e w1 ⟨rfl,rfl⟩
 by_cases hf:f=0
 case neg =>
  have hfb:((f:Int) != 0)=true:=by rw [bne_iff_ne];omega
  have HN:Hid (Tr.link t q r=(f,t)):=by
   have:=HLI.out
   rw [if_pos hf] at this
   exact this
  clear hf HLI
  go_wp2_with fail
  go_ret
  rw [HN.out]
  exact HS.out _ _ (Below.refl _ _)
 subst hf
 rw [if_neg (by simp)] at HLI
 go_wp2_with fail
 refine H2.out.mono ?_
 rintro e w2 ⟨rfl,hb2⟩
 have HB2:=Lib.hid hb2
 clear hb2 H1 H2
 by_cases hn:n=0
 case neg =>
  have hnb:((n:Int) != 0)=true:=by rw [bne_iff_ne];omega
  have HN:Hid (Tr.link t q r=(n,t)):=by
   have:=HLI.out
   rw [if_pos hn] at this
   exact this
  clear hn HLI
  go_wp2_with fail
  go_ret
  rw [HN.out]
  exact HS.out _ _ HB2.out
 subst hn
 rw [if_neg (by simp)] at HLI
 have H3a:=Lib.hid (H3.out _ HB2.out)
 go_wp2_with fail
 refine H3a.out.mono ?_
 rintro e w3 ⟨rfl,hb3⟩
 have HB3:Hid (Below w1.heap.size w1 w3):=HB2.out.trans (hb3.mono HB2.out.size)
 obtain ⟨wb,hwb⟩:∃ wb,wb=w3.alloc (.cells #[.int .i64 a1,.int .i64 a2,.int .i64 a3,.int .i64 a4,.int .u64 (a5:Nat),.bool a6] 59):=⟨_,rfl⟩
 have HB4:Hid (Below w1.heap.size w1 wb):=by show Below _ _ _;rw [hwb];exact HB3.out.alloc HB3.out.size _
 have HBK:Hid (Blk wb w3.heap.size 59 [.int .i64 a1,.int .i64 a2,.int .i64 a3,.int .i64 a4,.int .u64 (a5:Nat),.bool a6]):=by show Blk _ _ _ _;rw [hwb];exact Blk.new w3 _ _
 clear hb3 H3 H3a
 go_upto_region 8 with (fail)
 rw [← hwb]
 clear hwb
 have c1:wb.cell? ⟨w3.heap.size,1,none⟩=some (.int .i64 a2):=HBK.out.cell 1
 by_cases h2:a2=2
 ·have HN:Hid (Tr.link t q r=(22,t)):=by
   have:=HLI.out
   rw [if_pos h2] at this
   exact this
  subst h2
  clear HLI
  go_wp2_with fail
  go_ret
  rw [HN.out]
  exact HS.out _ _ HB4.out
 have h2b:(a2==2)=false:=by rw [beq_eq_false_iff_ne];exact h2
 rw [if_neg h2] at HLI
 have H4a:=Lib.hid (H4.out _ HB4.out)
 clear h2
 go_wp2_with fail
 refine H4a.out.mono ?_
 rintro e w5 ⟨rfl,hb5⟩
 have HB5:Hid (Below w1.heap.size w1 w5):=HB4.out.trans (hb5.mono HB4.out.size)
 have HBK5:Hid (Blk w5 w3.heap.size 59 [.int .i64 a1,.int .i64 a2,.int .i64 a3,.int .i64 a4,.int .u64 (a5:Nat),.bool a6]):=HBK.out.below hb5 HBK.out.lt
 clear hb5 H4 H4a c1 HBK
 by_cases hm:m=0
 case neg =>
  have hmb:((m:Int) != 0)=true:=by rw [bne_iff_ne];omega
  have HN:Hid (Tr.link t q r=(m,t)):=by
   have:=HLI.out
   rw [if_pos hm] at this
   exact this
  clear hm HLI
  go_wp2_with fail
  go_ret
  rw [HN.out]
  exact HS.out _ _ HB5.out
 subst hm
 rw [if_neg (by simp)] at HLI
 have H5a:=Lib.hid (H5.out _ HB5.out)
 have c2:w5.cell? ⟨w3.heap.size,2,none⟩=some (.int .i64 a3):=HBK5.out.cell 2
 rcases HFI.out with ⟨k1,k2⟩|⟨k,j,k1,k2,_,_⟩
 case inr =>
  have HN:Hid (Tr.link t q r=(21,t)):=by
   have:=HLI.out
   rw [k1,if_pos (show (Option.some k).isSome=true from rfl)] at this
   exact this
  rw [k2] at H5a
  have hj0:(0:Int)≤(j:Int):=by omega
  clear k1 k2 HLI
  go_wp2_with fail
  refine H5a.out.mono ?_
  rintro e w6 ⟨rfl,rfl⟩
  go_wp2_with fail
  go_ret
  rw [HN.out]
  exact HS.out _ _ HB5.out
 rw [k2] at H5a
 rw [k1,if_neg (by simp)] at HLI
 clear k1 k2 H5
 by_cases h64:64≤a3
 ·have HN:Hid (Tr.link t q r=(4,t)):=by
   have:=HLI.out
   rw [if_pos h64] at this
   exact this
  clear HLI
  go_wp2_with fail
  refine H5a.out.mono ?_
  rintro e w6 ⟨rfl,rfl⟩
  go_wp2_with fail
  go_ret
  rw [HN.out]
  exact HS.out _ _ HB5.out
 have HN:Hid (Tr.link t q r=(0,Tr.more (Tr.put t d x i) i 1)):=by
  have:=HLI.out
  rw [if_neg h64] at this
  exact this
 have HGO5:=Lib.hid (HGO.out (by first|rfl|trivial) (by first|rfl|trivial) (by omega) w5 HB5.out)
 have h64b:¬ (64:Int)≤a3:=h64
 clear HLI HGO h64
 go_wp2_with fail
 refine H5a.out.mono ?_
 rintro e w6 ⟨rfl,rfl⟩
 go_wp2_with fail
 refine HGO5.out.mono ?_
 rintro e w7 ⟨rfl,hlinks⟩
 have HLN:=Lib.hid hlinks
 clear hlinks
 go_wp2_with fail
 refine HLN.out.mono ?_
 rintro e w8 ⟨rfl,hrest⟩
 have HR:=Lib.hid hrest
 clear hrest HLN
 go_wp2_with fail
 go_ret
 rw [HN.out]
 exact ⟨rfl,HR.out⟩
end Rf
end Go.Proofs.YtjoedamiilgajaaGreat
namespace Go.Proofs.YtjoedamiilgajaaGreat
open Go.RowKit Rc
open Tr (Nm En T)
namespace Rf
variable {p:Nat} {nv dv ev:Value} {D:Nat→Prop} {t t':T} {w w1 w2:World}
theorem file_at {i:Int} (h0:Tr.file t i=0):∃ e j,Tr.find t i=some e∧t[j]?=some e∧idx t i=(j:Nat)∧j<t.length∧e.nd.kind≠2∧e.nd.id=i:=by
 rcases Tr.file_cases t i with ⟨h1,_⟩|⟨h1,_⟩|⟨_,e,h1,h2⟩
 ·rw [h1] at h0;cases h0
 ·rw [h1] at h0;cases h0
 ·rcases idx_find t i with ⟨h3,_⟩|⟨e',j,h3,h4,h5,h6⟩
  ·rw [h3] at h1;cases h1
  ·rw [h3] at h1
   injection h1 with h1
   subst h1
   exact ⟨e',j,h3,h4,h5,h6,h2,(Tr.find_some h3).2⟩
theorem idx_ris (hr:Tr.Ris t) {i:Int} {j:Nat} {e:En} (hj:t[j]?=some e) (he:e.nd.id=i):idx t i=(j:Nat):=by
 refine idx_at hj he fun m hm hmi=>?_
 obtain ⟨k,hk,hkm⟩:=List.mem_take_iff_getElem.1 hm
 obtain ⟨hlt,hje⟩:=List.getElem?_eq_some_iff.1 hj
 have:=List.pairwise_iff_getElem.1 hr k j (by omega) hlt (by omega)
 rw [hkm,hje] at this
 omega
theorem RA.nvform (h:RA p nv dv ev D t w) (hpos:0<t.length):∃ g c,nv=.slice (some ⟨g,0,none⟩) t.length c:=by
 obtain ⟨A,c,h1,_,h2⟩:=Tm.oF h.in_.nodes
 obtain ⟨g,rfl,_⟩:=h2 hpos
 exact ⟨g,c,h1⟩
theorem RA.nodeSrc {g c:Nat} (h:RA p (.slice (some ⟨g,0,none⟩) t.length c) dv ev D t w):Src (w.alloc (.cells #[] 59)) (some ⟨g,0,none⟩) (ndCells t)∧(w.alloc (.cells #[] 59)).cell? ⟨p,0,none⟩=some (.slice (some ⟨g,0,none⟩) t.length c):=by
 obtain ⟨A,c2,hnv,_,hS⟩:=srcs h.in_.nodes h.np.1
 injection hnv with e1 _ _
 subst e1
 exact ⟨(hS _ (Mod.of_below (bN w _) _)).1,(h.below (bN w _)).in_.box.cell 0⟩
set_option maxRecDepth 100000 in
theorem keep_any (h:RA p nv dv ev D t w) (hG:Tr.Good t) (i:Int) (u:Nat) (hu:u≤18446744073709551615) :
    Calls Tryz.prog 23 #[.pointer (some ⟨p,0,none⟩),.int .i64 i,.int .u64 (u:Nat)] w (RTurn p (Tr.keep t i u).2 (.int .i64 ((Tr.keep t i u).1:Nat)) (RS p nv ev D) w):=by
 have HF:=Lib.hid (file_any h.in_ i (by have:=hG.few;omega))
 have HS:Hid (∀ x,RTurn p t x (RS p nv ev D) w (.returned x) w):=fun x=>RTurn.stay h (Below.refl _ _)
 by_cases h0:Tr.file t i=0
 case neg =>
  have HN:Hid (Tr.keep t i u=(Tr.file t i,t)):=by
   show _=_
   unfold Tr.keep
   rw [if_pos h0]
  rw [HN.out]
  rw [if_neg h0] at HF
  obtain ⟨k,hk⟩:∃ k,k=Tr.file t i:=⟨_,rfl⟩
  rw [← hk] at HF h0 ⊢
  have hki:((k:Int) != 0)=true:=by rw [bne_iff_ne];omega
  clear h hG h0 hk
  go_enter Tryz.func23,Tryz.ntmps23
  go_wp2_with fail
  refine HF.out.mono ?_
  rintro e1 w1 ⟨rfl,rfl⟩
  go_wp2_with fail
  go_ret
  exact HS.out _
 rw [if_pos h0,h0] at HF
 obtain ⟨e,j,h1,h2,h3,h4,h5,h6⟩:=file_at h0
 rw [h3] at HF
 have hpos:0<t.length:=by omega
 obtain ⟨g0,c0,hnv⟩:=h.nvform hpos
 subst hnv
 have HCO:Hid (∀ w2 v2,w2.ownsRow w.heap.size 59 6 v2 t.length (ndCells t)→(w.alloc (.cells #[] 59)).grownBy w2 (Value.slice (some ⟨w.heap.size,0,none⟩) 0 0).ownBlock→∃ g c,v2=.slice (some ⟨g,0,none⟩) t.length c∧w2.cell? ⟨p,0,none⟩=some (.slice (some ⟨g0,0,none⟩) t.length c0)∧w2.frozen? ⟨p,0,none⟩=false∧Hid (Left p t (RS p (.slice (some ⟨g0,0,none⟩) t.length c0) ev D) w (w2.setCell ⟨p,0,none⟩ v2) v2 dv ev D)):=fun w2 v2 ho hg=>h.copied hpos ho hg
 have HS0:=Lib.hid h.nodeSrc.1
 have HO0:Hid ((w.alloc (.cells #[] 59)).ownsRow w.heap.size 59 6 (.slice (some ⟨w.heap.size,0,none⟩) 0 0) 0 []):=none_own w _ _
 have HL0:=Lib.hid (ndCells_length t)
 have HFEW:Hid (t.length≤64):=hG.few
 have HHS:Hid (w.heap.size≤(w.alloc (.cells #[] 59)).heap.size):=(bN w _).size
 have HJ:=Lib.hid h2
 have hjl:(j:Int)<(t.length:Int):=by omega
 have cp:=h.nodeSrc.2
 have cp0:w.cell? ⟨p,0,none⟩=some (.slice (some ⟨g0,0,none⟩) t.length c0):=h.in_.box.cell 0
 have d2:w.cell? ⟨g0,j*6+2,none⟩=some (.int .i64 e.nd.links):=(h.ndcell h2 2 (by omega)).1
 have d3:w.cell? ⟨g0,j*6+3,none⟩=some (.int .i64 e.nd.size):=(h.ndcell h2 3 (by omega)).1
 have d4:w.cell? ⟨g0,j*6+4,none⟩=some (.int .u64 (e.nd.till:Nat)):=(h.ndcell h2 4 (by omega)).1
 have d5:w.cell? ⟨g0,j*6+5,none⟩=some (.bool e.nd.shut):=(h.ndcell h2 5 (by omega)).1
 have htr:Tr.keep t i u=if e.nd.shut=false then (25,t) else if u<e.nd.till then (28,t) else if 1099511627776<u then (1,t) else (0,t.set j { e with nd:={ e.nd with till:=u } }):=by
  unfold Tr.keep
  rw [if_neg (by rw [h0];simp),Tr.ndOf_of h1,upd_at hG.ris h2 h6]
 have HK:=Lib.hid htr
 clear h hG h0 h1 h2 h3 h4 h5 h6 hpos htr
 obtain ⟨sh,hsh⟩:∃ sh,sh=e.nd.shut:=⟨_,rfl⟩
 obtain ⟨tl,htl⟩:∃ tl,tl=e.nd.till:=⟨_,rfl⟩
 rw [← hsh] at d5 HK
 rw [← htl] at d4 HK
 clear hsh htl
 cases sh with
 | false =>
   have HN:Hid (Tr.keep t i u=(25,t)):=HK.out
   rw [HN.out]
   go_enter Tryz.func23,Tryz.ntmps23
   go_wp2_with fail
   refine HF.out.mono ?_
   rintro e1 w1 ⟨rfl,rfl⟩
   go_wp2_with fail
   go_ret
   exact HS.out _
 | true =>
   by_cases k1:(u:Int)<(tl:Int)
   ·have HN:Hid (Tr.keep t i u=(28,t)):=by
     have:=HK.out
     rw [if_neg (by simp),if_pos (by omega)] at this
     exact this
    rw [HN.out]
    go_enter Tryz.func23,Tryz.ntmps23
    go_wp2_with fail
    refine HF.out.mono ?_
    rintro e1 w1 ⟨rfl,rfl⟩
    go_wp2_with fail
    go_ret
    exact HS.out _
   ·by_cases k2:(1099511627776:Int)<(u:Int)
    ·have HN:Hid (Tr.keep t i u=(1,t)):=by
      have:=HK.out
      rw [if_neg (by simp),if_neg (by omega),if_pos (by omega)] at this
      exact this
     rw [HN.out]
     go_enter Tryz.func23,Tryz.ntmps23
     go_wp2_with fail
     refine HF.out.mono ?_
     rintro e1 w1 ⟨rfl,rfl⟩
     go_wp2_with fail
     go_ret
     exact HS.out _
    ·have HN:Hid (Tr.keep t i u=(0,t.set j { e with nd:={ e.nd with till:=u } })):=by
      have:=HK.out
      rw [if_neg (by simp),if_neg (by omega),if_neg (by omega)] at this
      exact this
     rw [HN.out]
     go_enter Tryz.func23,Tryz.ntmps23
     go_wp2_with fail
     refine HF.out.mono ?_
     rintro e1 w1 ⟨rfl,rfl⟩
     go_upto_region 11 with (at_builtin;refine wpList_cat nodeTy rfl (.tmp 43) (.tmp 47) (by rfl) (by rfl) (by rfl) HO0.out HS0.out HL0.out (ndCells_one _) (by have:=HFEW.out;omega) HHS.out (Nat.zero_add _).symm (List.nil_append _).symm ?_;intro v2 w2 HO2 HG2 HP2;obtain ⟨g,c2,hv2,hc2,hf2,HLF⟩:=HCO.out w2 v2 HO2.out HG2.out;subst hv2)
     obtain ⟨W3,hW3⟩:∃ W3,W3=w2.setCell ⟨p,0,none⟩ (.slice (some ⟨g,0,none⟩) t.length c2):=⟨_,rfl⟩
     rw [← hW3] at HLF ⊢
     clear hW3 HCO HO2 HG2 HP2 HS0 HO0 HL0 HHS cp cp0 hc2 hf2 d2 d3 d4 d5
     have hra:=HLF.out.ra
     have c3:W3.cell? ⟨p,0,none⟩=some (.slice (some ⟨g,0,none⟩) t.length c2):=hra.in_.box.cell 0
     have d9:W3.cell? ⟨g,j*6+4,none⟩=some (.int .u64 (e.nd.till:Nat)):=(hra.ndcell HJ.out 4 (by omega)).1
     have f9:=(hra.ndcell HJ.out 4 (by omega)).2
     have HEND:Hid (RTurn p (t.set j { e with nd:={ e.nd with till:=u } }) (.int .i64 0) (RS p (.slice (some ⟨g0,0,none⟩) t.length c0) ev D) w1 (.returned (.int .i64 0)) (W3.setCell ⟨g,j*6+4,none⟩ (.int .u64 (u:Nat)))):=(HLF.out.then (hra.poke (e':={ e with nd:={ e.nd with till:=u } }) (u:=.int .u64 (u:Nat)) HJ.out (f:=4) (by omega) rfl rfl rfl rfl)).turn
     clear hra HLF
     go_wp2_with fail
     go_ret
     exact HEND.out
set_option maxRecDepth 100000 in
theorem seal_any (h:RA p nv dv ev D t w) (hG:Tr.Good t) (i:Int) (u:Nat) (hu:u≤18446744073709551615) :
    Calls Tryz.prog 21 #[.pointer (some ⟨p,0,none⟩),.int .i64 i,.int .u64 (u:Nat)] w (RTurn p (Tr.seal_ t i u).2 (.int .i64 ((Tr.seal_ t i u).1:Nat)) (RS p nv ev D) w):=by
 have HF:=Lib.hid (file_any h.in_ i (by have:=hG.few;omega))
 have HS:Hid (∀ x,RTurn p t x (RS p nv ev D) w (.returned x) w):=fun x=>RTurn.stay h (Below.refl _ _)
 by_cases h0:Tr.file t i=0
 case neg =>
  have HN:Hid (Tr.seal_ t i u=(Tr.file t i,t)):=by
   show _=_
   unfold Tr.seal_
   rw [if_pos h0]
  rw [HN.out]
  rw [if_neg h0] at HF
  obtain ⟨k,hk⟩:∃ k,k=Tr.file t i:=⟨_,rfl⟩
  rw [← hk] at HF h0 ⊢
  have hki:((k:Int) != 0)=true:=by rw [bne_iff_ne];omega
  clear h hG h0 hk
  go_enter Tryz.func21,Tryz.ntmps21
  go_wp2_with fail
  refine HF.out.mono ?_
  rintro e1 w1 ⟨rfl,rfl⟩
  go_wp2_with fail
  go_ret
  exact HS.out _
 rw [if_pos h0,h0] at HF
 obtain ⟨e,j,h1,h2,h3,h4,h5,h6⟩:=file_at h0
 rw [h3] at HF
 have hpos:0<t.length:=by omega
 obtain ⟨g0,c0,hnv⟩:=h.nvform hpos
 subst hnv
 have HCO:Hid (∀ w2 v2,w2.ownsRow w.heap.size 59 6 v2 t.length (ndCells t)→(w.alloc (.cells #[] 59)).grownBy w2 (Value.slice (some ⟨w.heap.size,0,none⟩) 0 0).ownBlock→∃ g c,v2=.slice (some ⟨g,0,none⟩) t.length c∧w2.cell? ⟨p,0,none⟩=some (.slice (some ⟨g0,0,none⟩) t.length c0)∧w2.frozen? ⟨p,0,none⟩=false∧Hid (Left p t (RS p (.slice (some ⟨g0,0,none⟩) t.length c0) ev D) w (w2.setCell ⟨p,0,none⟩ v2) v2 dv ev D)):=fun w2 v2 ho hg=>h.copied hpos ho hg
 have HS0:=Lib.hid h.nodeSrc.1
 have HO0:Hid ((w.alloc (.cells #[] 59)).ownsRow w.heap.size 59 6 (.slice (some ⟨w.heap.size,0,none⟩) 0 0) 0 []):=none_own w _ _
 have HL0:=Lib.hid (ndCells_length t)
 have HFEW:Hid (t.length≤64):=hG.few
 have HHS:Hid (w.heap.size≤(w.alloc (.cells #[] 59)).heap.size):=(bN w _).size
 have HJ:=Lib.hid h2
 have hjl:(j:Int)<(t.length:Int):=by omega
 have cp:=h.nodeSrc.2
 have cp0:w.cell? ⟨p,0,none⟩=some (.slice (some ⟨g0,0,none⟩) t.length c0):=h.in_.box.cell 0
 have d2:w.cell? ⟨g0,j*6+2,none⟩=some (.int .i64 e.nd.links):=(h.ndcell h2 2 (by omega)).1
 have d3:w.cell? ⟨g0,j*6+3,none⟩=some (.int .i64 e.nd.size):=(h.ndcell h2 3 (by omega)).1
 have d4:w.cell? ⟨g0,j*6+4,none⟩=some (.int .u64 (e.nd.till:Nat)):=(h.ndcell h2 4 (by omega)).1
 have d5:w.cell? ⟨g0,j*6+5,none⟩=some (.bool e.nd.shut):=(h.ndcell h2 5 (by omega)).1
 have hr1:Tr.Ris (Tr.upd t i (Tr.shutE u)):=Tr.upd_ris hG.ris fun _=>rfl
 have hu1:Tr.upd t i (Tr.shutE u)=t.set j (Tr.shutE u e):=upd_at hG.ris h2 h6 _
 have htr:Tr.seal_ t i u=if e.nd.shut=true then (27,t) else if 1099511627776<u then (1,t) else if e.nd.links=0 then (0,Tr.remove (t.set j (Tr.shutE u e)) i) else (0,t.set j (Tr.shutE u e)):=by
  unfold Tr.seal_
  rw [if_neg (by rw [h0];simp),Tr.ndOf_of h1,hu1]
 have HK:=Lib.hid htr
 rw [hu1] at hr1
 have hj1:(t.set j (Tr.shutE u e))[j]?=some (Tr.shutE u e):=List.getElem?_set_self h4
 have hnm:e.names=[]:=(hG.each e (Tr.find_some h1).1).file (by
  rcases hG.kind (Tr.find_some h1).1 with k|k
  ·exact k
  ·exact absurd k h5)
 have HGN:Hid (∀ (nv2 dv2 ev2:Value) (D2:Nat→Prop) (W:World),RA p nv2 dv2 ev2 D2 (t.set j (Tr.shutE u e)) W→Calls Tryz.prog 63 #[.pointer (some ⟨p,0,none⟩),.int .i64 i] W (RTurn p (Tr.remove (t.set j (Tr.shutE u e)) i) (.tuple #[]) (RS p nv2 ev2 D2) W)):=fun nv2 dv2 ev2 D2 W hW =>
  gone_any hW i j (by rw [List.length_set];exact h4) (idx_ris hr1 hj1 h6) (by rw [List.length_set];have:=hG.few;omega) (remove_at hr1 hj1 h6) (flat_remove fun m hm hmi=>by
   have k1:=hr1.find hm
   have k2:=hr1.find (List.mem_of_getElem? hj1)
   rw [show (Tr.shutE u e).nd.id=i from h6] at k2
   rw [hmi,k2] at k1
   injection k1 with k1
   rw [← k1]
   exact hnm)
 clear h hG h0 h1 h2 h3 h4 h5 h6 hpos htr hr1 hu1 hj1 hnm
 obtain ⟨sh,hsh⟩:∃ sh,sh=e.nd.shut:=⟨_,rfl⟩
 rw [← hsh] at d5 HK
 clear hsh
 cases sh with
 | true =>
   have HN:Hid (Tr.seal_ t i u=(27,t)):=HK.out
   rw [HN.out]
   go_enter Tryz.func21,Tryz.ntmps21
   go_wp2_with fail
   refine HF.out.mono ?_
   rintro e1 w1 ⟨rfl,rfl⟩
   go_wp2_with fail
   go_ret
   exact HS.out _
 | false =>
   by_cases k2:(1099511627776:Int)<(u:Int)
   ·have HN:Hid (Tr.seal_ t i u=(1,t)):=by
     have:=HK.out
     rw [if_neg (by simp),if_pos (by omega)] at this
     exact this
    rw [HN.out]
    go_enter Tryz.func21,Tryz.ntmps21
    go_wp2_with fail
    refine HF.out.mono ?_
    rintro e1 w1 ⟨rfl,rfl⟩
    go_wp2_with fail
    go_ret
    exact HS.out _
   ·have HN:Hid (Tr.seal_ t i u=if e.nd.links=0 then (0,Tr.remove (t.set j (Tr.shutE u e)) i) else (0,t.set j (Tr.shutE u e))):=by
     have:=HK.out
     rw [if_neg (by simp),if_neg (by omega)] at this
     exact this
    rw [HN.out]
    obtain ⟨R,hR⟩:∃ R:Nat × T,R=if e.nd.links=0 then (0,Tr.remove (t.set j (Tr.shutE u e)) i) else (0,t.set j (Tr.shutE u e)):=⟨_,rfl⟩
    rw [← hR]
    have HR:=Lib.hid hR
    clear hR HN
    go_enter Tryz.func21,Tryz.ntmps21
    go_wp2_with fail
    refine HF.out.mono ?_
    rintro e1 w1 ⟨rfl,rfl⟩
    go_upto_region 9 with (at_builtin;refine wpList_cat nodeTy rfl (.tmp 29) (.tmp 33) (by rfl) (by rfl) (by rfl) HO0.out HS0.out HL0.out (ndCells_one _) (by have:=HFEW.out;omega) HHS.out (Nat.zero_add _).symm (List.nil_append _).symm ?_;intro v2 w2 HO2 HG2 HP2;obtain ⟨g,c2,hv2,hc2,hf2,HLF⟩:=HCO.out w2 v2 HO2.out HG2.out;subst hv2)
    obtain ⟨W3,hW3⟩:∃ W3,W3=w2.setCell ⟨p,0,none⟩ (.slice (some ⟨g,0,none⟩) t.length c2):=⟨_,rfl⟩
    rw [← hW3] at HLF ⊢
    clear hW3 HCO HO2 HG2 HP2 HS0 HO0 HL0 HHS cp cp0 hc2 hf2 d2 d3 d4 d5
    have hra:=HLF.out.ra
    have c3:W3.cell? ⟨p,0,none⟩=some (.slice (some ⟨g,0,none⟩) t.length c2):=hra.in_.box.cell 0
    have d9:W3.cell? ⟨g,j*6+5,none⟩=some (.bool e.nd.shut):=(hra.ndcell HJ.out 5 (by omega)).1
    have f9:=(hra.ndcell HJ.out 5 (by omega)).2
    have hlf2:=HLF.out.then (hra.poke (e':={ e with nd:={ e.nd with shut:=true } }) (u:=.bool true) HJ.out (f:=5) (by omega) rfl rfl rfl rfl)
    have HLF2:=Lib.hid hlf2
    clear hlf2 hra HLF
    go_upto_region 10 with (fail)
    obtain ⟨W4,hW4⟩:∃ W4,W4=W3.setCell ⟨g,j*6+5,none⟩ (.bool true):=⟨_,rfl⟩
    rw [← hW4] at HLF2 ⊢
    clear hW4 c3 d9 f9
    have hlen:t.length=(t.set j { e with nd:={ e.nd with shut:=true } }).length:=by rw [List.length_set]
    have HLF3:Hid (Left p (t.set j { e with nd:={ e.nd with shut:=true } }) (RS p (.slice (some ⟨g0,0,none⟩) t.length c0) ev D) w1 W4 (.slice (some ⟨g,0,none⟩) (t.set j { e with nd:={ e.nd with shut:=true } }).length c2) dv ev D):=by
     rw [← hlen];exact HLF2.out
    have hra:=HLF3.out.ra
    have hj2:(t.set j { e with nd:={ e.nd with shut:=true } })[j]?=some { e with nd:={ e.nd with shut:=true } }:=List.getElem?_set_self (by omega)
    have c3:W4.cell? ⟨p,0,none⟩=some (.slice (some ⟨g,0,none⟩) t.length c2):=HLF2.out.ra.in_.box.cell 0
    have d9:W4.cell? ⟨g,j*6+4,none⟩=some (.int .u64 (e.nd.till:Nat)):=(hra.ndcell hj2 4 (by omega)).1
    have f9:=(hra.ndcell hj2 4 (by omega)).2
    have hlf4:=HLF3.out.then (hra.poke (e':=Tr.shutE u e) (u:=.int .u64 (u:Nat)) hj2 (f:=4) (by omega) rfl rfl rfl rfl)
    rw [List.set_set] at hlf4
    have HLF4:=Lib.hid hlf4
    clear hlf4 hra HLF3 HLF2 hj2
    rw [← hlen] at HLF4
    clear hlen
    go_upto_region 11 with (fail)
    obtain ⟨W5,hW5⟩:∃ W5,W5=W4.setCell ⟨g,j*6+4,none⟩ (.int .u64 (u:Nat)):=⟨_,rfl⟩
    rw [← hW5] at HLF4 ⊢
    clear hW5 c3 d9 f9
    have c3:W5.cell? ⟨p,0,none⟩=some (.slice (some ⟨g,0,none⟩) t.length c2):=HLF4.out.ra.in_.box.cell 0
    have hjn:j<t.length:=by omega
    have hj3:(t.set j (Tr.shutE u e))[j]?=some (Tr.shutE u e):=List.getElem?_set_self hjn
    have hra5:RA p (.slice (some ⟨g,0,none⟩) (t.set j (Tr.shutE u e)).length c2) dv ev D (t.set j (Tr.shutE u e)) W5:=by rw [List.length_set];exact HLF4.out.ra
    have d9:W5.cell? ⟨g,j*6+2,none⟩=some (.int .i64 e.nd.links):=(hra5.ndcell hj3 2 (by omega)).1
    have HGN5:=Lib.hid (HGN.out _ _ _ _ W5 HLF4.out.ra)
    clear hra5 hj3 HGN HK
    by_cases hlk:e.nd.links=0
    ·have hR:=HR.out
     rw [if_pos hlk] at hR
     subst hR
     rw [hlk] at d9
     clear hlk
     go_wp2_with fail
     refine HGN5.out.mono ?_
     intro r W6 hturn
     obtain ⟨rfl,nv6,dv6,ev6,D6,hl6⟩:=hturn.left
     have HEND:Hid (RTurn p (Tr.remove (t.set j (Tr.shutE u e)) i) (.int .i64 0) (RS p (.slice (some ⟨g0,0,none⟩) t.length c0) ev D) w1 (.returned (.int .i64 0)) W6):=(HLF4.out.then hl6).turn
     clear hturn hl6
     go_wp2_with fail
     go_ret
     exact HEND.out
    ·have hR:=HR.out
     rw [if_neg hlk] at hR
     subst hR
     have hlb:(e.nd.links==0)=false:=by rw [beq_eq_false_iff_ne];exact hlk
     have HEND:Hid (RTurn p (t.set j (Tr.shutE u e)) (.int .i64 0) (RS p (.slice (some ⟨g0,0,none⟩) t.length c0) ev D) w1 (.returned (.int .i64 0)) W5):=HLF4.out.turn
     clear hlk
     go_wp2_with fail
     go_ret
     exact HEND.out
end Rf
end Go.Proofs.YtjoedamiilgajaaGreat
