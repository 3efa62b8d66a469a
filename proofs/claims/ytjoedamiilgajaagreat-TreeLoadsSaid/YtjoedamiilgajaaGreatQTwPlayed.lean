/-
  OWN WORK. Law 11's played: both trees, new, and every ask of a list done on both.
-/
import Derived.Test.YtjoedamiilgajaaGreatQTwDo
import Derived.Test.YtjoedamiilgajaaGreatQ09
namespace Go.Proofs.YtjoedamiilgajaaGreat
open Go.RowKit Rc
open Tr (Nm En T)
namespace Tw
structure Pl (v r:Value) (w:World) (Tt:T) (B1 B2:Nat→Prop) (wr:World):Prop where
 good:Tr.Good Tt
 short:Tr.Short Tt
 t:Tm.TAt v Tt B1 wr
 r:Rf.RAt r Tt B2 wr
 ap:∀ k,B1 k→¬ B2 k
 low:Below w.heap.size w wr
 up:∀ k,B1 k∨B2 k→w.heap.size≤k
def PlI (v r:Value) (w:World) (wr:World):Prop:=∃ Tt B1 B2,Pl v r w Tt B1 B2 wr
theorem Pl.next {v r:Value} {w wr w':World} {Tt T':T} {B1 B2 B1' B2':Nat→Prop} (h:Pl v r w Tt B1 B2 wr) (hG:Tr.Good T') (hsh:Tr.Short Tt→Tr.Short T') (ht:Tm.TAt v T' B1' w') (hr:Rf.RAt r T' B2' w') (hap:∀ k,B1' k→¬ B2' k) (hm:Mod wr w' (fun k=>B1 k∨B2 k)) (hs:∀ k,B1' k∨B2' k→(B1 k∨B2 k)∨wr.heap.size≤k):Pl v r w T' B1' B2' w' :=
 ⟨hG,hsh h.short,ht,hr,hap,⟨hm.os.trans h.low.os,hm.tape.trans h.low.tape,hm.output.trans h.low.output,Nat.le_trans h.low.size hm.size,fun k hk=>(hm.block k (Nat.lt_of_lt_of_le hk h.low.size) fun hB=>Nat.not_lt.2 (h.up k hB) hk).trans (h.low.block k hk)⟩,fun k hk=>(hs k hk).elim (h.up k) fun h1=>Nat.le_trans h.low.size h1⟩
set_option maxHeartbeats 8000000 in
set_option maxRecDepth 100000 in
theorem played_any (w:World) (ps:List AskT) (A:Option Addr) (c1:Nat) (hp:AsksT w A ps) (hl:ps.length≤9223372036854775807) :
    Calls Tryz.prog 38 #[.slice A ps.length c1] w fun e w'=>∃ p q Tt B1 B2,e=.returned (.tuple #[.pointer (some ⟨p,0,none⟩),.pointer (some ⟨q,0,none⟩)])∧Pl (.pointer (some ⟨p,0,none⟩)) (.pointer (some ⟨q,0,none⟩)) w Tt B1 B2 w':=by
 have HP:=Lib.hid hp
 clear hp
 go_enter Tryz.func38,Tryz.ntmps38
 go_wp2_with fail
 refine (Tm.new_any w).mono ?_
 rintro e w1 ⟨p,av,gs,S,rfl,ht1,hb1,hS1⟩
 have HT1:Hid (Tm.TIn p av gs S Tr.new w1∧Below w.heap.size w w1∧∀ b,Tm.TrS p av S b→w.heap.size≤b):=⟨ht1,hb1,hS1⟩
 clear ht1 hb1 hS1
 go_wp2_with fail
 refine (Rf.new_any w1).mono ?_
 rintro e w2 ⟨q,nv,dv,ev,D,rfl,hr2,hb2,hS2⟩
 have HSTART:Hid (PlI (.pointer (some ⟨p,0,none⟩)) (.pointer (some ⟨q,0,none⟩)) w w2):=by
  obtain ⟨t1,b1,s1⟩:=HT1.out
  have k1:Tm.TAt (.pointer (some ⟨p,0,none⟩)) Tr.new (Tm.TrS p av S) w1:=⟨p,av,gs,S,rfl,t1,rfl⟩
  have l1:∀ k,Tm.TrS p av S k→k<w1.heap.size:=fun k hk=>Tm.tobj.lt k1 k hk
  refine ⟨Tr.new,Tm.TrS p av S,Rf.RS q nv ev D,Tr.new_good,Tr.new_short,Tm.tobj.keep k1 hb2.size fun k hk=>hb2.block k (l1 k hk),⟨q,nv,dv,ev,D,rfl,hr2,rfl⟩,fun k h1 h2=>?_,b1.trans (hb2.mono b1.size),fun k hk=>?_⟩
  ·have h3:=l1 k h1
   have h4:=hS2 k h2
   omega
  ·rcases hk with hk|hk
   ·exact s1 k hk
   ·exact Nat.le_trans b1.size (hS2 k hk)
 clear hr2 hb2 hS2 HT1
 go_upto_block 0 with (fail)
 go_cut [] (fun wx=>∃ WX,WX=wx∧Hid (PlI (.pointer (some ⟨p,0,none⟩)) (.pointer (some ⟨q,0,none⟩)) w WX))
 case first =>
  go_wp2_with fail
  go_loopw [6] (fun t6 wr=>∃ j:Nat,j≤ps.length∧j≤40∧t6=.int .i64 (j:Nat)∧Hid (PlI (.pointer (some ⟨p,0,none⟩)) (.pointer (some ⟨q,0,none⟩)) w wr)) (fun t6 _=>40-(intOf t6).toNat)
  case atStart=>exact ⟨0,by omega,by omega,rfl,HSTART⟩
  case round =>
   clear HSTART
   obtain ⟨j,hj,hj40,rfl,HJ⟩:=hrel
   by_cases hlt:j<ps.length
   ·by_cases hlt2:j<40
    ·obtain ⟨a,haj⟩:∃ a,ps[j]?=some a:=⟨_,List.getElem?_eq_getElem hlt⟩
     obtain ⟨b,off,rfl,hok⟩:=HP.out.plain (by omega)
     obtain ⟨Tt,B1,B2,hpl⟩:=HJ.out
     have hoj:=hok j a haj
     have HDO:Hid (Calls Tryz.prog 33 #[.pointer (some ⟨p,0,none⟩),.pointer (some ⟨q,0,none⟩),a.val] wr fun e w'=>e=.returned (.bool true)∧Hid (PlI (.pointer (some ⟨p,0,none⟩)) (.pointer (some ⟨q,0,none⟩)) w w')):=by
      refine (do_any hpl.t hpl.r hpl.ap hpl.good a (hoj.fit.later hpl.low) fun hl2 k hk=>?_).mono ?_
      ·have h1:=Ob.rd_lt hoj.fit.rd hl2 hk
       exact ⟨fun hB=>Nat.not_lt.2 (hpl.up k (.inl hB)) h1,fun hB=>Nat.not_lt.2 (hpl.up k (.inr hB)) h1⟩
      ·rintro e w' ⟨he,T',B1',B2',k1,k0,k2,k3,k4,k5,k6⟩
       exact ⟨he,T',B1',B2',hpl.next k1 k0 k2 k3 k4 k5 k6⟩
     have HCELLS:Hid (∀ i v,a.cells[i]?=some v→wr.cell? ((⟨b,off+j*9,none⟩:Addr).add i)=some v):=fun i v hv=>by
      rw [add_plain]
      exact hoj.at_ hpl.low i v hv
     clear hok hoj hpl haj HJ
     go_wp2_with (refine wpList_load_part rfl 56 (.tmp 27) rfl ⟨b,off+j*9,none⟩ rfl a.cells _ HCELLS.out Tryz.underlying56 rfl (by kernel_rfl) ?_)
     refine HDO.out.mono ?_
     rintro e w3 ⟨rfl,HNEXT⟩
     clear HDO HCELLS
     go_wp2_with fail
     go_roundw
     case rel=>exact ⟨j+1,by omega,by omega,by go_num,HNEXT⟩
     case measure=>simp [intOf];omega
    ·go_wp2_with fail
     go_meet
     case rel=>exact ⟨_,rfl,HJ⟩
   ·go_wp2_with fail
    go_meet
    case rel=>exact ⟨_,rfl,HJ⟩
 case rest =>
 obtain ⟨WX,hWX,HPL⟩:=hcut
 subst hWX
 go_wp2_with fail
 go_ret2
 obtain ⟨Tt,B1,B2,h⟩:=HPL.out
 exact ⟨p,q,Tt,B1,B2,rfl,h⟩
end Tw
end Go.Proofs.YtjoedamiilgajaaGreat
