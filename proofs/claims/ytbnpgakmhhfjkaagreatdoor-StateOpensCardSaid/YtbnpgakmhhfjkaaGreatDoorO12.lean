/-
  OWN WORK. TsLoad, TrKeep, TrDropT, SnCommit, SnMem, SnGet, WoCode, WoRules, WoSame, WoNums
-/
import Derived.Test.YtbnpgakmhhfjkaaGreatDoorO10
import Derived.Test.YtbnpgakmhhfjkaaGreatDoorO11
import Derived.Test.YtbnpgakmhhfjkaaGreatDoorO08b
import Derived.Test.YtbnpgakmhhfjkaaGreatDoorO06
import Derived.Test.YtbnpgakmhhfjkaaGreatDoorO02
import Derived.Test.YtbnpgakmhhfjkaaGreatDoorO01
import Derived.Lib.Hide
import Derived.OwnWalk
namespace Go.Proofs.YtbnpgakmhhfjkaaGreatDoor
open Go.RowKit Rc
open Tr (Nm En T)
namespace Ts
theorem ptrTy:Rf.RowTy 111 90 1 (.pointer none) 8:=⟨by kernel_rfl,by kernel_rfl,by kernel_rfl,rfl,by decide,by decide⟩
theorem es_one {ge:Nat} {dv nv:Value} {e:En} {w:World} (h:Tm.EIn ge dv nv e w):Tm.EsAt [ge] [e] (Tm.EnS ge dv nv) w:=⟨Tm.EnS ge dv nv,fun _=>False,h.at_,(fun _ h=>h),(fun _ _ h=>h),fun _=>⟨.inl,fun h=>h.elim id False.elim⟩⟩
structure LI (B g:Nat) (XB:Option Nat) (p:Nat) (es:T) (s:Co.Rs) (av:Value) (gs:List Nat) (S:Nat→Prop) (w:World):Prop where
 t:Tm.TIn p av gs S es w
 r:Rr g XB s w
 up:∀ k,Tm.TrS p av S k→B≤k
variable {B g p:Nat} {XB:Option Nat} {es:T} {s s':Co.Rs} {av:Value} {gs:List Nat} {S:Nat→Prop} {w w':World}
theorem LI.keeps (h:LI B g XB p es s av gs S w) (hg:g<B) (hk:Keeps w w' g) (hr:Rr g XB s' w'):LI B g XB p es s' av gs S w' :=
 ⟨h.t.keep fun b hb=>hk.block b (h.t.lt hb) fun e=>by cases e;have:=h.up _ hb;omega,hr,h.up⟩
theorem LI.push (h:LI B g XB p es s av gs S w) (hB:g<B∧∀ b,XB=some b→b<B) {ge:Nat} {dv nv:Value} {e:En} (hE:Tm.EIn ge dv nv e w) {n0:Nat} (hn:∀ b,Tm.EnS ge dv nv b→n0≤b) (hS:∀ b,S b→b<n0) (hB0:B≤n0) {wa w2:World} {v':Value} (ha:wa=w.alloc (.cells #[.pointer (some ⟨ge,0,none⟩)] 90))
    (ho:w2.ownsRow 0 90 1 v' (gs.length+1) (Tm.ptrCells gs++[.pointer (some ⟨ge,0,none⟩)])) (hgr:wa.grownBy w2 av.ownBlock) (hv:v'.ownBlock=av.ownBlock∨v'.ownBlock=some wa.heap.size):LI B g XB p (es++[e]) s v' (gs++[ge]) (fun b=>S b∨Tm.EnS ge dv nv b) (w2.setCell ⟨p,0,none⟩ v'):=by
 have hba:Below w.heap.size w wa:=by rw [ha];exact below_new w _
 have hap:=h.t.apart
 have keepb:∀ b,b<w.heap.size→av.ownBlock≠some b→b≠p→(w2.setCell ⟨p,0,none⟩ v').heap[b]?=w.heap[b]?:=fun b h1 h2 h3=>(Below.heap_setCell _ _ _ _ (fun e=>h3 e)).trans ((hgr.block b (Nat.lt_of_lt_of_le h1 hba.size) fun e=>h2 e.symm).trans (hba.block b h1))
 have hpw:p<w.heap.size:=h.t.box.lt
 have hbox:Blk w2 p 113 [av]:=(hgr.block p (Nat.lt_of_lt_of_le hpw hba.size) fun e=>(hap.2 p e.symm).2 rfl).trans ((hba.block p hpw).trans h.t.box)
 have hvp:∀ b,v'.ownBlock=some b→b≠p:=fun b hb=>by
  obtain ⟨_,_,cs,h1⟩:=Tm.own_blk ho hb
  exact h1.ne_ hbox (by decide)
 refine ⟨⟨hbox.set_ 0 v',?_,?_⟩,?_,fun k hk=>?_⟩
 ·rw [List.length_append,Tm.ptrCells_append]
  exact Tm.own_keep ho fun b hb=>Below.heap_setCell _ _ _ _ (hvp b hb)
 ·refine (h.t.each.keep fun b hb=>keepb b (h.t.lt (.inr (.inr hb))) (fun h9=>(hap.2 b h9).1 hb) (fun h9=>hap.1 (h9 ▸ hb))).app (es_one (hE.keep fun b hb=>?_)) fun b h1 h2=>?_
  ·obtain ⟨h1,t9,cs9,h2,h3⟩:=hE.kind hb
   refine keepb b h1 (fun h9=>?_) fun h9=>?_
   ·obtain ⟨_,_,cs,h4⟩:=Tm.own_blk h.t.row h9
    exact h2.ne_ h4 (by rcases h3 with rfl|rfl|rfl <;> decide) rfl
   ·subst h9
    exact h2.ne_ h.t.box (by rcases h3 with rfl|rfl|rfl <;> decide) rfl
  ·have:=hS b h1
   have:=hn b h2
   omega
 ·have hgw:=h.r.lt
  refine h.r.keep (by rw [show (w2.setCell ⟨p,0,none⟩ v').heap.size=w2.heap.size by simp [World.setCell]];exact Nat.le_trans hba.size hgr.size) (keepb g hgw (fun h9=>?_) fun h9=>?_) fun b hb=>?_
  ·have:=h.up g (.inr (.inl h9));omega
  ·have:=h.up p (.inl rfl);omega
  ·have hbB:=hB.2 b hb
   refine keepb b ?_ (fun h9=>?_) fun h9=>?_
   ·have:=h.up p (.inl rfl);omega
   ·have:=h.up b (.inr (.inl h9));omega
   ·have:=h.up p (.inl rfl);omega
 ·rcases hk with rfl|hk|hk|hk
  ·exact h.up _ (.inl rfl)
  ·rcases hv with hv|hv
   ·exact h.up k (.inr (.inl (hv ▸ hk)))
   ·rw [hv] at hk
    injection hk with hk
    have h1:=hba.size
    have h2:=h.up p (.inl rfl)
    omega
  ·exact h.up k (.inr (.inr hk))
  ·exact Nat.le_trans hB0 (hn k hk)
def LoadOut (b:Bs) (w:World) (r:Ending) (w':World):Prop:=Below w.heap.size w w' ∧
 ((∃ t p av gs S,Tr.Good t∧Tr.Slim t∧Tr.save t=b∧r=.returned (.tuple #[.pointer (some ⟨p,0,none⟩),.int .i64 0])∧Tm.TIn p av gs S t w'∧∀ k,Tm.TrS p av S k→w.heap.size≤k) ∨
  ((∀ t,Tr.Good t→Tr.Slim t→Tr.save t≠b)∧r=.returned (.tuple #[.pointer none,.int .i64 12])))
theorem LoadOut.no {b:Bs} (hb:Below w.heap.size w w') (h:∀ t,Tr.Good t→Tr.Slim t→Tr.save t≠b):LoadOut b w (.returned (.tuple #[.pointer none,.int .i64 12])) w':=⟨hb,.inr ⟨h,rfl⟩⟩
set_option maxHeartbeats 2000000 in
set_option maxRecDepth 100000 in
theorem load_to {Q:Ending→World→Prop} (w:World) (A:Option Addr) (b:Bs) (cap:Nat) (HQ:Hid (∀ r w',LoadOut b w r w'→Q r w')) (hr:Rd w A b) (hl:b.length≤140737488351232):Calls Tryz.prog 55 #[.slice A b.length cap] w Q:=by
 have HNEW:=Lib.hid (rnew_any w A b cap hr hl)
 clear hr hl
 go_enter Tryz.func55,Tryz.ntmps55
 go_wp2_with fail
 refine HNEW.out.mono ?_
 rintro e w1 ⟨v,S9,rfl,hat,hb1,hS9⟩
 obtain ⟨g,X,cap1,r1,rfl,h1,h2,h3,rfl⟩:=hat
 obtain ⟨XB,hXB⟩:∃ XB,XB=X.map (·.block):=⟨_,rfl⟩
 have HR1:Hid (Rr g XB ⟨b,0⟩ w1):=⟨X,cap1,r1,h1,h2,h3,fun b hb=>by rw [hXB];exact hb⟩
 have HX1:Hid (g<w1.heap.size∧w.heap.size≤g∧∀ b,XB=some b→b<w1.heap.size∧b≠g∧w.heap.size≤b):=⟨h1.blk.lt,hS9 g (.inl rfl),fun b hb=>by
  rw [hXB] at hb
  exact ⟨(h1.off b hb).2,(h1.off b hb).1,hS9 b (.inr hb)⟩⟩
 have HB1:Hid (Below w.heap.size w w1):=hb1
 clear h1 h2 h3 hS9 hb1 hXB HNEW
 go_wp2_with fail
 refine (short_rd HR1.out).mono ?_
 rintro e w2 ⟨rfl,HR2,HK2⟩
 obtain ⟨N,hN⟩:∃ N,N=(Co.num 2 ⟨b,0⟩).1:=⟨_,rfl⟩
 obtain ⟨s2,hs2⟩:∃ s2,s2=(Co.num 2 ⟨b,0⟩).2:=⟨_,rfl⟩
 rw [← hs2] at HR2
 rw [← hN]
 have HNS:∀ P:Prop,(Co.num 2 ⟨b,0⟩=(N,s2)→P)→P:=fun P k=>k (by rw [hN,hs2])
 have HTOT:∀ t,Tr.Good t→Tr.Slim t→Tr.save t=b→∀ P:Prop,(N=t.length∧N≤64∧Tr.ldEns N s2=some (t,⟨[],0⟩)→P)→P:=fun t hG hs hb P k=>k (by
  refine HNS _ fun hns=>?_
  obtain ⟨h1,h2⟩:=Tr.save_reads hG hs
  rw [hb,hns] at h1
  injection h1 with h1 h3
  rw [← h1,← h3] at h2
  exact ⟨h1,by rw [h1];exact hG.few,h2⟩)
 have HB2:Hid (Below w.heap.size w w2):=by
  have hk:=HK2.out
  exact HB1.out.grown hk HB1.out.size fun i hi=>by cases hi;exact HX1.out.2.1
 have HX2:Hid (g<w2.heap.size∧∀ b,XB=some b→b<w2.heap.size):=⟨Nat.lt_of_lt_of_le HX1.out.1 HK2.out.size,fun b hb=>Nat.lt_of_lt_of_le (HX1.out.2.2 b hb).1 HK2.out.size⟩
 have hN9:N≤65535:=by rw [hN];have:=num_small2 (⟨b,0⟩:Co.Rs);omega
 clear hN hs2 HR1 HK2 HB1
 by_cases h64:N≤64
 ·have hgt:¬ (64:Int)<(N:Int):=by omega
  go_upto_region 6 with (fail)
  obtain ⟨w3,hw3⟩:∃ w3,w3=w2.alloc (.cells #[.slice none 0 0] 113):=⟨_,rfl⟩
  obtain ⟨p,hp⟩:∃ p,p=w2.heap.size:=⟨_,rfl⟩
  have hb3:Below w2.heap.size w2 w3:=by rw [hw3];exact below_new w2 _
  have HI3:Hid (LI p g XB p [] s2 (.slice none 0 0) [] (fun _=>False) w3):=by
   refine ⟨⟨by rw [hw3,hp];exact Blk.new w2 _ _,⟨rfl,.inl ⟨rfl,rfl⟩⟩,fun _ h=>h⟩,HR2.out.below HX2.out.2 hb3,fun k hk=>?_⟩
   rcases hk with rfl|hk|hk
   ·exact Nat.le_refl _
   ·cases hk
   ·exact hk.elim
  have HX3:Hid (g<p∧∀ b,XB=some b→b<p):=by rw [hp];exact HX2.out
  have HXG:Hid (w.heap.size≤g∧(∀ b,XB=some b→b≠g∧w.heap.size≤b)∧w.heap.size≤p):=⟨HX1.out.2.1,fun b hb=>(HX1.out.2.2 b hb).2,by rw [hp];exact HB2.out.size⟩
  have HB3:Hid (Below w.heap.size w w3):=HB2.out.trans (hb3.mono HB2.out.size)
  rw [← hw3,← hp]
  clear hw3 hp hb3 HR2 HB2 HX2 HX1 hgt
  go_wp2_with fail
  go_loopw [7,8,18] (fun t7 t8 t18 wr=>∃ (j:Nat) (v7 v8:Value) (es:T) (sj:Co.Rs) (av:Value) (gs:List Nat) (S:Nat→Prop),t7=v7∧t8=v8∧t18=.int .i64 j∧j≤N∧Hid (LI p g XB p es sj av gs S wr)∧Hid (es.length=j)∧Hid (Below w.heap.size w wr)∧∀ P:Prop,(Tr.ldEns j s2=some (es,sj)→P)→P) (fun _ _ t18 _=>N-(match t18 with|.int _ k=>k.toNat|_=>0))
  case atStart=>exact ⟨0,_,_,[],s2,_,[],_,rfl,rfl,rfl,Nat.zero_le _,HI3.out,rfl,HB3.out,fun P k=>k (Tr.ldEns_zero s2)⟩
  case round =>
   clear HI3 HB3
   obtain ⟨j,v7,v8,es,sj,av,gs,S,rfl,rfl,rfl,hj,HI,HEL,HB,HREL⟩:=hrel
   by_cases hk:j<N
   ·have hlt2:(j:Int)<(N:Int):=by omega
    have HEN:=Lib.hid (entry_any HI.out.r (fun b hb=>⟨by have:=HX3.out.2 b hb;have:=HI.out.t.box.lt;omega,(HXG.out.2.1 b hb).1⟩))
    go_wp2_with fail
    refine HEN.out.mono ?_
    rintro r w4 ⟨hk4,⟨v,rfl,hno⟩|⟨e,s4,ge,dv,nv,hyes,rfl,hE,hup,hR4⟩⟩
    ·have HB4:Hid (Below w.heap.size w w4):=HB.out.grown hk4 HB.out.size fun i hi=>by cases hi;exact HXG.out.1
     have HNO:Hid (∀ t,Tr.Good t→Tr.Slim t→Tr.save t≠b):=fun t hG hs hb=>HTOT t hG hs hb _ fun h9=>HREL _ fun hrel=>by
      have:=Tr.ldEns_no hk hrel hno
      rw [h9.2.2] at this
      cases this
     clear hk4 hno HTOT HREL HNS HEN
     go_wp2_with fail
     first|exact HQ.out _ _ (.no HB4.out HNO.out)|(go_ret2;exact HQ.out _ _ (.no HB4.out HNO.out))
    ·have HB4:Hid (Below w.heap.size w w4):=HB.out.grown hk4 HB.out.size fun i hi=>by cases hi;exact HXG.out.1
     have HI4:Hid (LI p g XB p es s4 av gs S w4):=HI.out.keeps HX3.out.1 hk4 hR4
     have HREL4:∀ P:Prop,(Tr.ldEns (j+1) s2=some (es++[e],s4)→P)→P:=fun P k=>HREL _ fun hrel=>k (Tr.ldEns_one hrel hyes)
     have hE4:=Lib.hid hE
     have HUP:Hid ((∀ b,Tm.EnS ge dv nv b→wr.heap.size≤b)∧(∀ b,S b→b<wr.heap.size)∧p≤wr.heap.size):=⟨hup,fun b hb=>HI.out.t.lt (.inr (.inr hb)),Nat.le_of_lt HI.out.t.box.lt⟩
     clear hk4 hyes hE hup hR4 HREL HEN HB HI
     have c0:w4.cell? ⟨p,0,none⟩=some av:=HI4.out.t.box.cell 0
     obtain ⟨Aa,ca,hav,hca,_⟩:=Tm.own_form HI4.out.t.row
     obtain ⟨wa,hwa⟩:∃ wa,wa=w4.alloc (.cells #[.pointer (some ⟨ge,0,none⟩)] 90):=⟨_,rfl⟩
     have hba:Below w4.heap.size w4 wa:=by rw [hwa];exact below_new w4 _
     have HROW:Hid (wa.ownsRow 0 90 1 av gs.length (Tm.ptrCells gs)):=Tm.own_keep HI4.out.t.row fun b hb=>hba.block b (Tm.own_blk HI4.out.t.row hb).2.1
     have HSRC:Hid (Rf.Src wa (some ⟨w4.heap.size,0,none⟩) [.pointer (some ⟨ge,0,none⟩)]):=by show Rf.Src _ _ _;rw [hwa];exact Rf.new_src w4 _ [.pointer (some ⟨ge,0,none⟩)]
     have HWA:Hid (wa=w4.alloc (.cells #[.pointer (some ⟨ge,0,none⟩)] 90)):=hwa
     have HBX:Hid (Blk wa p 113 [av]):=HI4.out.t.box.below hba HI4.out.t.box.lt
     have HAP:Hid (av.ownBlock≠some p):=fun h9=>(HI4.out.t.apart.2 p h9).2 rfl
     have hgl:gs.length≤1000000:=by
      have h1:gs.length=es.length:=HI4.out.t.each.len
      have h2:es.length=j:=HEL.out
      omega
     have HBA:Hid (Below w.heap.size w wa):=HB4.out.trans (hba.mono HB4.out.size)
     clear hba HB4
     go_upto_region 11 with (fail)
     subst hav
     go_wp2_with (rw [← hwa];at_builtin;refine Rf.wpList_cat ptrTy (N:=gs.length+1) rfl (.tmp 31) (.tmp 33) rfl rfl rfl HROW.out HSRC.out rfl (by intro u hu;simp at hu;subst hu;rfl) (by omega) (Nat.zero_le _) rfl rfl ?_;intro v5 w5 HO5 HG5 HV5;obtain ⟨A5,k5,rfl,_,_⟩:=Tm.own_form HO5.out;have hbx5:Blk w5 p 113 [.slice Aa gs.length ca]:=(HG5.out.block p HBX.out.lt fun e=>HAP.out e.symm).trans HBX.out;have cl5:=hbx5.cell 0;have f5:=hbx5.frozen 0;clear hbx5)
     clear hwa
     have HIN:Hid (LI p g XB p (es++[e]) s4 (.slice A5 (gs.length+1) k5) (gs++[ge]) (fun b=>S b∨Tm.EnS ge dv nv b) (w5.setCell ⟨p,0,none⟩ (.slice A5 (gs.length+1) k5))):=HI4.out.push HX3.out hE4.out HUP.out.1 HUP.out.2.1 HUP.out.2.2 HWA.out HO5.out HG5.out HV5.out
     have HBN:Hid (Below w.heap.size w (w5.setCell ⟨p,0,none⟩ (.slice A5 (gs.length+1) k5))):=by
      have h1:Below w.heap.size w w5:=HBA.out.grown HG5.out HBA.out.size fun i hi=>by
       have h2:=HI4.out.up i (.inr (.inl hi))
       have h3:=HXG.out.2.2
       omega
      exact ⟨h1.os,h1.tape,h1.output,Nat.le_trans h1.size (by simp [World.setCell]),fun k hk=>(Below.heap_setCell _ _ _ _ (fun e:k=p=>by have h9:w.heap.size≤p:=HXG.out.2.2;omega)).trans (h1.block k hk)⟩
     have HLN:Hid ((es++[e]).length=j+1):=by
      have h1:es.length=j:=HEL.out
      show _=_
      simp [h1]
     have hN64:N≤65535:=hN9
     clear HI4 hE4 HUP HWA HO5 HG5 HV5 HBA HROW HSRC HBX HAP HEL
     go_roundw
     case rel=>exact ⟨j+1,_,_,es++[e],s4,_,gs++[ge],_,rfl,rfl,by go_num,by omega,HIN.out,HLN.out,HBN.out,HREL4⟩
     case measure=>simp;omega
   ·obtain rfl:j=N:=by omega
    have HFIN:=Lib.hid (end_rd HI.out.r)
    have HTO2:∀ t,Tr.Good t→Tr.Slim t→Tr.save t=b→∀ P:Prop,(t=es∧Co.fin sj=0→P)→P:=fun t hG hs hb P k=>HTOT t hG hs hb _ fun h9=>HREL _ fun hrel=>by
     rw [h9.2.2] at hrel
     injection hrel with hrel
     injection hrel with h1 h2
     refine k ⟨h1,?_⟩
     rw [← h2];rfl
    have HRS:Co.fin sj=0→∀ P:Prop,(Tr.save es=b∧Tr.Slim es∧Tr.Raw es→P)→P:=fun h0 P k=>HNS _ fun hns=>HREL _ fun hrel=>by
     obtain ⟨h1,h2,h3,_⟩:=Tr.reads_save hns hrel h0
     exact k ⟨h1,h2,h3⟩
    have HLN:Hid (es.length≤64):=by
     have h1:es.length=j:=HEL.out
     show _≤_
     omega
    clear HTOT HREL HNS HEL
    obtain ⟨fn,hfn⟩:∃ fn,fn=Co.fin sj:=⟨_,rfl⟩
    rw [← hfn] at HFIN HTO2 HRS
    clear hfn
    go_wp2_with fail
    refine HFIN.out.mono ?_
    rintro r w6 ⟨rfl,hb6⟩
    have HB6:Hid (Below w.heap.size w w6):=HB.out.trans (hb6.mono HB.out.size)
    have HT6:Hid (Tm.TIn p av gs S es w6):=HI.out.t.below hb6
    have HUP6:Hid (∀ k,Tm.TrS p av S k→w.heap.size≤k):=fun k hk=>Nat.le_trans HXG.out.2.2 (HI.out.up k hk)
    clear hb6 HFIN HI HB
    by_cases h0:fn=0
    ·have HRS0:=HRS h0
     subst h0
     have HRW:Hid (Tr.Raw es):=HRS0 _ fun h=>h.2.2
     have HRT:=Lib.hid (Tm.right_any HT6.out HRW.out HLN.out)
     clear HRS HRW
     go_wp2_with fail
     refine HRT.out.mono ?_
     rintro r w7 ⟨rb,rfl,hrb,hb7⟩
     have HB7:Hid (Below w.heap.size w w7):=HB6.out.trans (hb7.mono HB6.out.size)
     have HT7:Hid (Tm.TIn p av gs S es w7):=HT6.out.below hb7
     have HRB:Hid (rb=true↔Tr.Good es):=hrb
     clear hb7 hrb HRT HT6 HB6
     cases rb
     ·have HNO:Hid (∀ t,Tr.Good t→Tr.Slim t→Tr.save t≠b):=fun t hG hs hb=>HTO2 t hG hs hb _ fun h9=>by
       have:=HRB.out.2 (h9.1 ▸ hG)
       cases this
      clear HTO2 HRS0 HRB
      go_wp2_with fail
      first|exact HQ.out _ _ (.no HB7.out HNO.out)|(go_ret2;exact HQ.out _ _ (.no HB7.out HNO.out))
     ·have HYES:Hid (LoadOut b w (.returned (.tuple #[.pointer (some ⟨p,0,none⟩),.int .i64 0])) w7):=HRS0 _ fun h9=>⟨HB7.out,.inl ⟨es,p,av,gs,S,HRB.out.1 rfl,h9.2.1,h9.1,rfl,HT7.out,HUP6.out⟩⟩
      clear HTO2 HRS0 HRB
      go_wp2_with fail
      first|exact HQ.out _ _ HYES.out|(go_ret2;exact HQ.out _ _ HYES.out)
    ·have HNO:Hid (∀ t,Tr.Good t→Tr.Slim t→Tr.save t≠b):=fun t hG hs hb=>HTO2 t hG hs hb _ fun h9=>h0 h9.2
     have hz:((fn:Int)==0)=false:=by rw [beq_eq_false_iff_ne];omega
     have HF0:Hid (¬ fn=0):=h0
     clear HTO2 HRS h0
     go_wp2_with fail
     all_goals first
      | exact HQ.out _ _ (.no HB6.out HNO.out)
      | (exfalso;exact HF0.out (by first|assumption|omega))
      | (go_ret2;exact HQ.out _ _ (.no HB6.out HNO.out))
 ·have hgt:(64:Int)<(N:Int):=by omega
  have HNO:Hid (∀ t,Tr.Good t→Tr.Slim t→Tr.save t≠b):=fun t hG hs hb=>HTOT t hG hs hb _ fun h9=>h64 h9.2.1
  clear h64 HTOT HNS
  go_wp2_with fail
  first|exact HQ.out _ _ (.no HB2.out HNO.out)|(go_ret2;exact HQ.out _ _ (.no HB2.out HNO.out))
theorem load_any (w:World) (A:Option Addr) (b:Bs) (cap:Nat) (hr:Rd w A b) (hl:b.length≤140737488351232):Calls Tryz.prog 55 #[.slice A b.length cap] w (LoadOut b w):=load_to w A b cap (fun _ _ h=>h) hr hl
end Ts
end Go.Proofs.YtbnpgakmhhfjkaaGreatDoor
namespace Go.Proofs.YtbnpgakmhhfjkaaGreatDoor
open Go.RowKit Rc
open Tr (Nm En T)
namespace Tm
variable {p:Nat} {av:Value} {gs:List Nat} {S:Nat→Prop} {t:T} {w:World}
set_option maxHeartbeats 1000000 in
set_option maxRecDepth 100000 in
theorem keep_any (h:TIn p av gs S t w) (hG:Tr.Good t) (i:Int) (u:Nat) (hu:u≤18446744073709551615) :
    Calls Tryz.prog 113 #[.pointer (some ⟨p,0,none⟩),.int .i64 i,.int .u64 (u:Nat)] w (TTurn p (Tr.keep t i u).2 (.int .i64 ((Tr.keep t i u).1:Nat)) (TrS p av S) w):=by
 have HF:=Lib.hid (file_any h hG i)
 have HS:Hid (∀ x,TTurn p t x (TrS p av S) w (.returned x) w):=fun x=>TTurn.stay h (Below.refl _ _)
 rcases Tr.file_cases t i with ⟨h1,h2⟩|⟨h1,e,h2,h3⟩|⟨h1,e,h2,h3⟩
 any_goals
  have HN:Hid (Tr.keep t i u=(Tr.file t i,t)):=by
   show _=_
   unfold Tr.keep
   rw [if_pos (by rw [h1];simp)]
  rw [HN.out,h1]
  rw [h1] at HF
  unfold fileV at HF
  clear h hG h1
  go_enter Tryz.func113,Tryz.ntmps113
  go_wp2_with fail
  refine HF.out.mono ?_
  rintro e w1 ⟨rfl,rfl⟩
  go_wp2_with fail
  go_ret
  exact HS.out _
 obtain ⟨g,S1,hp,hE,hSS,hto⟩:=h.turnAt hG.ris h2
 have HV:fileV gs t i 0=.tuple #[.pointer (some ⟨g,0,none⟩),.int .i64 0]:=by
  unfold fileV
  rw [if_pos rfl,hp];rfl
 rw [h1,HV] at HF
 obtain ⟨_,_,_,_,c4,c5⟩:=hE.cells
 have hkeep:Tr.keep t i u=if e.nd.shut=false then (25,t) else if u<e.nd.till then (28,t) else if 1099511627776<u then (1,t) else (0,Tr.upd t i fun e=>{ e with nd:={ e.nd with till:=u } }):=by
  unfold Tr.keep
  rw [if_neg (by rw [h1];simp),Tr.ndOf_of h2]
 obtain ⟨dv,nv,hEI,rfl⟩:=hE
 have HEND:Hid (TTurn p (Tr.upd t i fun e=>{ e with nd:={ e.nd with till:=u } }) (.int .i64 0) (TrS p av S) w (.returned (.int .i64 0)) (w.setCell ⟨g,4,none⟩ (.int .u64 (u:Nat)))):=by
  obtain ⟨k1,k2⟩:=hEI.poke (e':={ e with nd:={ e.nd with till:=u } }) (i:=4) (u:=.int .u64 (u:Nat)) rfl rfl rfl
  obtain ⟨S',m1,m2,m3⟩:=hto _ (fun e=>{ e with nd:={ e.nd with till:=u } }) _ k1 k2 fun b hb=>.inl hb
  exact ⟨rfl,_,m1.at_,m2,m3⟩
 have hf4:w.frozen? ⟨g,4,none⟩=false:=hEI.box.frozen 4
 obtain ⟨till,ht⟩:∃ till,till=e.nd.till:=⟨_,rfl⟩
 rw [← ht] at c4 hkeep
 have HK:=Lib.hid hkeep
 obtain ⟨b,hb⟩:∃ b,b=e.nd.shut:=⟨_,rfl⟩
 rw [← hb] at c5 HK
 clear h hG h1 h2 h3 hp hSS hto HV hEI hkeep ht hb
 cases b
 ·have HN:Hid (Tr.keep t i u=(25,t)):=HK.out
  rw [HN.out]
  go_enter Tryz.func113,Tryz.ntmps113
  go_wp2_with fail
  refine HF.out.mono ?_
  rintro e w1 ⟨rfl,rfl⟩
  go_wp2_with fail
  go_ret
  exact HS.out _
 ·by_cases h4:(u:Int)<(till:Int)
  ·have HN:Hid (Tr.keep t i u=(28,t)):=by
    have:=HK.out
    rw [if_neg (by simp),if_pos (by omega)] at this
    exact this
   rw [HN.out]
   go_enter Tryz.func113,Tryz.ntmps113
   go_wp2_with fail
   refine HF.out.mono ?_
   rintro e w1 ⟨rfl,rfl⟩
   go_wp2_with fail
   go_ret
   exact HS.out _
  ·by_cases h5:(1099511627776:Int)<(u:Int)
   ·have HN:Hid (Tr.keep t i u=(1,t)):=by
     have:=HK.out
     rw [if_neg (by simp),if_neg (by omega),if_pos (by omega)] at this
     exact this
    rw [HN.out]
    go_enter Tryz.func113,Tryz.ntmps113
    go_wp2_with fail
    refine HF.out.mono ?_
    rintro e w1 ⟨rfl,rfl⟩
    go_wp2_with fail
    go_ret
    exact HS.out _
   ·have HN:Hid (Tr.keep t i u=(0,Tr.upd t i fun e=>{ e with nd:={ e.nd with till:=u } })):=by
     have:=HK.out
     rw [if_neg (by simp),if_neg (by omega),if_neg (by omega)] at this
     exact this
    rw [HN.out]
    go_enter Tryz.func113,Tryz.ntmps113
    go_wp2_with fail
    refine HF.out.mono ?_
    rintro e w1 ⟨rfl,rfl⟩
    go_wp2_with fail
    go_ret
    exact HEND.out
set_option maxHeartbeats 2000000 in
set_option maxRecDepth 100000 in
theorem seal_any (h:TIn p av gs S t w) (hG:Tr.Good t) (i:Int) (u:Nat) (hu:u≤18446744073709551615) :
    Calls Tryz.prog 100 #[.pointer (some ⟨p,0,none⟩),.int .i64 i,.int .u64 (u:Nat)] w (TTurn p (Tr.seal_ t i u).2 (.int .i64 ((Tr.seal_ t i u).1:Nat)) (TrS p av S) w):=by
 have HF:=Lib.hid (open_any h hG i)
 have HS:Hid (∀ x,TTurn p t x (TrS p av S) w (.returned x) w):=fun x=>TTurn.stay h (Below.refl _ _)
 by_cases h0:Tr.openN t i=0
 case neg =>
  have HN:Hid (Tr.seal_ t i u=(Tr.openN t i,t)):=by
   show _=_
   unfold Tr.openN at h0 ⊢
   unfold Tr.seal_
   split
   ·rfl
   ·rename_i h1
    rw [if_neg h1] at h0
    split
    ·rfl
    ·rename_i h2
     rw [if_neg h2] at h0
     exact absurd rfl h0
  rw [HN.out]
  obtain ⟨k,hk⟩:∃ k,k=Tr.openN t i:=⟨_,rfl⟩
  rw [← hk] at HF h0 ⊢
  unfold fileV at HF
  rw [if_neg h0] at HF
  have hki:((k:Int)==0)=false:=by rw [beq_eq_false_iff_ne];omega
  clear h hG hk h0
  go_enter Tryz.func100,Tryz.ntmps100
  go_wp2_with fail
  refine HF.out.mono ?_
  rintro e w1 ⟨rfl,rfl⟩
  go_wp2_with fail
  go_ret
  exact HS.out _
 have hfile:Tr.file t i=0∧(Tr.ndOf t i).shut=false:=by
  unfold Tr.openN at h0
  split at h0
  ·rename_i h1;exact absurd h0 h1
  ·rename_i h1
   split at h0
   ·cases h0
   ·rename_i h2
    exact ⟨Decidable.byContradiction h1,by simpa using h2⟩
 obtain ⟨e,h2,h3⟩:∃ e,Tr.find t i=some e∧e.nd.kind≠2:=by
  rcases Tr.file_cases t i with ⟨h1,_⟩|⟨h1,_⟩|⟨_,h1⟩
  ·rw [h1] at hfile;cases hfile.1
  ·rw [h1] at hfile;cases hfile.1
  ·exact h1
 obtain ⟨g,S1,hp,hE,hSS,hto⟩:=h.turnAt hG.ris h2
 have HV:fileV gs t i 0=.tuple #[.pointer (some ⟨g,0,none⟩),.int .i64 0]:=by
  unfold fileV
  rw [if_pos rfl,hp];rfl
 rw [h0,HV] at HF
 obtain ⟨_,_,c2,c3,c4,c5⟩:=hE.cells
 have hsh:=hfile.2
 rw [Tr.ndOf_of h2] at hsh
 rw [hsh] at c5
 have hseal:Tr.seal_ t i u=if 1099511627776<u then (1,t) else if e.nd.links=0 then (0,Tr.remove (Tr.upd t i (Tr.shutE u)) i) else (0,Tr.upd t i (Tr.shutE u)):=by
  unfold Tr.seal_
  rw [if_neg (by rw [hfile.1];simp),if_neg (by rw [hfile.2];simp),Tr.ndOf_of h2]
 have HK:=Lib.hid hseal
 by_cases h5:(1099511627776:Int)<(u:Int)
 ·have HN:Hid (Tr.seal_ t i u=(1,t)):=by
   have:=HK.out
   rw [if_pos (by omega)] at this
   exact this
  rw [HN.out]
  clear h hG h0 hfile h2 h3 hp hE hSS hto HV hsh hseal
  go_enter Tryz.func100,Tryz.ntmps100
  go_wp2_with fail
  refine HF.out.mono ?_
  rintro e w1 ⟨rfl,rfl⟩
  go_wp2_with fail
  go_ret
  exact HS.out _
 obtain ⟨dv,nv,hEI,rfl⟩:=hE
 have hshut:∀ x:En,(Tr.shutE u x).nd.id=x.nd.id:=fun x=>rfl
 obtain ⟨w2,hw2⟩:∃ w2,w2=(w.setCell ⟨g,5,none⟩ (.bool true)).setCell ⟨g,4,none⟩ (.int .u64 (u:Nat)):=⟨_,rfl⟩
 obtain ⟨S',m1,m2,m3⟩:∃ S',TIn p av gs S' (Tr.upd t i (Tr.shutE u)) w2∧Mod w w2 (TrS p av S)∧∀ b,TrS p av S' b→TrS p av S b∨w.heap.size≤b:=by
  obtain ⟨k1,k2⟩:=hEI.poke (e':={ e with nd:={ e.nd with shut:=true } }) (i:=5) (u:=.bool true) rfl rfl rfl
  obtain ⟨dv',nv',k3,k4⟩:=k1
  have k5:=k3.poke (e':=Tr.shutE u e) (i:=4) (u:=.int .u64 (u:Nat)) rfl rfl rfl
  rw [← hw2,← k4] at k5
  exact hto w2 (Tr.shutE u) _ k5.1 (k2.trans k5.2) fun b hb=>.inl hb
 have f4:w.frozen? ⟨g,4,none⟩=false:=hEI.box.frozen 4
 have f5:w.frozen? ⟨g,5,none⟩=false:=hEI.box.frozen 5
 have hc2:w2.cell? ⟨g,2,none⟩=some (.int .i64 e.nd.links):=by
  rw [hw2]
  exact ((hEI.box.set_ 5 (.bool true)).set_ 4 (.int .u64 (u:Nat))).cell 2
 have hrem:=Tr.find_upd_same hshut h2
 have HREM:=Lib.hid (remove_any m1 (Tr.upd_ris hG.ris hshut) (by rw [Tr.upd_length];have:=hG.few;omega) hrem)
 have HEND:Hid (TTurn p (Tr.upd t i (Tr.shutE u)) (.int .i64 0) (TrS p av S) w (.returned (.int .i64 0)) w2):=⟨rfl,_,m1.at_,m2,m3⟩
 have HMORE:Hid (∀ w3 t3,TTurn p t3 (.tuple #[]) (TrS p av S') w2 (.returned (.tuple #[])) w3→TTurn p t3 (.int .i64 0) (TrS p av S) w (.returned (.int .i64 0)) w3):=by
  rintro w3 t3 ⟨_,S3,n1,n2,n3⟩
  refine ⟨rfl,S3,n1,?_,fun b hb=>?_⟩
  ·refine ⟨n2.os.trans m2.os,n2.tape.trans m2.tape,n2.output.trans m2.output,Nat.le_trans m2.size n2.size,fun k hk hn=>(n2.block k (Nat.lt_of_lt_of_le hk m2.size) fun h8=>?_).trans (m2.block k hk hn)⟩
   rcases m3 k h8 with h9|h9
   ·exact hn h9
   ·omega
  ·rcases n3 b hb with h8|h8
   ·exact m3 b h8
   ·exact .inr (Nat.le_trans m2.size h8)
 have HW2:=Lib.hid hw2
 obtain ⟨links,hl⟩:∃ links,links=e.nd.links:=⟨_,rfl⟩
 rw [← hl] at c2 hc2 HK
 clear h hG h0 hfile h2 h3 hp hSS hto HV hsh hseal hEI hshut m1 m2 m3 hrem hl
 by_cases h6:links=0
 ·have HN:Hid (Tr.seal_ t i u=(0,Tr.remove (Tr.upd t i (Tr.shutE u)) i)):=by
   have:=HK.out
   rw [if_neg (by omega),if_pos h6] at this
   exact this
  rw [HN.out]
  have hl0:(links==0)=true:=by simpa using h6
  clear h6
  go_enter Tryz.func100,Tryz.ntmps100
  go_wp2_with fail
  refine HF.out.mono ?_
  rintro e w1 ⟨rfl,rfl⟩
  go_upto_region 8 with (fail)
  rw [← hw2]
  clear hw2 c2 c3 c4 c5 f4 f5
  go_wp2_with fail
  refine HREM.out.mono ?_
  rintro e w3 ⟨rfl,hT⟩
  have HT:=Lib.hid hT
  clear hT
  go_wp2_with fail
  go_ret
  exact HMORE.out _ _ ⟨rfl,HT.out⟩
 ·have HN:Hid (Tr.seal_ t i u=(0,Tr.upd t i (Tr.shutE u))):=by
   have:=HK.out
   rw [if_neg (by omega),if_neg h6] at this
   exact this
  rw [HN.out]
  have hl0:(links==0)=false:=by simpa using h6
  clear h6
  go_enter Tryz.func100,Tryz.ntmps100
  go_wp2_with fail
  refine HF.out.mono ?_
  rintro e w1 ⟨rfl,rfl⟩
  go_upto_region 8 with (fail)
  rw [← hw2]
  clear hw2 c2 c3 c4 c5 f4 f5
  go_wp2_with fail
  go_ret
  exact HEND.out
theorem EIn.data_to {g:Nat} {dv nv dv':Value} {e:En} {w1:World} (h:EIn g dv nv e w) (l:Bs) (k:Int) (ho:w1.ownsRow 0 5 1 dv' l.length (Lib.byteCells l)) (hg:w.grownBy w1 dv.ownBlock) (hb:∀ b,dv'.ownBlock=some b→dv.ownBlock=some b∨w.heap.size≤b) :
    ∃ S',EAt g { e with data:=l,nd:={ e.nd with size:=k } } S' ((w1.setCell ⟨g,6,none⟩ dv').setCell ⟨g,3,none⟩ (.int .i64 k))∧Mod w ((w1.setCell ⟨g,6,none⟩ dv').setCell ⟨g,3,none⟩ (.int .i64 k)) (EnS g dv nv)∧∀ b,S' b→EnS g dv nv b∨w.heap.size≤b:=by
 have hgn:some g≠dv.ownBlock:=fun e2=>by
  obtain ⟨_,_,cs,h1⟩:=own_blk h.data e2.symm
  exact absurd rfl (h1.ne_ h.box (by decide))
 have hgd:∀ b,nv.ownBlock=some b→some b≠dv.ownBlock:=fun b hb2 e2=>by
  obtain ⟨_,_,cs,h1⟩:=own_blk h.data e2.symm
  obtain ⟨_,_,cs2,h2⟩:=own_blk h.names hb2
  exact absurd rfl (h1.ne_ h2 (by decide))
 have hgl:=h.box.lt
 have hng:∀ b,nv.ownBlock=some b→b≠g:=fun b hb2=>by
  obtain ⟨_,_,cs,h1⟩:=own_blk h.names hb2
  exact h1.ne_ h.box (by decide)
 have hdg:∀ b,dv'.ownBlock=some b→b≠g:=fun b hb2 e2=>by
  rcases hb b hb2 with h1|h1
  ·exact hgn (by rw [h1,e2])
  ·omega
 have hbox:Blk w1 g 94 (enCells e dv nv):=(hg.block g hgl hgn).trans h.box
 have hh:∀ b,b≠g→((w1.setCell ⟨g,6,none⟩ dv').setCell ⟨g,3,none⟩ (.int .i64 k)).heap[b]?=w1.heap[b]?:=fun b hbg=>by
  rw [Below.heap_setCell _ _ _ _ hbg,Below.heap_setCell _ _ _ _ hbg]
 refine ⟨EnS g dv' nv,⟨dv',nv,⟨(hbox.set_ 6 dv').set_ 3 (.int .i64 k),own_keep ho fun b hb2=>hh b (hdg b hb2),own_keep h.names fun b hb2=>?_⟩,rfl⟩,⟨hg.os,hg.tape,hg.output,by simpa [World.setCell] using hg.size,fun k hk hn=>?_⟩,?_⟩
 ·rw [hh b (hng b hb2)]
  exact hg.block b (own_blk h.names hb2).2.1 (hgd b hb2)
 ·rw [hh k (fun e2=>hn (.inl e2))]
  exact hg.block k hk fun e2=>hn (.inr (.inl e2.symm))
 ·rintro b (rfl|hb2|hb2)
  ·exact .inl (.inl rfl)
  ·exact (hb b hb2).imp (fun h1=>.inr (.inl h1)) id
  ·exact .inl (.inr (.inr hb2))
set_option maxHeartbeats 2000000 in
set_option maxRecDepth 100000 in
theorem append_any (h:TIn p av gs S t w) (hG:Tr.Good t) (i:Int) (A:Option Addr) (b:Bs) (cap:Nat) (hr:Rd w A b) (hbl:b.length≤1000000000) :
    Calls Tryz.prog 99 #[.pointer (some ⟨p,0,none⟩),.int .i64 i,.slice A b.length cap] w (TTurn p (Tr.append t i b).2 (.int .i64 ((Tr.append t i b).1:Nat)) (TrS p av S) w):=by
 have HF:=Lib.hid (open_any h hG i)
 have HS:Hid (∀ x,TTurn p t x (TrS p av S) w (.returned x) w):=fun x=>TTurn.stay h (Below.refl _ _)
 by_cases h0:Tr.openN t i=0
 case neg =>
  have HN:Hid (Tr.append t i b=(Tr.openN t i,t)):=by
   show _=_
   unfold Tr.openN at h0 ⊢
   unfold Tr.append
   split
   ·rfl
   ·rename_i h1
    rw [if_neg h1] at h0
    split
    ·rfl
    ·rename_i h2
     rw [if_neg h2] at h0
     exact absurd rfl h0
  rw [HN.out]
  obtain ⟨k,hk⟩:∃ k,k=Tr.openN t i:=⟨_,rfl⟩
  rw [← hk] at HF h0 ⊢
  unfold fileV at HF
  rw [if_neg h0] at HF
  have hki:((k:Int)==0)=false:=by rw [beq_eq_false_iff_ne];omega
  clear h hG hk h0
  go_enter Tryz.func99,Tryz.ntmps99
  go_wp2_with fail
  refine HF.out.mono ?_
  rintro e w1 ⟨rfl,rfl⟩
  go_wp2_with fail
  go_ret
  exact HS.out _
 have hfile:Tr.file t i=0∧(Tr.ndOf t i).shut=false:=by
  unfold Tr.openN at h0
  split at h0
  ·rename_i h1;exact absurd h0 h1
  ·rename_i h1
   split at h0
   ·cases h0
   ·rename_i h2
    exact ⟨Decidable.byContradiction h1,by simpa using h2⟩
 obtain ⟨e,h2,h3⟩:∃ e,Tr.find t i=some e∧e.nd.kind≠2:=by
  rcases Tr.file_cases t i with ⟨h1,_⟩|⟨h1,_⟩|⟨_,h1⟩
  ·rw [h1] at hfile;cases hfile.1
  ·rw [h1] at hfile;cases hfile.1
  ·exact h1
 obtain ⟨g,S1,hp,hE,hSS,hto⟩:=h.turnAt hG.ris h2
 have HV:fileV gs t i 0=.tuple #[.pointer (some ⟨g,0,none⟩),.int .i64 0]:=by
  unfold fileV
  rw [if_pos rfl,hp];rfl
 rw [h0,HV] at HF
 obtain ⟨_,_,c2,c3,c4,c5⟩:=hE.cells
 have hsh:=hfile.2
 rw [Tr.ndOf_of h2] at hsh
 rw [hsh] at c5
 have happ:Tr.append t i b=if 4096-e.nd.size<(b.length:Int) then (15,t) else (0,Tr.upd t i fun e=>{ e with data:=e.data++b,nd:={ e.nd with size:=((e.data++b).length:Nat) } }):=by
  unfold Tr.append
  rw [if_neg (by rw [hfile.1];simp),if_neg (by rw [hfile.2];simp),Tr.ndOf_of h2]
 have hok:=hG.each e (Tr.find_some h2).1
 have hsz:0≤e.nd.size∧e.nd.size≤4096:=⟨hok.nd.2.2.2.2.1,hok.nd.2.2.2.2.2.1⟩
 have hdl:e.nd.size=(e.data.length:Nat):=hok.size
 obtain ⟨dv,nv,hEI,rfl⟩:=hE
 have c6:w.cell? ⟨g,6,none⟩=some dv:=hEI.box.cell 6
 have HOW:=Lib.hid hEI.data
 have hgn:some g≠dv.ownBlock:=fun e2=>by
  obtain ⟨_,_,cs,h1⟩:=own_blk hEI.data e2.symm
  exact absurd rfl (h1.ne_ hEI.box (by decide))
 have HFR:Hid (∀ w1,w.grownBy w1 dv.ownBlock→(w1.cell? ⟨g,6,none⟩=some dv∧w1.frozen? ⟨g,6,none⟩=false)∧w1.cell? ⟨g,3,none⟩=some (.int .i64 e.nd.size)∧w1.frozen? ⟨g,3,none⟩=false):=fun w1 hg=>by
  have h2:Blk w1 g 94 (enCells e dv nv):=(hg.block g hEI.box.lt hgn).trans hEI.box
  exact ⟨⟨h2.cell 6,h2.frozen 6⟩,h2.cell 3,h2.frozen 3⟩
 have HEND:Hid (∀ w1 dv',w1.ownsRow 0 5 1 dv' (e.data++b).length (Lib.byteCells (e.data++b))→w.grownBy w1 dv.ownBlock→(∀ b,dv'.ownBlock=some b→dv.ownBlock=some b∨w.heap.size≤b)→TTurn p (Tr.upd t i fun e=>{ e with data:=e.data++b,nd:={ e.nd with size:=((e.data++b).length:Nat) } }) (.int .i64 0) (TrS p av S) w (.returned (.int .i64 0)) ((w1.setCell ⟨g,6,none⟩ dv').setCell ⟨g,3,none⟩ (.int .i64 ((e.data++b).length:Nat)))):=fun w1 dv' ho hg hb=>by
  obtain ⟨S',k1,k2,k3⟩:=hEI.data_to (e.data++b) ((e.data++b).length:Nat) ho hg hb
  obtain ⟨S'',m1,m2,m3⟩:=hto _ (fun e=>{ e with data:=e.data++b,nd:={ e.nd with size:=((e.data++b).length:Nat) } }) S' k1 k2 k3
  exact ⟨rfl,_,m1.at_,m2,m3⟩
 have HK:=Lib.hid happ
 obtain ⟨dl,hdl2⟩:∃ dl,dl=e.data:=⟨_,rfl⟩
 obtain ⟨sz,hsz2⟩:∃ sz,sz=e.nd.size:=⟨_,rfl⟩
 rw [← hdl2] at HOW HEND hdl
 rw [← hsz2] at c3 hsz hdl HK HFR
 obtain ⟨A0,c0,hdv,hc0,_⟩:=own_form hEI.data
 rw [← hdl2] at hdv hc0
 obtain ⟨i0,hi,hz0,hz1,hz2⟩:=info_parts Tryz.infoU8
 have HI0:=Lib.hid hi
 have HZ0:=Lib.hid hz0
 have HZ1:=Lib.hid hz1
 have HZ2:=Lib.hid hz2
 have HRD:=Lib.hid hr
 have hdn:dl.length≤4096:=by omega
 clear h hG h0 hfile h2 h3 hp hSS hto HV hsh happ hok hEI hgn hdl2 hsz2 hi hz0 hz1 hz2 hr
 have w0:IntKind.i64.wrap (4096-sz)=4096-sz:=by rw [IntKind.wrap_i64];omega
 by_cases h5:4096-sz<(b.length:Int)
 ·have HN:Hid (Tr.append t i b=(15,t)):=by
   have:=HK.out
   rw [if_pos h5] at this
   exact this
  rw [HN.out]
  go_enter Tryz.func99,Tryz.ntmps99
  go_wp2_with fail
  refine HF.out.mono ?_
  rintro e w1 ⟨rfl,rfl⟩
  go_wp2_with fail
  go_ret
  exact HS.out _
 ·have HN:Hid (Tr.append t i b=(0,Tr.upd t i fun e=>{ e with data:=e.data++b,nd:={ e.nd with size:=((e.data++b).length:Nat) } })):=by
   have:=HK.out
   rw [if_neg h5] at this
   exact this
  rw [HN.out]
  have HAPP:Hid (Lib.byteCells dl++Lib.byteCells b=Lib.byteCells (dl++b)∧dl.length+b.length=(dl++b).length):=⟨by simp [Lib.byteCells],by rw [List.length_append]⟩
  clear hdl
  subst hdv
  have HC6:=Lib.hid c6
  go_enter Tryz.func99,Tryz.ntmps99
  go_wp2_with fail
  refine HF.out.mono ?_
  rintro e w1 ⟨rfl,rfl⟩
  go_upto_region 7 with (at_builtin;refine wpList_append_at_rd rfl (.tmp 31) (.tmp 32) 23 rfl 0 5 i0 Tryz.underlying23 HI0.out HZ0.out HZ1.out HZ2.out _ dl.length (Lib.byteCells dl) rfl HOW.out A b b.length cap rfl rfl HRD.out (by omega) (Nat.zero_le _) ?_;intro v2 w2 HO2 HG2 HB2;obtain ⟨A9,c9,hv9,_,_⟩:=own_form HO2.out;subst hv9;have hfr:=HFR.out w2 HG2.out;obtain ⟨⟨hc6,hf6⟩,hc3,hf3⟩:=hfr)
  go_wp2_with fail
  go_ret
  have ho:=HO2.out
  rw [HAPP.out.1,HAPP.out.2] at ho
  have hend:=HEND.out w2 _ ho HG2.out fun b hb=>by
   rcases HB2.out with h|h
   ·rw [HAPP.out.2] at h
    exact .inl (h.symm.trans hb)
   ·rw [HAPP.out.2] at h
    have e:=h.symm.trans hb
    injection e with e
    exact .inr (by omega)
  simp only [List.length_append] at hend
  simpa using hend
end Tm
end Go.Proofs.YtbnpgakmhhfjkaaGreatDoor
namespace Go.Proofs.YtbnpgakmhhfjkaaGreatDoor
open Go.RowKit Rc
open Tr (Nm En T)
namespace Tm
variable {p:Nat} {av:Value} {gs:List Nat} {S:Nat→Prop} {t:T} {w w1:World}
theorem Went.mid {A B:T} {e:En} (h:Went p av gs S w (A++e :: B) w1):∃ ga g gb S1,gs=ga++g :: gb∧ga.length=A.length∧EAt g e S1 w1 ∧
    ∀ w2 e' S1',EAt g e' S1' w2→Mod w1 w2 S1→(∀ b,S1' b→S1 b∨w1.heap.size≤b)→Went p av gs S w (A++e' :: B) w2:=by
 obtain ⟨S',h1,h2,h3⟩:=h
 obtain ⟨ga,g,gb,S1,k0,k1,k2,k3,k4⟩:=h1.turn
 refine ⟨ga,g,gb,S1,k0,k1,k2,fun w2 e' S1' m1 m2 m3=>?_⟩
 obtain ⟨S'',n1,n2,n3⟩:=k4 w2 e' S1' m1 m2 m3
 exact ⟨S'',n1,mod_trans h2 h3 n2,fun b hb=>(n3 b hb).elim (h3 b) fun h8=>.inr (Nat.le_trans h2.size h8)⟩
theorem Went.row (h:Went p av gs S w t w1):w1.cell? ⟨p,0,none⟩=some av∧w1.ownsRow 0 90 1 av gs.length (ptrCells gs):=by
 obtain ⟨S',h1,h2,h3⟩:=h
 exact ⟨h1.box.cell 0,h1.row⟩
set_option maxHeartbeats 2000000 in
set_option maxRecDepth 100000 in
theorem dropT_any (h:TIn p av gs S t w) (hG:Tr.Good t) (i:Int) :
    Calls Tryz.prog 128 #[.pointer (some ⟨p,0,none⟩),.int .i64 i] w (TTurn p (Tr.drop t i).2 (.int .i64 ((Tr.drop t i).1:Nat)) (TrS p av S) w):=by
 have HF:=Lib.hid (open_any h hG i)
 have HS:Hid (∀ x,TTurn p t x (TrS p av S) w (.returned x) w):=fun x=>TTurn.stay h (Below.refl _ _)
 by_cases h0:Tr.openN t i=0
 case neg =>
  have HN:Hid (Tr.drop t i=(Tr.openN t i,t)):=by
   show _=_
   unfold Tr.openN at h0 ⊢
   unfold Tr.drop
   split
   ·rfl
   ·rename_i h1
    rw [if_neg h1] at h0
    split
    ·rfl
    ·rename_i h2
     rw [if_neg h2] at h0
     exact absurd rfl h0
  rw [HN.out]
  obtain ⟨k,hk⟩:∃ k,k=Tr.openN t i:=⟨_,rfl⟩
  rw [← hk] at HF h0 ⊢
  unfold fileV at HF
  rw [if_neg h0] at HF
  have hki:((k:Int)==0)=false:=by rw [beq_eq_false_iff_ne];omega
  clear h hG hk h0
  go_enter Tryz.func128,Tryz.ntmps128
  go_wp2_with fail
  refine HF.out.mono ?_
  rintro e w1 ⟨rfl,rfl⟩
  go_wp2_with fail
  go_ret
  exact HS.out _
 have hfile:Tr.file t i=0∧(Tr.ndOf t i).shut=false:=by
  unfold Tr.openN at h0
  split at h0
  ·rename_i h1;exact absurd h0 h1
  ·rename_i h1
   split at h0
   ·cases h0
   ·rename_i h2
    exact ⟨Decidable.byContradiction h1,by simpa using h2⟩
 obtain ⟨e,h2,h3⟩:∃ e,Tr.find t i=some e∧e.nd.kind≠2:=by
  rcases Tr.file_cases t i with ⟨h1,_⟩|⟨h1,_⟩|⟨_,h1⟩
  ·rw [h1] at hfile;cases hfile.1
  ·rw [h1] at hfile;cases hfile.1
  ·exact h1
 obtain ⟨g,S1,hp,hE,hSS,hto⟩:=h.turnAt hG.ris h2
 have HV:fileV gs t i 0=.tuple #[.pointer (some ⟨g,0,none⟩),.int .i64 0]:=by
  unfold fileV
  rw [if_pos rfl,hp];rfl
 rw [h0,HV] at HF
 obtain ⟨_,_,c2,c3,c4,c5⟩:=hE.cells
 have hsh:=hfile.2
 rw [Tr.ndOf_of h2] at hsh
 rw [hsh] at c5
 have hdrop:Tr.drop t i=(0,Tr.remove (t.map fun e=>{ e with names:=Tr.strike e.names i }) i):=by
  unfold Tr.drop
  rw [if_neg (by rw [hfile.1];simp),if_neg (by rw [hfile.2];simp)]
 rw [hdrop]
 have hfid:∀ e:En,({ e with names:=Tr.strike e.names i }:En).nd.id=e.nd.id:=fun _=>rfl
 have hfm:Tr.find (t.map fun e=>{ e with names:=Tr.strike e.names i }) i=some { e with names:=Tr.strike e.names i }:=by rw [Tr.find_map hfid,h2];rfl
 have HFM:=Lib.hid hfm
 have HRM:Hid (Tr.Ris (t.map fun e=>({ e with names:=Tr.strike e.names i }:En))):=Tr.map_ris hG.ris hfid
 have HLT:Hid (t.length≤64):=hG.few
 have HNL:Hid (∀ e ∈ t,e.names.length≤4194240):=fun e he=>hG.names_le he
 have HW0:=Lib.hid (Went.start h (Below.refl _ _))
 have hlen:=h.each.len
 have cT:w.cell? ⟨p,0,none⟩=some av:=h.box.cell 0
 obtain ⟨A0,c0,hav,hc0,_⟩:=own_form h.row
 have HAV:=Lib.hid hav
 rw [hav] at cT
 have HLEN:=Lib.hid hlen
 clear h hG h0 hfile h2 h3 hp hE hSS hto HV hsh hdrop hfid hfm c2 c3 c4 c5 HS hav hlen
 have hg64:gs.length≤64:=by rw [show gs.length=t.length from HLEN.out];exact HLT.out
 go_enter Tryz.func128,Tryz.ntmps128
 go_wp2_with fail
 refine HF.out.mono ?_
 rintro e w1 ⟨rfl,rfl⟩
 go_wp2_with fail
 go_loopw [8,23] (fun t8 t23 wr=>∃ (j:Nat) (v8:Value),t8=v8∧t23=.int .i64 j∧j≤gs.length∧Hid (Went p av gs S w1 ((t.take j).map (fun e=>{ e with names:=Tr.strike e.names i })++t.drop j) wr)) (fun _ t23 _=>gs.length-(match t23 with|.int _ k=>k.toNat|_=>0))
 case atStart=>exact ⟨0,_,rfl,rfl,Nat.zero_le _,HW0.out⟩
 case round =>
  obtain ⟨j,v8,rfl,rfl,hj,HW⟩:=hrel
  by_cases hk:j<gs.length
  ·have hkt:j<t.length:=by rw [← show gs.length=t.length from HLEN.out];exact hk
   obtain ⟨ej,hej⟩:∃ ej,t[j]?=some ej:=⟨_,List.getElem?_eq_getElem hkt⟩
   have hdj:t.drop j=ej :: t.drop (j+1):=by rw [List.drop_eq_getElem_cons hkt,(List.getElem?_eq_some_iff.1 hej).2]
   have hw:=HW.out
   rw [hdj] at hw
   have hrow:=hw.row
   obtain ⟨ga,g1,gb,S2,hgs,hgl,hE,hto⟩:=hw.mid
   have hgj:gs[j]?=some g1:=by
    have:ga.length=j:=by rw [hgl,List.length_map,List.length_take];omega
    rw [hgs,← this];simp
   obtain ⟨A1,c1,hav1,_,hA1⟩:=own_form hrow.2
   obtain ⟨qb,hqb,_,_,_,hcell⟩:=hA1 (by omega)
   have e1:A0=some ⟨qb,0,none⟩:=by
    have:=hav1.symm.trans HAV.out
    injection this with e2
    rw [← e2,hqb]
   subst e1
   have cj:wr.cell? ⟨qb,j,none⟩=some (.pointer (some ⟨g1,0,none⟩)):=hcell j _ (by simp [ptrCells,hgj])
   have hlt:(j:Int)<(gs.length:Int):=by omega
   have HFO:=Lib.hid (forget_any hE i (by have:=HNL.out ej (List.mem_of_getElem? hej);omega))
   have HTO:=Lib.hid hto
   have HNX:Hid ((t.take (j+1)).map (fun e=>({ e with names:=Tr.strike e.names i }:En))++t.drop (j+1)=(t.take j).map (fun e=>({ e with names:=Tr.strike e.names i }:En))++{ ej with names:=Tr.strike ej.names i } :: t.drop (j+1)):=by
    show _=_
    rw [take_next hej,List.map_append,List.append_assoc];rfl
   clear hkt hej hdj hw hrow hgs hgl hE hto hgj hav1 hA1 hqb hcell
   go_wp2_with fail
   refine HFO.out.mono ?_
   rintro e w2 ⟨rfl,S1',m1,m2,m3⟩
   have HWN:Hid (Went p av gs S w1 ((t.take (j+1)).map (fun e=>{ e with names:=Tr.strike e.names i })++t.drop (j+1)) w2):=by
    show Went p av gs S w1 _ w2
    rw [HNX.out];exact HTO.out w2 _ S1' m1 m2 m3
   clear m1 m2 m3
   go_wp2_with fail
   go_roundw
   case rel=>exact ⟨j+1,_,rfl,by go_num,by omega,HWN.out⟩
   case measure=>simp;omega
  ·obtain rfl:j=gs.length:=by omega
   have hw:=HW.out
   rw [show gs.length=t.length from HLEN.out,List.take_length,List.drop_length,List.append_nil] at hw
   have HREM:=Lib.hid (hw.remove HRM.out (by rw [List.length_map];have:=HLT.out;omega) HFM.out (.int .i64 0))
   clear hw
   go_wp2_with fail
   refine HREM.out.mono ?_
   rintro e w2 ⟨rfl,hT⟩
   have HT:=Lib.hid hT
   clear hT
   go_wp2_with fail
   go_ret
   exact HT.out
end Tm
end Go.Proofs.YtbnpgakmhhfjkaaGreatDoor
namespace Go.Proofs.YtbnpgakmhhfjkaaGreatDoor
open Go.RowKit Rc
open Tr (Nm En T)
theorem Tr.save_inj2 {t u:T} (ht:Tr.Good t) (hst:Tr.Slim t) (hu:Tr.Good u) (hsu:Tr.Slim u) (h:Tr.save t=Tr.save u):t=u:=by
 obtain ⟨a1,a2⟩:=Tr.save_reads ht hst
 obtain ⟨b1,b2⟩:=Tr.save_reads hu hsu
 rw [h,b1] at a1
 injection a1 with c1 c2
 rw [← c1,← c2,b2] at a2
 injection a2 with c3
 injection c3 with c4 _
 exact c4.symm
namespace Sn
open Ts (LoadOut load_any)
variable {p:Nat} {av:Value} {gs:List Nat} {S:Nat→Prop} {t:T} {w:World}
def NewT (t:T) (p:Nat) (w0 w:World):Prop:=∃ av gs S,Tm.TIn p av gs S t w∧(∀ k,Tm.TrS p av S k→w0.heap.size≤k)∧Below w0.heap.size w0 w
theorem wB_len {x:Bs} (h:x.length≤65535):(Co.wBytes x).length=2+x.length:=by
 unfold Co.wBytes Co.wShort
 simp only [List.length_append,List.length_cons,List.length_nil,List.length_take]
 omega
theorem slim_len {t:T} (hG:Tr.Good t) (hS:Tr.Slim t):(Tr.save t).length≤2+t.length*2000000:=by
 have h1:∀ u:T,(∀ e ∈ u,e ∈ t)→(u.flatMap Tr.enBytes).length≤u.length*2000000:=by
  intro u
  induction u with
  | nil=>intro _;simp
  | cons e u ih =>
    intro hu
    have ih:=ih fun m hm=>hu m (.tail _ hm)
    have he:=hu e (.head _)
    have h2:=hG.each e he
    have h3:=h2.nd.2.2.2.2.2.1
    have h4:=h2.size
    have h5:=hS e he
    have h6:∀ l:List Nm,(∀ n ∈ l,n.1.length≤16)→(l.flatMap Tr.nameBytes).length≤l.length*20:=by
     intro l
     induction l with
     | nil=>intro _;simp
     | cons n l ih =>
       intro hl
       have ih:=ih fun m hm=>hl m (.tail _ hm)
       have h7:=hl n (.head _)
       rw [List.flatMap_cons,List.length_append,List.length_cons]
       have h8:(Tr.nameBytes n).length≤20:=by
        unfold Tr.nameBytes
        rw [List.length_append,wB_len (by omega)]
        have:(Co.wShort (Nd.lo16 n.2)).length=2:=rfl
        omega
       omega
    have h7:=h6 e.names fun n hn=>by
     have:=h2.good n hn
     simp only [Pa.good,Bool.and_eq_true,decide_eq_true_eq] at this
     omega
    rw [List.flatMap_cons,List.length_append,List.length_cons]
    have h8:(Tr.enBytes e).length≤2000000:=by
     unfold Tr.enBytes
     simp only [List.length_append]
     rw [wB_len (by rw [Nd.bytes_length];omega),wB_len (by omega)]
     have a3:(Co.wShort e.names.length).length=2:=rfl
     have a4:=Nd.bytes_length e.nd
     omega
    omega
 have h2:=h1 t fun e he=>he
 unfold Tr.save
 rw [List.length_append]
 have:(Co.wShort t.length).length=2:=rfl
 omega
theorem slim_small {t:T} (hG:Tr.Good t) (hS:Tr.Slim t):(Tr.save t).length≤140737488351232:=by
 have h1:=slim_len hG hS
 have h3:=hG.few
 omega
theorem _root_.Go.Proofs.YtbnpgakmhhfjkaaGreatDoor.Tr.save_few {t:T} (hG:Tr.Good t) (hS:Tr.Slim t):(Tr.save t).length≤130000000:=by
 have h0:=slim_len hG hS
 have:=hG.few
 omega
set_option maxHeartbeats 4000000 in
set_option maxRecDepth 100000 in
theorem committed_any (h:Tm.TIn p av gs S t w) (hG:Tr.Good t) (hS:Tr.Slim t):Calls Tryz.prog 66 #[.pointer (some ⟨p,0,none⟩)] w fun r w'=>∃ q,r=.returned (.pointer (some ⟨q,0,none⟩))∧NewT (Tr.committed t) q w w':=by
 have H:=Lib.hid h
 have HG:=Lib.hid hG
 have HS:=Lib.hid hS
 clear h hG hS
 go_enter Tryz.func66,Tryz.ntmps66
 go_wp2_with fail
 refine (Tm.save_any H.out HG.out).mono ?_
 rintro e w1 ⟨X,c,rfl,hc,hr,_,hb1⟩
 have HB1:Hid (Below w.heap.size w w1):=hb1
 have HLOAD:=Lib.hid (load_any w1 X (Tr.save t) c hr (slim_small HG.out HS.out))
 clear hc hr hb1
 go_wp2_with fail
 refine HLOAD.out.mono ?_
 rintro e w2 ⟨hb2,⟨u,q,au,gu,Su,hGu,hSu,hsv,rfl,hT,hup⟩|⟨hno,rfl⟩⟩
 ·obtain rfl:t=u:=Tr.save_inj2 HG.out HS.out hGu hSu hsv.symm
  have HN2:Hid (NewT t q w w2):=⟨au,gu,Su,hT,fun k hk=>Nat.le_trans HB1.out.size (hup k hk),HB1.out.trans (hb2.mono HB1.out.size)⟩
  clear hb2 hGu hSu hsv hT hup HLOAD HB1
  have HN0:Hid (NewT (Tr.upTo t 0) q w w2∧Tr.leftOf t 0=t.length):=⟨by rw [Tr.upTo_zero HG.out];exact HN2.out,Tr.leftOf_zero HG.out⟩
  obtain ⟨n0,hn0⟩:∃ n0,n0=t.length:=⟨_,rfl⟩
  have hn64:n0≤64:=by rw [hn0];exact HG.out.few
  have HCT:Hid (Calls Tryz.prog 87 #[.pointer (some ⟨q,0,none⟩)] w2 fun e w'=>e=.returned (.int .i64 (n0:Nat))∧w'=w2):=by
   obtain ⟨_,_,_,h1,_⟩:=HN2.out
   rw [hn0]
   exact Tm.count_any h1
  have HNL:Hid (Tr.leftOf t 0=n0):=by rw [hn0];exact HN0.out.2
  have HSTART:Hid (NewT (Tr.upTo t 0) q w w2):=HN0.out.1
  clear HN2 HN0 hn0
  go_wp2_with fail
  refine HCT.out.mono ?_
  rintro e w3 ⟨rfl,rfl⟩
  clear HCT
  go_wp2_with fail
  go_loopw [5,6,7,8] (fun t5 t6 t7 t8 wr=>∃ (i:Nat) (v7 v8:Value),t5=.int .i64 i∧t6=.int .i64 (Tr.leftOf t i:Nat)∧t7=v7∧t8=v8∧i≤65536∧Hid (NewT (Tr.upTo t i) q w wr)) (fun t5 _ _ _ _=>65536-(match t5 with|.int _ k=>k.toNat|_=>0))
  case atStart=>exact ⟨0,_,_,rfl,by rw [show Tr.leftOf t ((0:Nat):Int)=n0 from HNL.out],rfl,rfl,by omega,HSTART.out⟩
  case round =>
   clear HSTART HNL
   obtain ⟨i,v7,v8,rfl,rfl,rfl,rfl,hi,HT⟩:=hrel
   by_cases h0:Tr.leftOf t i=0
   ·have HF:Hid (NewT (Tr.committed t) q w wr):=by
     have:=HT.out
     rw [Tr.leftOf_none HG.out h0] at this
     exact this
    rw [h0]
    clear h0 HT
    go_wp2_with fail
    first|exact ⟨q,rfl,HF.out⟩|(go_ret;exact ⟨q,rfl,HF.out⟩)
   ·have hi5:i≤65535:=by
     refine Decidable.byContradiction fun h9=>h0 (Tr.leftOf_far HG.out (by omega))
    have hgt:(0:Int)<(Tr.leftOf t i:Int):=by omega
    have HLN:=Lib.hid (Tr.leftOf_next HG.out (i:Int))
    have HUN:=Lib.hid (Tr.upTo_next HG.out (i:Int))
    have HND:=Lib.hid (Tr.upTo_nd (t:=t) (i:Int))
    obtain ⟨lf,hlf⟩:∃ lf,lf=Tr.leftOf t i:=⟨_,rfl⟩
    have hlf64:lf≤64:=by rw [hlf];exact Nat.le_trans List.countP_le_length HG.out.few
    rw [← hlf] at hgt HLN ⊢
    obtain ⟨av1,gs1,S1,hT1,hup1,hlow1⟩:=HT.out
    have HT1:=Lib.hid hT1
    have HW1:Hid ((∀ k,Tm.TrS q av1 S1 k→w.heap.size≤k)∧Below w.heap.size w wr):=⟨hup1,hlow1⟩
    obtain ⟨⟨⟨n1,n2,n3,n4,n5,n6⟩,nb⟩,hnd⟩:∃ z,Tr.node (Tr.upTo t i) i=z:=⟨_,rfl⟩
    have HNODE:Hid (Calls Tryz.prog 20 #[.pointer (some ⟨q,0,none⟩),.int .i64 i] wr fun e w'=>e=.returned (.tuple #[.agg #[.int .i64 n1,.int .i64 n2,.int .i64 n3,.int .i64 n4,.int .u64 (n5:Nat),.bool n6],.bool nb])∧Below wr.heap.size wr w'):=by
     have:=Tm.node_any HT1.out (Tr.upTo_good HG.out i) i
     rw [hnd] at this
     exact this
    have HNB:Hid (nb=(Tr.find t (i:Int)).isSome∧(nb=true→n6=(Tr.ndOf t i).shut)):=by
     have h1:=HND.out
     have h2:(Tr.find (Tr.upTo t i) i).isSome=nb:=by have:=congrArg Prod.snd hnd;exact this
     have h3:Tr.ndOf (Tr.upTo t i) i=⟨n1,n2,n3,n4,n5,n6⟩:=by have:=congrArg Prod.fst hnd;exact this
     refine ⟨?_,fun _=>?_⟩
     ·rw [← h2,← Option.isSome_map (f:=fun x:En=>x.nd),h1,Option.isSome_map]
     ·have h4:Tr.ndOf (Tr.upTo t i) i=Tr.ndOf t i:=by unfold Tr.ndOf;rw [h1]
      rw [← h4,h3]
    clear h0 hlf hT1 hup1 hlow1 HT hnd HND
    have hi1:((i+1:Nat):Int)=(i:Int)+1:=by omega
    have HI1:=Lib.hid hi1
    clear hi1
    go_wp2_with fail
    refine HNODE.out.mono ?_
    rintro e w4 ⟨rfl,hb4⟩
    obtain ⟨wn,hwn⟩:∃ wn,wn=w4.alloc (.cells #[.int .i64 n1,.int .i64 n2,.int .i64 n3,.int .i64 n4,.int .u64 (n5:Nat),.bool n6] 31):=⟨_,rfl⟩
    obtain ⟨bn,hbn⟩:∃ bn,bn=w4.heap.size:=⟨_,rfl⟩
    have hbw:Below wr.heap.size wr wn:=by rw [hwn];exact hb4.trans ((below_new w4 _).mono hb4.size)
    have c5:wn.cell? ⟨bn,5,none⟩=some (.bool n6):=by
     have:Blk wn bn 31 [.int .i64 n1,.int .i64 n2,.int .i64 n3,.int .i64 n4,.int .u64 (n5:Nat),.bool n6]:=by rw [hwn,hbn];exact Blk.new w4 _ _
     exact this.cell 5
    have HTN:Hid (Tm.TIn q av1 gs1 S1 (Tr.upTo t i) wn∧(∀ k,Tm.TrS q av1 S1 k→w.heap.size≤k)∧Below w.heap.size w wn):=⟨HT1.out.below hbw,HW1.out.1,HW1.out.2.trans (hbw.mono HW1.out.2.size)⟩
    clear hb4 hbw HNODE HT1 HW1
    go_upto_region 10 with (fail)
    rw [← hwn,← hbn]
    clear hwn hbn
    cases nb with
    | false =>
      have HNX:Hid (Tr.leftOf t ((i+1:Nat):Int)=lf∧NewT (Tr.upTo t ((i+1:Nat):Int)) q w wn):=by
       have h1:=HLN.out
       have h2:=HUN.out
       rw [show (Tr.find t (i:Int)).isSome=false from HNB.out.1.symm] at h1 h2
       rw [show ((i+1:Nat):Int)=(i:Int)+1 from HI1.out]
       refine ⟨by simpa using h1.symm,?_⟩
       rw [h2,if_neg (by simp)]
       exact ⟨av1,gs1,S1,HTN.out⟩
      clear HLN HUN HNB HTN
      go_wp2_with fail
      go_roundw
      case rel=>exact ⟨i+1,_,_,by go_num,by rw [HNX.out.1],rfl,rfl,by omega,HNX.out.2⟩
      case measure=>simp;omega
    | true =>
      have HL1:Hid (lf=Tr.leftOf t ((i+1:Nat):Int)+1):=by
       have h1:=HLN.out
       rw [show (Tr.find t (i:Int)).isSome=true from HNB.out.1.symm,if_pos rfl] at h1
       rw [show ((i+1:Nat):Int)=(i:Int)+1 from HI1.out]
       exact h1
      obtain ⟨l2,hl2⟩:∃ l2,l2=Tr.leftOf t ((i+1:Nat):Int):=⟨_,rfl⟩
      have hl64:l2≤64:=by have:=HL1.out;omega
      have hll:(lf:Int)-1=(l2:Int):=by have:=HL1.out;omega
      have HL2:Hid (Tr.leftOf t ((i+1:Nat):Int)=l2):=hl2.symm
      have hlfl:lf=l2+1:=by have:=HL1.out;omega
      subst hlfl
      clear hl2 HLN HL1
      have hsh:n6=(Tr.ndOf t i).shut:=HNB.out.2 rfl
      cases n6 with
      | true =>
        have HNX:Hid (NewT (Tr.upTo t ((i+1:Nat):Int)) q w wn):=by
         have h2:=HUN.out
         show NewT _ _ _ _
         rw [show ((i+1:Nat):Int)=(i:Int)+1 from HI1.out,h2,if_neg (by rw [← hsh];simp)]
         exact ⟨av1,gs1,S1,HTN.out⟩
        clear HUN HNB HTN hsh
        go_wp2_with fail
        go_roundw
        case rel=>exact ⟨i+1,_,_,by go_num,by rw [HL2.out],rfl,rfl,by omega,HNX.out⟩
        case measure=>simp;omega
      | false =>
        have HUP:Hid (Tr.upTo t ((i+1:Nat):Int)=(Tr.drop (Tr.upTo t i) i).2):=by
         have h2:=HUN.out
         show _=_
         rw [show ((i+1:Nat):Int)=(i:Int)+1 from HI1.out,h2,if_pos ⟨HNB.out.1.symm,hsh.symm⟩]
        have HDR:=Lib.hid (Tm.dropT_any HTN.out.1 (Tr.upTo_good HG.out i) i)
        clear HUN HNB hsh
        go_wp2_with fail
        refine HDR.out.mono ?_
        rintro e w5 ⟨rfl,S5,⟨p5,av5,gs5,S6,hp5,hT5,hS5⟩,hm5,hs5⟩
        injection hp5 with hp5
        injection hp5 with hp5
        injection hp5 with hp5
        subst hp5
        have HNX:Hid (NewT (Tr.upTo t ((i+1:Nat):Int)) q w w5):=by
         obtain ⟨_,u2,u3⟩:=HTN.out
         refine ⟨av5,gs5,S6,by rw [show Tr.upTo t ((i+1:Nat):Int)=_ from HUP.out];exact hT5,fun k hk=>?_,?_⟩
         ·exact (hs5 k (by rw [hS5];exact hk)).elim (u2 k) fun h=>Nat.le_trans u3.size h
         ·exact ⟨hm5.os.trans u3.os,hm5.tape.trans u3.tape,hm5.output.trans u3.output,Nat.le_trans u3.size hm5.size,fun k hk=>(hm5.block k (Nat.lt_of_lt_of_le hk u3.size) fun h9=>Nat.not_lt.2 (u2 k h9) hk).trans (u3.block k hk)⟩
        clear hT5 hS5 hm5 hs5 HDR HTN HUP
        go_wp2_with fail
        go_roundw
        case rel=>exact ⟨i+1,_,_,by go_num,by rw [HL2.out],rfl,rfl,by omega,HNX.out⟩
        case measure=>simp;omega
 ·exact absurd rfl (hno t HG.out HS.out)
end Sn
end Go.Proofs.YtbnpgakmhhfjkaaGreatDoor
namespace Go.Proofs.YtbnpgakmhhfjkaaGreatDoor
open Go.RowKit Rc
open Tr (Nm En T)
namespace Sn
structure One where
 id:Int
 hash:Bs
 tree:T
structure Snaps where
 all:List One
 next:Int
 last:Bs
def BV (D:Nat→Prop) (w:World) (v:Value) (l:Bs):Prop:=∃ X c,v=.slice X l.length c∧l.length≤c∧Rd w X l∧∀ b,X.map (·.block)=some b→D b
variable {D:Nat→Prop} {w w':World} {p:Nat} {av lv:Value} {els:List (Value × Value)} {s:Snaps}
theorem BV.keep {v:Value} {l:Bs} (h:BV D w v l) (hs:w.heap.size≤w'.heap.size) (hb:∀ b,D b→w'.heap[b]?=w.heap[b]?):BV D w' v l:=by
 obtain ⟨X,c,h1,h2,h3,h4⟩:=h
 refine ⟨X,c,h1,h2,h3.keep (fun q hq e=>?_) hs,h4⟩
 unfold World.cell?
 rw [hb q.block (h4 _ (e))]
theorem BV.mono {D':Nat→Prop} {v:Value} {l:Bs} (h:BV D w v l) (hD:∀ b,D b→D' b):BV D' w v l:=by
 obtain ⟨X,c,h1,h2,h3,h4⟩:=h
 exact ⟨X,c,h1,h2,h3,fun b hb=>hD b (h4 b hb)⟩
def snCells:List One→List (Value × Value)→List Value
 | x :: l,v :: m=>.int .i64 x.id :: v.1 :: v.2 :: snCells l m
 | _,_=>[]
theorem snCells_get:∀ {l:List One} {m:List (Value × Value)} {j:Nat} {x:One} {v:Value × Value},l[j]?=some x→m[j]?=some v→(snCells l m)[j*3]?=some (.int .i64 x.id)∧(snCells l m)[j*3+1]?=some v.1∧(snCells l m)[j*3+2]?=some v.2
 | [],_,j,_,_,h,_=>by simp at h
 | _ :: _,[],j,_,_,_,h=>by simp at h
 | a :: l,b :: m,0,x,v,h,k=>by
   obtain rfl:a=x:=by simpa using h
   obtain rfl:b=v:=by simpa using k
   exact ⟨rfl,rfl,rfl⟩
 | a :: l,b :: m,j+1,x,v,h,k=>by
   have:=snCells_get (l:=l) (m:=m) (j:=j) (by simpa using h) (by simpa using k)
   rw [show (j+1)*3=j*3+1+1+1 by omega]
   exact this
structure SnIn (p:Nat) (av lv:Value) (els:List (Value × Value)) (D:Nat→Prop) (s:Snaps) (w:World):Prop where
 box:Blk w p 135 [av,.int .i64 s.next,lv]
 row:w.ownsRow 0 138 3 av s.all.length (snCells s.all els)
 len:els.length=s.all.length
 each:∀ (j:Nat) (x:One) (v:Value × Value),s.all[j]?=some x→els[j]?=some v→BV D w v.1 x.hash∧BV D w v.2 (Tr.save x.tree)
 last:BV D w lv s.last
 low:∀ b,D b→b<w.heap.size∧b≠p∧av.ownBlock≠some b
def SnS (p:Nat) (av:Value) (D:Nat→Prop):Nat→Prop:=fun b=>b=p∨av.ownBlock=some b∨D b
theorem SnIn.lt (h:SnIn p av lv els D s w) {b:Nat} (hb:SnS p av D b):b<w.heap.size:=by
 rcases hb with rfl|hb|hb
 ·exact h.box.lt
 ·exact (Tm.own_blk h.row hb).2.1
 ·exact (h.low b hb).1
theorem SnIn.keep (h:SnIn p av lv els D s w) (hs:w.heap.size≤w'.heap.size) (hb:∀ b,SnS p av D b→w'.heap[b]?=w.heap[b]?):SnIn p av lv els D s w' :=
 ⟨(hb p (.inl rfl)).trans h.box,Tm.own_keep h.row fun b h1=>hb b (.inr (.inl h1)),h.len,fun j x v hx hv=>⟨(h.each j x v hx hv).1.keep hs fun b h1=>hb b (.inr (.inr h1)),(h.each j x v hx hv).2.keep hs fun b h1=>hb b (.inr (.inr h1))⟩,h.last.keep hs fun b h1=>hb b (.inr (.inr h1)),fun b h1=>⟨Nat.lt_of_lt_of_le (h.low b h1).1 hs,(h.low b h1).2⟩⟩
theorem SnIn.below (h:SnIn p av lv els D s w) (hb:Below w.heap.size w w'):SnIn p av lv els D s w':=h.keep hb.size fun b hb1=>hb.block b (h.lt hb1)
def At (l:List One) (id k:Int):Prop:=(∃ (j:Nat) (x:One),l[j]?=some x∧x.id=id∧(∀ (i:Nat) (y:One),i<j→l[i]?=some y→y.id≠id)∧k=(j:Nat))∨(k=-1∧∀ x ∈ l,x.id≠id)
theorem SnIn.elem (h:SnIn p av lv els D s w) {j:Nat} {x:One} (hx:s.all[j]?=some x):∃ v q c,els[j]?=some v∧av=.slice (some ⟨q,0,none⟩) s.all.length c∧q<w.heap.size∧av.ownBlock=some q∧w.cell? ⟨q,j*3,none⟩=some (.int .i64 x.id)∧w.cell? ⟨q,j*3+1,none⟩=some v.1∧w.cell? ⟨q,j*3+2,none⟩=some v.2∧BV D w v.1 x.hash∧BV D w v.2 (Tr.save x.tree):=by
 have hj:j<s.all.length:=(List.getElem?_eq_some_iff.1 hx).1
 obtain ⟨v,hv⟩:∃ v,els[j]?=some v:=⟨_,List.getElem?_eq_getElem (by rw [h.len];exact hj)⟩
 obtain ⟨A,c,h1,h2,h3⟩:=Tm.own_form h.row
 obtain ⟨q,rfl,h5,_,h6,h7⟩:=h3 (by omega)
 obtain ⟨k1,k2,k3⟩:=snCells_get hx hv
 obtain ⟨e1,e2⟩:=h.each j x v hx hv
 exact ⟨v,q,c,hv,h1,h6,h5,h7 _ _ k1,h7 _ _ k2,h7 _ _ k3,e1,e2⟩
set_option maxHeartbeats 2000000 in
set_option maxRecDepth 100000 in
theorem find_any (h:SnIn p av lv els D s w) (hn:s.all.length≤8) (id:Int):Calls Tryz.prog 116 #[.pointer (some ⟨p,0,none⟩),.int .i64 id] w fun r w'=>∃ k,r=.returned (.int .i64 k)∧At s.all id k∧Below w.heap.size w w':=by
 have H:=Lib.hid h
 have c0:w.cell? ⟨p,0,none⟩=some av:=h.box.cell 0
 obtain ⟨A,c,hav,hc,_⟩:=Tm.own_form h.row
 obtain ⟨n,hnn⟩:∃ n,n=s.all.length:=⟨_,rfl⟩
 have HN:Hid (s.all.length=n):=hnn.symm
 rw [← hnn] at hav hc hn
 subst hav
 clear h hnn
 go_enter Tryz.func116,Tryz.ntmps116
 go_wp2_with fail
 go_loopw [5,6,12] (fun t5 t6 t12 wr=>∃ (j:Nat) (v5 v6:Value),t5=v5∧t6=v6∧t12=.int .i64 j∧j≤n∧Hid (∀ (i:Nat) (y:One),i<j→s.all[i]?=some y→y.id≠id)∧Hid (Below w.heap.size w wr)) (fun _ _ t12 _=>n-(match t12 with|.int _ k=>k.toNat|_=>0))
 case atStart=>exact ⟨0,_,_,rfl,rfl,rfl,Nat.zero_le _,(fun i y hi=>by omega),Below.refl _ _⟩
 case round =>
  obtain ⟨j,v5,v6,rfl,rfl,rfl,hj,HNO,HB⟩:=hrel
  by_cases hk:j<n
  ·obtain ⟨x,hx⟩:∃ x,s.all[j]?=some x:=⟨_,List.getElem?_eq_getElem (by rw [show s.all.length=n from HN.out];exact hk)⟩
   obtain ⟨⟨hv,tv⟩,q,c',_,hav,_,_,c1,c2,c3,⟨H1,d1,rfl,_⟩,⟨H2,d2,rfl,_⟩⟩:=(H.out.below HB.out).elem hx
   injection hav with hA hB hC
   subst hA
   clear hB hC
   dsimp only at c1 c2 c3
   have HX:=Lib.hid hx
   have hlt2:(j:Int)<(n:Int):=by omega
   obtain ⟨l1,hl1⟩:∃ l1,l1=x.hash.length:=⟨_,rfl⟩
   obtain ⟨l2,hl2⟩:∃ l2,l2=(Tr.save x.tree).length:=⟨_,rfl⟩
   rw [← hl1] at c2
   rw [← hl2] at c3
   obtain ⟨xi,hxi⟩:∃ xi,xi=x.id:=⟨_,rfl⟩
   rw [← hxi] at c1
   have HXI:Hid (x.id=xi):=hxi.symm
   clear hx hl1 hl2 hxi
   obtain ⟨wn,hwn⟩:∃ wn,wn=wr.alloc (.cells #[.int .i64 xi,.slice H1 l1 d1,.slice H2 l2 d2] 138):=⟨_,rfl⟩
   obtain ⟨bn,hbn⟩:∃ bn,bn=wr.heap.size:=⟨_,rfl⟩
   have d0:wn.cell? ⟨bn,0,none⟩=some (.int .i64 xi):=by
    have:Blk wn bn 138 [.int .i64 xi,.slice H1 l1 d1,.slice H2 l2 d2]:=by rw [hwn,hbn];exact Blk.new wr _ _
    exact this.cell 0
   have HBN:Hid (Below w.heap.size w wn):=by
    have:=below_new wr (.cells #[.int .i64 xi,.slice H1 l1 d1,.slice H2 l2 d2] 138)
    rw [← hwn] at this
    exact HB.out.trans (this.mono HB.out.size)
   go_upto_region 4 with (fail)
   rw [← hwn,← hbn]
   clear hwn hbn c1 c2 c3 HB
   by_cases hi:xi=id
   ·have hb:(xi==id)=true:=by rw [beq_iff_eq];exact hi
    have HA:Hid (At s.all id j):=.inl ⟨j,x,HX.out,by rw [show x.id=xi from HXI.out];exact hi,HNO.out,rfl⟩
    clear hi
    go_wp2_with fail
    first|exact ⟨_,rfl,HA.out,HBN.out⟩|(go_ret;exact ⟨_,rfl,HA.out,HBN.out⟩)
   ·have hb:(xi==id)=false:=by rw [beq_eq_false_iff_ne];exact hi
    have HN2:Hid (∀ (i:Nat) (y:One),i<j+1→s.all[i]?=some y→y.id≠id):=fun i y hij hy=>by
     rcases Nat.lt_or_ge i j with h9|h9
     ·exact HNO.out i y h9 hy
     ·obtain rfl:i=j:=by omega
      rw [HX.out] at hy
      injection hy with hy
      rw [← hy,show x.id=xi from HXI.out];exact hi
    clear hi
    go_wp2_with fail
    go_roundw
    case rel=>exact ⟨j+1,_,_,rfl,rfl,by go_num,by omega,HN2.out,HBN.out⟩
    case measure=>simp;omega
  ·obtain rfl:j=n:=by omega
   have HA:Hid (At s.all id (-1)):=.inr ⟨rfl,fun x hx=>by
    obtain ⟨i,hi⟩:=List.mem_iff_getElem?.1 hx
    have h1:i<s.all.length:=(List.getElem?_eq_some_iff.1 hi).1
    exact HNO.out i x (by rw [← show s.all.length=j from HN.out];exact h1) hi⟩
   go_wp2_with fail
   first|exact ⟨_,rfl,HA.out,HB.out⟩|(go_ret;exact ⟨_,rfl,HA.out,HB.out⟩)
end Sn
end Go.Proofs.YtbnpgakmhhfjkaaGreatDoor
namespace Go.Proofs.YtbnpgakmhhfjkaaGreatDoor
open Go.RowKit Rc
open Tr (Nm En T)
namespace Sn
open Ts (LoadOut load_any)
variable {D:Nat→Prop} {w w':World} {p:Nat} {av lv:Value} {els:List (Value × Value)} {s:Snaps}
structure Ok (s:Snaps):Prop where
 few:s.all.length≤8
 tree:∀ x ∈ s.all,Tr.Good x.tree∧Tr.Slim x.tree
 hash:∀ x ∈ s.all,x.hash.length=32
 rise:s.all.Pairwise fun a b=>a.id<b.id
 ids:∀ x ∈ s.all,1≤x.id∧x.id<s.next
 next:1≤s.next∧s.next≤1000000000000000
 last:s.last.length≤32
def GetOut (s:Snaps) (id:Int) (w:World) (r:Ending) (w':World):Prop :=
 (∃ x q,x ∈ s.all∧x.id=id∧r=.returned (.tuple #[.pointer (some ⟨q,0,none⟩),.bool true])∧NewT x.tree q w w')∨((∀ x ∈ s.all,x.id≠id)∧r=.returned (.tuple #[.pointer none,.bool false])∧Below w.heap.size w w')
set_option maxHeartbeats 2000000 in
set_option maxRecDepth 100000 in
theorem get_to {Q:Ending→World→Prop} (id:Int) (HQ:Hid (∀ r w',GetOut s id w r w'→Q r w')) (h:SnIn p av lv els D s w) (hO:Ok s):Calls Tryz.prog 114 #[.pointer (some ⟨p,0,none⟩),.int .i64 id] w Q:=by
 have H:=Lib.hid h
 have HO:=Lib.hid hO
 have HF:=Lib.hid (find_any h hO.few id)
 clear h hO
 go_enter Tryz.func114,Tryz.ntmps114
 go_wp2_with fail
 refine HF.out.mono ?_
 rintro r w1 ⟨k,rfl,hat,hb1⟩
 have HB1:=Lib.hid hb1
 clear HF hb1
 rcases hat with ⟨j,x,hx,hxi,_,rfl⟩|⟨rfl,hno⟩
 ·obtain ⟨⟨hv,tv⟩,q,c',_,hav,_,_,_,_,c3,_,⟨X2,d2,rfl,hd2,hr2,_⟩⟩:=(H.out.below HB1.out).elem hx
  have hmem:=List.mem_of_getElem? hx
  have hG:=HO.out.tree x hmem
  have HL:=Lib.hid (load_any w1 X2 (Tr.save x.tree) d2 hr2 (slim_small hG.1 hG.2))
  have hj:j<s.all.length:=(List.getElem?_eq_some_iff.1 hx).1
  have hjl:(j:Int)<(s.all.length:Int):=by omega
  have hj0:¬ (j:Int)<0:=by omega
  have c0:w1.cell? ⟨p,0,none⟩=some av:=(H.out.below HB1.out).box.cell 0
  have HX:Hid (x ∈ s.all∧x.id=id):=⟨hmem,hxi⟩
  have HG:=Lib.hid hG
  dsimp only at c3
  rw [hav] at c0
  obtain ⟨n,hn⟩:∃ n,n=s.all.length:=⟨_,rfl⟩
  rw [← hn] at c0 hj hjl
  have hn8:n≤8:=by rw [hn];exact HO.out.few
  clear hx hxi hd2 hr2 hmem hG hav hn
  go_wp2_with fail
  refine HL.out.mono ?_
  rintro r w2 ⟨hb2,⟨u,qu,au,gu,Su,hGu,hSu,hsv,rfl,hT,hup⟩|⟨hno,rfl⟩⟩
  ·have hxu:x.tree=u:=Tr.save_inj2 HG.out.1 HG.out.2 hGu hSu hsv.symm
   have HRES:Hid (GetOut s id w (.returned (.tuple #[.pointer (some ⟨qu,0,none⟩),.bool true])) w2):=.inl ⟨x,qu,HX.out.1,HX.out.2,rfl,au,gu,Su,by rw [hxu];exact hT,fun k hk=>Nat.le_trans HB1.out.size (hup k hk),HB1.out.trans (hb2.mono HB1.out.size)⟩
   clear hb2 hGu hSu hsv hT hup hxu HL
   go_wp2_with fail
   first|exact HQ.out _ _ HRES.out|(go_ret2;exact HQ.out _ _ HRES.out)
  ·exact absurd rfl (hno x.tree HG.out.1 HG.out.2)
 ·have HRES:Hid (GetOut s id w (.returned (.tuple #[.pointer none,.bool false])) w1):=.inr ⟨hno,rfl,HB1.out⟩
  clear hno
  go_wp2_with fail
  first|exact HQ.out _ _ HRES.out|(go_ret2;exact HQ.out _ _ HRES.out)
theorem get_any (id:Int) (h:SnIn p av lv els D s w) (hO:Ok s):Calls Tryz.prog 114 #[.pointer (some ⟨p,0,none⟩),.int .i64 id] w (GetOut s id w):=get_to id (fun _ _ h=>h) h hO
end Sn
end Go.Proofs.YtbnpgakmhhfjkaaGreatDoor
namespace Go.Proofs.YtbnpgakmhhfjkaaGreatDoor
open Go.RowKit
namespace Wo
def fileN (k:Int):Nat:=if k=1 then 0 else if k=2 then 22 else 30
def remove (n:Nd) (now:Nat):Nat:=if fileN n.kind≠0 then fileN n.kind else if n.shut=false∨1<n.links then 0 else if now<n.till then 28 else 0
def keep (n:Nd) (u:Nat):Nat:=if fileN n.kind≠0 then fileN n.kind else if n.shut=false then 25 else if u<n.till then 28 else if 1099511627776<u then 1 else 0
def kept (n:Nd) (now:Nat):Bool:=decide (n.kind=1)&&(n.shut&&decide (now<n.till))
theorem right_any (w:World) (t:Int):Calls Tryz.prog 78 #[.int .u64 t] w fun e w'=>e=.returned (.bool (decide (t≤1099511627776)))∧w'=w:=by
 go_enter Tryz.func78,Tryz.ntmps78
 go_wp2
 go_ret
 exact ⟨rfl,rfl⟩
theorem due_any (w:World) (now until_:Int):Calls Tryz.prog 151 #[.int .u64 now,.int .u64 until_] w fun e w'=>e=.returned (.bool (decide (until_≤now)))∧w'=w:=by
 go_enter Tryz.func151,Tryz.ntmps151
 go_wp2
 go_ret
 exact ⟨by simp,rfl⟩
theorem file_any (n:Nd) (w:World):Calls Tryz.prog 150 #[n.val] w fun e w'=>e=.returned (.int .i64 (fileN n.kind:Nat))∧Below w.heap.size w w':=by
 obtain ⟨id,kind,links,size,till,shut⟩:=n
 show Calls _ _ #[.agg #[.int .i64 id,.int .i64 kind,.int .i64 links,.int .i64 size,.int .u64 (till:Nat),.bool shut]] w fun e w'=>e=.returned (.int .i64 (fileN kind:Nat))∧_
 by_cases h1:kind=1
 ·have HE:fileN kind=0:=by unfold fileN;rw [if_pos h1]
  rw [HE]
  clear HE
  go_enter Tryz.func150,Tryz.ntmps150
  go_wp2
  go_ret
  exact ⟨rfl,below_new _ _⟩
 ·by_cases h2:kind=2
  ·have HE:fileN kind=22:=by unfold fileN;rw [if_neg h1,if_pos h2]
   rw [HE]
   clear HE
   go_enter Tryz.func150,Tryz.ntmps150
   go_wp2
   go_ret
   exact ⟨rfl,below_new _ _⟩
  ·have HE:fileN kind=30:=by unfold fileN;rw [if_neg h1,if_neg h2]
   rw [HE]
   clear HE
   go_enter Tryz.func150,Tryz.ntmps150
   go_wp2
   go_ret
   exact ⟨rfl,below_new _ _⟩
theorem file_as (id kind links size:Int) (till:Nat) (shut:Bool) (w:World):Calls Tryz.prog 150 #[.agg #[.int .i64 id,.int .i64 kind,.int .i64 links,.int .i64 size,.int .u64 (till:Nat),.bool shut]] w fun e w'=>e=.returned (.int .i64 (fileN kind:Nat))∧Below w.heap.size w w':=file_any ⟨id,kind,links,size,till,shut⟩ w
abbrev ndc (id kind links size:Int) (till:Nat) (shut:Bool):List Value:=[.int .i64 id,.int .i64 kind,.int .i64 links,.int .i64 size,.int .u64 (till:Nat),.bool shut]
set_option maxHeartbeats 1000000 in
set_option maxRecDepth 100000 in
theorem remove_any (n:Nd) (now:Nat) (w:World):Calls Tryz.prog 102 #[n.val,.int .u64 (now:Nat)] w fun e w'=>e=.returned (.int .i64 (remove n now:Nat))∧Below w.heap.size w w':=by
 obtain ⟨id,kind,links,size,till,shut⟩:=n
 show Calls _ _ #[.agg #[.int .i64 id,.int .i64 kind,.int .i64 links,.int .i64 size,.int .u64 (till:Nat),.bool shut],_] w _
 obtain ⟨r,hr⟩:∃ r,r=remove ⟨id,kind,links,size,till,shut⟩ now:=⟨_,rfl⟩
 rw [← hr]
 have HR:=Lib.hid hr
 clear hr
 have HX:Hid (Blk (w.alloc (.cells #[.int .i64 id,.int .i64 kind,.int .i64 links,.int .i64 size,.int .u64 (till:Nat),.bool shut] 31)) w.heap.size 31 (ndc id kind links size till shut)):=Blk.new w _ _
 have HW:Hid (Below w.heap.size w (w.alloc (.cells #[.int .i64 id,.int .i64 kind,.int .i64 links,.int .i64 size,.int .u64 (till:Nat),.bool shut] 31))):=below_new w _
 obtain ⟨f,hf⟩:∃ f,f=fileN kind:=⟨_,rfl⟩
 have HF:=Lib.hid (file_as id kind links size till shut)
 rw [← hf] at HF
 have HFQ:=Lib.hid hf
 clear hf
 go_enter Tryz.func102,Tryz.ntmps102
 go_wp2_with fail
 refine (HF.out _).mono ?_
 rintro e w1 ⟨rfl,hb1⟩
 have HX1:=Lib.hid (HX.out.below hb1 HX.out.lt)
 have HW1:=Lib.hid (HW.out.trans (hb1.mono HW.out.size))
 clear HX HW hb1
 have c2:w1.cell? ⟨w.heap.size,2,none⟩=some (.int .i64 links):=HX1.out.cell 2
 have c4:w1.cell? ⟨w.heap.size,4,none⟩=some (.int .u64 (till:Nat)):=HX1.out.cell 4
 have c5:w1.cell? ⟨w.heap.size,5,none⟩=some (.bool shut):=HX1.out.cell 5
 by_cases h0:f=0
 ·subst h0
  cases shut
  ·go_wp2_with fail
   go_ret
   exact ⟨by rw [HR.out];unfold remove;rw [← HFQ.out];rfl,HW1.out⟩
  ·by_cases hl:1<links
   ·go_wp2_with fail
    go_ret
    exact ⟨by rw [HR.out];unfold remove;rw [← HFQ.out,if_neg (by simp),if_pos (.inr hl)];rfl,HW1.out⟩
   ·by_cases hd:now<till
    ·have hn:decide (((till:Nat):Int)≤((now:Nat):Int))=false:=by simp;omega
     go_wp2_with fail
     refine (due_any _ _ _).mono ?_
     rintro e _ ⟨rfl,rfl⟩
     rw [hn]
     go_wp2_with fail
     go_ret
     exact ⟨by rw [HR.out];unfold remove;rw [← HFQ.out,if_neg (by simp),if_neg (by simp;omega),if_pos hd];rfl,HW1.out⟩
    ·have hn:decide (((till:Nat):Int)≤((now:Nat):Int))=true:=by simp;omega
     go_wp2_with fail
     refine (due_any _ _ _).mono ?_
     rintro e _ ⟨rfl,rfl⟩
     rw [hn]
     go_wp2_with fail
     go_ret
     exact ⟨by rw [HR.out];unfold remove;rw [← HFQ.out,if_neg (by simp),if_neg (by simp;omega),if_neg hd];rfl,HW1.out⟩
 ·have hz:(((f:Nat):Int)==0)=false:=by simpa using h0
  go_wp2_with fail
  go_ret
  exact ⟨by rw [HR.out];unfold remove;rw [← HFQ.out,if_pos h0];rfl,HW1.out⟩
set_option maxHeartbeats 1000000 in
set_option maxRecDepth 100000 in
theorem keep_any (n:Nd) (u:Nat) (w:World):Calls Tryz.prog 112 #[n.val,.int .u64 (u:Nat)] w fun e w'=>e=.returned (.int .i64 (keep n u:Nat))∧Below w.heap.size w w':=by
 obtain ⟨id,kind,links,size,till,shut⟩:=n
 show Calls _ _ #[.agg #[.int .i64 id,.int .i64 kind,.int .i64 links,.int .i64 size,.int .u64 (till:Nat),.bool shut],_] w _
 obtain ⟨r,hr⟩:∃ r,r=keep ⟨id,kind,links,size,till,shut⟩ u:=⟨_,rfl⟩
 rw [← hr]
 have HR:=Lib.hid hr
 clear hr
 have HX:Hid (Blk (w.alloc (.cells #[.int .i64 id,.int .i64 kind,.int .i64 links,.int .i64 size,.int .u64 (till:Nat),.bool shut] 31)) w.heap.size 31 (ndc id kind links size till shut)):=Blk.new w _ _
 have HW:Hid (Below w.heap.size w (w.alloc (.cells #[.int .i64 id,.int .i64 kind,.int .i64 links,.int .i64 size,.int .u64 (till:Nat),.bool shut] 31))):=below_new w _
 obtain ⟨f,hf⟩:∃ f,f=fileN kind:=⟨_,rfl⟩
 have HF:=Lib.hid (file_as id kind links size till shut)
 rw [← hf] at HF
 have HFQ:=Lib.hid hf
 clear hf
 go_enter Tryz.func112,Tryz.ntmps112
 go_wp2_with fail
 refine (HF.out _).mono ?_
 rintro e w1 ⟨rfl,hb1⟩
 have HX1:=Lib.hid (HX.out.below hb1 HX.out.lt)
 have HW1:=Lib.hid (HW.out.trans (hb1.mono HW.out.size))
 clear HX HW hb1
 have c4:w1.cell? ⟨w.heap.size,4,none⟩=some (.int .u64 (till:Nat)):=HX1.out.cell 4
 have c5:w1.cell? ⟨w.heap.size,5,none⟩=some (.bool shut):=HX1.out.cell 5
 by_cases h0:f=0
 ·subst h0
  cases shut
  ·go_wp2_with fail
   go_ret
   exact ⟨by rw [HR.out];unfold keep;rw [← HFQ.out];rfl,HW1.out⟩
  ·by_cases hd:u<till
   ·have hn:((u:Nat):Int)<((till:Nat):Int):=by omega
    go_wp2_with fail
    go_ret
    exact ⟨by rw [HR.out];unfold keep;rw [← HFQ.out,if_neg (by simp),if_neg (by simp),if_pos hd];rfl,HW1.out⟩
   ·have hn:¬ ((u:Nat):Int)<((till:Nat):Int):=by omega
    by_cases hm:1099511627776<u
    ·have hq:decide (((u:Nat):Int)≤1099511627776)=false:=by simp;omega
     go_wp2_with fail
     refine (right_any _ _).mono ?_
     rintro e _ ⟨rfl,rfl⟩
     rw [hq]
     go_wp2_with fail
     go_ret
     exact ⟨by rw [HR.out];unfold keep;rw [← HFQ.out,if_neg (by simp),if_neg (by simp),if_neg hd,if_pos hm];rfl,HW1.out⟩
    ·have hq:decide (((u:Nat):Int)≤1099511627776)=true:=by simp;omega
     go_wp2_with fail
     refine (right_any _ _).mono ?_
     rintro e _ ⟨rfl,rfl⟩
     rw [hq]
     go_wp2_with fail
     go_ret
     exact ⟨by rw [HR.out];unfold keep;rw [← HFQ.out,if_neg (by simp),if_neg (by simp),if_neg hd,if_neg hm];rfl,HW1.out⟩
 ·have hz:(((f:Nat):Int)==0)=false:=by simpa using h0
  go_wp2_with fail
  go_ret
  exact ⟨by rw [HR.out];unfold keep;rw [← HFQ.out,if_pos h0];rfl,HW1.out⟩
set_option maxHeartbeats 1000000 in
set_option maxRecDepth 100000 in
theorem kept_any (n:Nd) (now:Nat) (w:World):Calls Tryz.prog 189 #[n.val,.int .u64 (now:Nat)] w fun e w'=>e=.returned (.bool (kept n now))∧Below w.heap.size w w':=by
 obtain ⟨id,kind,links,size,till,shut⟩:=n
 show Calls _ _ #[.agg #[.int .i64 id,.int .i64 kind,.int .i64 links,.int .i64 size,.int .u64 (till:Nat),.bool shut],_] w _
 obtain ⟨r,hr⟩:∃ r,r=kept ⟨id,kind,links,size,till,shut⟩ now:=⟨_,rfl⟩
 rw [← hr]
 unfold kept at hr
 by_cases h1:kind=1
 ·cases shut
  ·have HR:Hid (r=false):=by rw [hr];show _=_;simp
   clear hr
   go_enter Tryz.func189,Tryz.ntmps189
   go_wp2_with fail
   go_ret
   exact ⟨by rw [HR.out];rfl,below_new _ _⟩
  ·by_cases hd:now<till
   ·have HR:Hid (r=true):=by rw [hr];show _=_;simp [h1,hd]
    have hn:decide (((till:Nat):Int)≤((now:Nat):Int))=false:=by simp;omega
    clear hr
    go_enter Tryz.func189,Tryz.ntmps189
    go_wp2_with fail
    refine (due_any _ _ _).mono ?_
    rintro e _ ⟨rfl,rfl⟩
    rw [hn]
    go_wp2_with fail
    go_ret
    exact ⟨by rw [HR.out];rfl,below_new _ _⟩
   ·have HR:Hid (r=false):=by rw [hr];show _=_;simp [h1,hd]
    have hn:decide (((till:Nat):Int)≤((now:Nat):Int))=true:=by simp;omega
    clear hr
    go_enter Tryz.func189,Tryz.ntmps189
    go_wp2_with fail
    refine (due_any _ _ _).mono ?_
    rintro e _ ⟨rfl,rfl⟩
    rw [hn]
    go_wp2_with fail
    go_ret
    exact ⟨by rw [HR.out];rfl,below_new _ _⟩
 ·have HR:Hid (r=false):=by rw [hr];show _=_;simp [h1]
  have hz:(kind==1)=false:=by simpa using h1
  clear hr
  go_enter Tryz.func189,Tryz.ntmps189
  go_wp2_with fail
  go_ret
  exact ⟨by rw [HR.out];rfl,below_new _ _⟩
end Wo
end Go.Proofs.YtbnpgakmhhfjkaaGreatDoor
namespace Go.Proofs.YtbnpgakmhhfjkaaGreatDoor
open Go.RowKit
namespace Wo
end Wo
end Go.Proofs.YtbnpgakmhhfjkaaGreatDoor
namespace Go.Proofs.YtbnpgakmhhfjkaaGreatDoor
open Go.RowKit
namespace Wo
theorem as_ (id kind links size:Int) (till:Nat) (shut:Bool):(Nd.val ⟨id,kind,links,size,till,shut⟩)=.agg #[.int .i64 id,.int .i64 kind,.int .i64 links,.int .i64 size,.int .u64 (till:Nat),.bool shut]:=rfl
end Wo
end Go.Proofs.YtbnpgakmhhfjkaaGreatDoor
namespace Go.Proofs.YtbnpgakmhhfjkaaGreatDoor
open Go.RowKit
theorem Tryz.infoInt:(Tryz.prog.info? 3).map (fun i=>(i.zero,i.size,i.bytes))=some (some (.int .i64 0),1,8):=by kernel_rfl
def numCells (l:List Int):List Value:=l.map (.int .i64)
def IAt (B:Nat) (v:Value) (l:List Int) (w0 wr:World):Prop :=
 wr.ownsRow B 3 1 v l.length (numCells l)∧Below B w0 wr∧B=w0.heap.size
theorem IAt.nil (w:World):IAt w.heap.size (.slice none 0 0) [] w w:=⟨⟨rfl,.inl ⟨rfl,rfl⟩⟩,Below.refl _ _,rfl⟩
theorem owns_below {w wa:World} {B e n:Nat} {v:Value} {xs:List Value} (h:w.ownsRow B e 1 v n xs) (ha:Below w.heap.size w wa):wa.ownsRow B e 1 v n xs:=by
 refine ⟨h.1,?_⟩
 rcases h.2 with h2|⟨g,cap,cur,h3,h4,h5,h6⟩
 ·exact .inl h2
 ·refine .inr ⟨g,cap,cur,h3,h4,(ha.block g ?_).trans h5,h6⟩
  rcases Nat.lt_or_ge g w.heap.size with hlt|hge
  ·exact hlt
  ·rw [Array.getElem?_eq_none hge] at h5;cases h5
theorem IAt.push {B:Nat} {v v':Value} {l x:List Int} {w0 wr wa w':World} (h:IAt B v l w0 wr) (ha:Below wr.heap.size wr wa) (hown:w'.ownsRow B 3 1 v' (l.length+x.length) (numCells l++numCells x)) (hg:wa.grownBy w' v.ownBlock):IAt B v' (l++x) w0 w':=by
 refine ⟨by rw [List.length_append];unfold numCells at hown ⊢;rw [List.map_append];exact hown,?_,h.2.2⟩
 have hb:Below B w0 wa:=h.2.1.trans (ha.mono (by have:=h.2.1.size;have:=h.2.2;omega))
 exact hb.grown hg (by have:=h.2.1.size;have:=ha.size;have:=h.2.2;omega) (fun k hk=>h.1.ownBlock_ge k hk)
theorem IAt.below {B:Nat} {v:Value} {l:List Int} {w0 wr w':World} (h:IAt B v l w0 wr) (hb:Below wr.heap.size wr w'):IAt B v l w0 w' :=
 ⟨owns_below h.1 hb,h.2.1.trans (hb.mono (by have:=h.2.1.size;have:=h.2.2;omega)),h.2.2⟩
theorem IAt.form {B:Nat} {v:Value} {l:List Int} {w0 wr:World} (h:IAt B v l w0 wr):∃ X c,v=.slice X l.length c:=by
 rcases h.1.2 with ⟨rfl,h1⟩|⟨g,cap,cur,rfl,_⟩
 ·exact ⟨none,0,by rw [h1]⟩
 ·exact ⟨_,cap,rfl⟩
theorem IAt.rdi {B:Nat} {v:Value} {l:List Int} {w0 wr:World} (h:IAt B v l w0 wr) (hl:∀ x ∈ l,-9223372036854775808≤x∧x≤9223372036854775807):∃ A c,v=.slice A l.length c∧l.length≤c∧RdI wr A l:=by
 rcases h.1.2 with ⟨rfl,h1⟩|⟨g,cap,cur,rfl,hb,hh,hc,_,hcs,htk⟩
 ·have:l=[]:=List.eq_nil_of_length_eq_zero h1
  subst this
  exact ⟨none,0,rfl,Nat.le_refl _,fun j x hx=>by simp at hx⟩
 ·have hlt:g<wr.heap.size:=(Array.getElem?_eq_some_iff.1 hh).1
  refine ⟨_,cap,rfl,hc,fun j x hx=>⟨hl x (List.mem_of_getElem? hx),g,0,rfl,hlt,?_⟩⟩
  have hj:j<l.length:=(List.getElem?_eq_some_iff.1 hx).1
  rw [cell_of_row wr g _ cur 3 (0,0) hh,Nat.zero_add]
  have e:(cur.toList.take (l.length*1))[j]?=some (.int .i64 x):=by
   rw [htk];simp [numCells,hx]
  rw [List.getElem?_take_of_lt (by omega)] at e
  simpa using e
theorem wpList_append_num {w:World} {ops:Array Oper} {rest:List Oper} {o:Oper} {a:Act} {Q:Exit→Act→World→Prop} (hgd:o.guard=none) (s x:Operand)
    (ho:o.op=.call { callee:=.builtin .append,args:=#[s,x],argTypes:=#[50,50] })
    {B:Nat} {v:Value} {l:List Int} {w0:World} (k:Int) (hs:a.eval s=v) {wr:World} (hI:IAt B v l w0 wr) (g:Nat) (t:TypeId) (hw:w=wr.alloc (.cells #[.int .i64 k] t)) (hgb:g=wr.heap.size) (hx:a.eval x=.slice (some ⟨g,0,none⟩) 1 1) (hl:l.length≤1000000)
    (h:∀ v' w',Hid (IAt B v' (l++[k]) w0 w')→wpList Tryz.prog ops Q rest (a.put o.dst v') w'):wpList Tryz.prog ops Q (o :: rest) a w:=by
 obtain ⟨i0,hi,hz0,hz1,hz2⟩:∃ i0,Tryz.prog.info? 3=some i0∧i0.zero=some (.int .i64 0)∧i0.size=1∧i0.bytes=8:=by
  have h:=Tryz.infoInt
  simp only [Option.map_eq_some_iff,Prod.mk.injEq] at h
  obtain ⟨i0,h1,h2,h3,h4⟩:=h
  exact ⟨i0,h1,h2,h3,h4⟩
 subst hw hgb
 have hb0:Below wr.heap.size wr (wr.alloc (.cells #[.int .i64 k] t)):=below_new wr _
 refine wpList_append_own _ hgd s x 50 ho B 3 i0 (.int .i64 0) 1 8 Tryz.underlying50 hi hz0 hz1 hz2 rfl (by decide) v l.length (numCells l) hs (owns_below hI.1 hb0) ⟨wr.heap.size,0,none⟩ 1 1 [.int .i64 k] hx rfl ?_ (by intro u hu;simp at hu;subst hu;rfl) (by unfold maxLen;omega) (by omega) (by rw [World.size_alloc];have:=hI.2.1.size;have:=hI.2.2;omega) ?_
 ·intro j u hj
  have hj0:j=0:=by
   have:=(List.getElem?_eq_some_iff.1 hj).1
   simp at this;exact this
  subst hj0
  have e:(⟨wr.heap.size,0,none⟩:Addr).add 0=⟨wr.heap.size,0,none⟩:=rfl
  rw [e,cell_of_row _ _ _ _ _ _ (heap_alloc_new wr (.cells #[.int .i64 k] t))]
  simpa using hj
 ·intro v' w' h1 h2 _
  exact h v' w' (hI.push hb0 h1 h2)
end Go.Proofs.YtbnpgakmhhfjkaaGreatDoor
