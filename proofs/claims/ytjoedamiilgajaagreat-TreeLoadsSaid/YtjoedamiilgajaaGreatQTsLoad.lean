/-
  OWN WORK. The program's tree: Load, of any bytes.
-/
import Derived.Test.YtjoedamiilgajaaGreatQ19
import Derived.Test.YtjoedamiilgajaaGreatQTsEnt
namespace Go.Proofs.YtjoedamiilgajaaGreat
open Go.RowKit Rc
open Tr (Nm En T)
namespace Ts
theorem ptrTy:Rf.RowTy 78 76 1 (.pointer none) 8:=⟨by kernel_rfl,by kernel_rfl,by kernel_rfl,rfl,by decide,by decide⟩
theorem es_one {ge:Nat} {dv nv:Value} {e:En} {w:World} (h:Tm.EIn ge dv nv e w):Tm.EsAt [ge] [e] (Tm.EnS ge dv nv) w:=⟨Tm.EnS ge dv nv,fun _=>False,h.at_,(fun _ h=>h),(fun _ _ h=>h),fun _=>⟨.inl,fun h=>h.elim id False.elim⟩⟩
structure LI (B g:Nat) (XB:Option Nat) (p:Nat) (es:T) (s:Co.Rs) (av:Value) (gs:List Nat) (S:Nat→Prop) (w:World):Prop where
 t:Tm.TIn p av gs S es w
 r:Rr g XB s w
 up:∀ k,Tm.TrS p av S k→B≤k
variable {B g p:Nat} {XB:Option Nat} {es:T} {s s':Co.Rs} {av:Value} {gs:List Nat} {S:Nat→Prop} {w w':World}
theorem LI.keeps (h:LI B g XB p es s av gs S w) (hg:g<B) (hk:Keeps w w' g) (hr:Rr g XB s' w'):LI B g XB p es s' av gs S w' :=
 ⟨h.t.keep fun b hb=>hk.block b (h.t.lt hb) fun e=>by cases e;have:=h.up _ hb;omega,hr,h.up⟩
theorem LI.push (h:LI B g XB p es s av gs S w) (hB:g<B∧∀ b,XB=some b→b<B) {ge:Nat} {dv nv:Value} {e:En} (hE:Tm.EIn ge dv nv e w) {n0:Nat} (hn:∀ b,Tm.EnS ge dv nv b→n0≤b) (hS:∀ b,S b→b<n0) (hB0:B≤n0) {wa w2:World} {v':Value} (ha:wa=w.alloc (.cells #[.pointer (some ⟨ge,0,none⟩)] 76))
    (ho:w2.ownsRow 0 76 1 v' (gs.length+1) (Tm.ptrCells gs++[.pointer (some ⟨ge,0,none⟩)])) (hgr:wa.grownBy w2 av.ownBlock) (hv:v'.ownBlock=av.ownBlock∨v'.ownBlock=some wa.heap.size):LI B g XB p (es++[e]) s v' (gs++[ge]) (fun b=>S b∨Tm.EnS ge dv nv b) (w2.setCell ⟨p,0,none⟩ v'):=by
 have hba:Below w.heap.size w wa:=by rw [ha];exact bN w _
 have hap:=h.t.apart
 have keepb:∀ b,b<w.heap.size→av.ownBlock≠some b→b≠p→(w2.setCell ⟨p,0,none⟩ v').heap[b]?=w.heap[b]?:=fun b h1 h2 h3=>(Below.heap_setCell _ _ _ _ (fun e=>h3 e)).trans ((hgr.block b (Nat.lt_of_lt_of_le h1 hba.size) fun e=>h2 e.symm).trans (hba.block b h1))
 have hpw:p<w.heap.size:=h.t.box.lt
 have hbox:Blk w2 p 80 [av]:=(hgr.block p (Nat.lt_of_lt_of_le hpw hba.size) fun e=>(hap.2 p e.symm).2 rfl).trans ((hba.block p hpw).trans h.t.box)
 have hvp:∀ b,v'.ownBlock=some b→b≠p:=fun b hb=>by
  obtain ⟨_,_,cs,h1⟩:=Tm.oB ho hb
  exact h1.ne_ hbox (by decide)
 refine ⟨⟨hbox.set_ 0 v',?_,?_⟩,?_,fun k hk=>?_⟩
 ·rw [List.length_append,Tm.ptrCells_append]
  exact Tm.own_keep ho fun b hb=>Below.heap_setCell _ _ _ _ (hvp b hb)
 ·refine (h.t.each.keep fun b hb=>keepb b (h.t.lt (.inr (.inr hb))) (fun h9=>(hap.2 b h9).1 hb) (fun h9=>hap.1 (h9 ▸ hb))).app (es_one (hE.keep fun b hb=>?_)) fun b h1 h2=>?_
  ·obtain ⟨h1,t9,cs9,h2,h3⟩:=hE.kind hb
   refine keepb b h1 (fun h9=>?_) fun h9=>?_
   ·obtain ⟨_,_,cs,h4⟩:=Tm.oB h.t.row h9
    exact h2.ne_ h4 (by rcases h3 with rfl|rfl|rfl <;> decide) rfl
   ·subst h9
    exact h2.ne_ h.t.box (by rcases h3 with rfl|rfl|rfl <;> decide) rfl
  ·have:=hS b h1
   have:=hn b h2
   omega
 ·have hgw:=h.r.lt
  refine h.r.keep (by rw [show (w2.setCell ⟨p,0,none⟩ v').heap.size=w2.heap.size by simp [World.setCell]];exact Nat.le_trans hba.size hgr.size) (keepb g hgw (fun h9=>?_) fun h9=>?_) fun b hb=>?_
  ·have:=h.up g (.inr (.inl h9));omega
  ·have:=h.up p (.inl rfl);omega
  ·have hbB:=hB.2 b hb
   refine keepb b ?_ (fun h9=>?_) fun h9=>?_
   ·have:=h.up p (.inl rfl);omega
   ·have:=h.up b (.inr (.inl h9));omega
   ·have:=h.up p (.inl rfl);omega
 ·rcases hk with rfl|hk|hk|hk
  ·exact h.up _ (.inl rfl)
  ·rcases hv with hv|hv
   ·exact h.up k (.inr (.inl (hv ▸ hk)))
   ·rw [hv] at hk
    injection hk with hk
    have h1:=hba.size
    have h2:=h.up p (.inl rfl)
    omega
  ·exact h.up k (.inr (.inr hk))
  ·exact Nat.le_trans hB0 (hn k hk)
def LoadOut (b:Bs) (w:World) (r:Ending) (w':World):Prop:=Below w.heap.size w w' ∧
 ((∃ t p av gs S,Tr.Good t∧Tr.Slim t∧Tr.save t=b∧r=.returned (.tuple #[.pointer (some ⟨p,0,none⟩),.int .i64 0])∧Tm.TIn p av gs S t w'∧∀ k,Tm.TrS p av S k→w.heap.size≤k) ∨
  ((∀ t,Tr.Good t→Tr.Slim t→Tr.save t≠b)∧r=.returned (.tuple #[.pointer none,.int .i64 12])))
theorem LoadOut.no {b:Bs} (hb:Below w.heap.size w w') (h:∀ t,Tr.Good t→Tr.Slim t→Tr.save t≠b):LoadOut b w (.returned (.tuple #[.pointer none,.int .i64 12])) w':=⟨hb,.inr ⟨h,rfl⟩⟩
set_option maxHeartbeats 2000000 in
set_option maxRecDepth 100000 in
theorem load_to {Q:Ending→World→Prop} (w:World) (A:Option Addr) (b:Bs) (cap:Nat) (HQ:Hid (∀ r w',LoadOut b w r w'→Q r w')) (hr:Rd w A b) (hl:b.length≤140737488351232):Calls Tryz.prog 39 #[.slice A b.length cap] w Q:=by
 have HNEW:=Lib.hid (rnew_any w A b cap hr hl)
 clear hr hl
 go_enter Tryz.func39,Tryz.ntmps39
 go_wp2_with fail
 refine HNEW.out.mono ?_
 rintro e w1 ⟨v,S9,rfl,hat,hb1,hS9⟩
 obtain ⟨g,X,cap1,r1,rfl,h1,h2,h3,rfl⟩:=hat
 obtain ⟨XB,hXB⟩:∃ XB,XB=X.map (·.block):=⟨_,rfl⟩
 have HR1:Hid (Rr g XB ⟨b,0⟩ w1):=⟨X,cap1,r1,h1,h2,h3,fun b hb=>by rw [hXB];exact hb⟩
 have HX1:Hid (g<w1.heap.size∧w.heap.size≤g∧∀ b,XB=some b→b<w1.heap.size∧b≠g∧w.heap.size≤b):=⟨h1.blk.lt,hS9 g (.inl rfl),fun b hb=>by
  rw [hXB] at hb
  exact ⟨(h1.off b hb).2,(h1.off b hb).1,hS9 b (.inr hb)⟩⟩
 have HB1:Hid (Below w.heap.size w w1):=hb1
 clear h1 h2 h3 hS9 hb1 hXB HNEW
 go_wp2_with fail
 refine (short_rd HR1.out).mono ?_
 rintro e w2 ⟨rfl,HR2,HK2⟩
 obtain ⟨N,hN⟩:∃ N,N=(Co.num 2 ⟨b,0⟩).1:=⟨_,rfl⟩
 obtain ⟨s2,hs2⟩:∃ s2,s2=(Co.num 2 ⟨b,0⟩).2:=⟨_,rfl⟩
 rw [← hs2] at HR2
 rw [← hN]
 have HNS:∀ P:Prop,(Co.num 2 ⟨b,0⟩=(N,s2)→P)→P:=fun P k=>k (by rw [hN,hs2])
 have HTOT:∀ t,Tr.Good t→Tr.Slim t→Tr.save t=b→∀ P:Prop,(N=t.length∧N≤64∧Tr.ldEns N s2=some (t,⟨[],0⟩)→P)→P:=fun t hG hs hb P k=>k (by
  refine HNS _ fun hns=>?_
  obtain ⟨h1,h2⟩:=Tr.save_reads hG hs
  rw [hb,hns] at h1
  injection h1 with h1 h3
  rw [← h1,← h3] at h2
  exact ⟨h1,by rw [h1];exact hG.few,h2⟩)
 have HB2:Hid (Below w.heap.size w w2):=by
  have hk:=HK2.out
  exact HB1.out.grown hk HB1.out.size fun i hi=>by cases hi;exact HX1.out.2.1
 have HX2:Hid (g<w2.heap.size∧∀ b,XB=some b→b<w2.heap.size):=⟨Nat.lt_of_lt_of_le HX1.out.1 HK2.out.size,fun b hb=>Nat.lt_of_lt_of_le (HX1.out.2.2 b hb).1 HK2.out.size⟩
 have hN9:N≤65535:=by rw [hN];have:=num_small2 (⟨b,0⟩:Co.Rs);omega
 clear hN hs2 HR1 HK2 HB1
 by_cases h64:N≤64
 ·have hgt:¬ (64:Int)<(N:Int):=by omega
  go_upto_region 6 with (fail)
  obtain ⟨w3,hw3⟩:∃ w3,w3=w2.alloc (.cells #[.slice none 0 0] 80):=⟨_,rfl⟩
  obtain ⟨p,hp⟩:∃ p,p=w2.heap.size:=⟨_,rfl⟩
  have hb3:Below w2.heap.size w2 w3:=by rw [hw3];exact bN w2 _
  have HI3:Hid (LI p g XB p [] s2 (.slice none 0 0) [] (fun _=>False) w3):=by
   refine ⟨⟨by rw [hw3,hp];exact Blk.new w2 _ _,⟨rfl,.inl ⟨rfl,rfl⟩⟩,fun _ h=>h⟩,HR2.out.below HX2.out.2 hb3,fun k hk=>?_⟩
   rcases hk with rfl|hk|hk
   ·exact Nat.le_refl _
   ·cases hk
   ·exact hk.elim
  have HX3:Hid (g<p∧∀ b,XB=some b→b<p):=by rw [hp];exact HX2.out
  have HXG:Hid (w.heap.size≤g∧(∀ b,XB=some b→b≠g∧w.heap.size≤b)∧w.heap.size≤p):=⟨HX1.out.2.1,fun b hb=>(HX1.out.2.2 b hb).2,by rw [hp];exact HB2.out.size⟩
  have HB3:Hid (Below w.heap.size w w3):=HB2.out.trans (hb3.mono HB2.out.size)
  rw [← hw3,← hp]
  clear hw3 hp hb3 HR2 HB2 HX2 HX1 hgt
  go_wp2_with fail
  go_loopw [7,8,18] (fun t7 t8 t18 wr=>∃ (j:Nat) (v7 v8:Value) (es:T) (sj:Co.Rs) (av:Value) (gs:List Nat) (S:Nat→Prop),t7=v7∧t8=v8∧t18=.int .i64 j∧j≤N∧Hid (LI p g XB p es sj av gs S wr)∧Hid (es.length=j)∧Hid (Below w.heap.size w wr)∧∀ P:Prop,(Tr.ldEns j s2=some (es,sj)→P)→P) (fun _ _ t18 _=>N-(match t18 with|.int _ k=>k.toNat|_=>0))
  case atStart=>exact ⟨0,_,_,[],s2,_,[],_,rfl,rfl,rfl,Nat.zero_le _,HI3.out,rfl,HB3.out,fun P k=>k (Tr.ldEns_zero s2)⟩
  case round =>
   clear HI3 HB3
   obtain ⟨j,v7,v8,es,sj,av,gs,S,rfl,rfl,rfl,hj,HI,HEL,HB,HREL⟩:=hrel
   by_cases hk:j<N
   ·have hlt2:(j:Int)<(N:Int):=by omega
    have HEN:=Lib.hid (entry_any HI.out.r (fun b hb=>⟨by have:=HX3.out.2 b hb;have:=HI.out.t.box.lt;omega,(HXG.out.2.1 b hb).1⟩))
    go_wp2_with fail
    refine HEN.out.mono ?_
    rintro r w4 ⟨hk4,⟨v,rfl,hno⟩|⟨e,s4,ge,dv,nv,hyes,rfl,hE,hup,hR4⟩⟩
    ·have HB4:Hid (Below w.heap.size w w4):=HB.out.grown hk4 HB.out.size fun i hi=>by cases hi;exact HXG.out.1
     have HNO:Hid (∀ t,Tr.Good t→Tr.Slim t→Tr.save t≠b):=fun t hG hs hb=>HTOT t hG hs hb _ fun h9=>HREL _ fun hrel=>by
      have:=Tr.ldEns_no hk hrel hno
      rw [h9.2.2] at this
      cases this
     clear hk4 hno HTOT HREL HNS HEN
     go_wp2_with fail
     first|exact HQ.out _ _ (.no HB4.out HNO.out)|(go_ret2;exact HQ.out _ _ (.no HB4.out HNO.out))
    ·have HB4:Hid (Below w.heap.size w w4):=HB.out.grown hk4 HB.out.size fun i hi=>by cases hi;exact HXG.out.1
     have HI4:Hid (LI p g XB p es s4 av gs S w4):=HI.out.keeps HX3.out.1 hk4 hR4
     have HREL4:∀ P:Prop,(Tr.ldEns (j+1) s2=some (es++[e],s4)→P)→P:=fun P k=>HREL _ fun hrel=>k (Tr.ldEns_one hrel hyes)
     have hE4:=Lib.hid hE
     have HUP:Hid ((∀ b,Tm.EnS ge dv nv b→wr.heap.size≤b)∧(∀ b,S b→b<wr.heap.size)∧p≤wr.heap.size):=⟨hup,fun b hb=>HI.out.t.lt (.inr (.inr hb)),Nat.le_of_lt HI.out.t.box.lt⟩
     clear hk4 hyes hE hup hR4 HREL HEN HB HI
     have c0:w4.cell? ⟨p,0,none⟩=some av:=HI4.out.t.box.cell 0
     obtain ⟨Aa,ca,hav,hca,_⟩:=Tm.oF HI4.out.t.row
     obtain ⟨wa,hwa⟩:∃ wa,wa=w4.alloc (.cells #[.pointer (some ⟨ge,0,none⟩)] 76):=⟨_,rfl⟩
     have hba:Below w4.heap.size w4 wa:=by rw [hwa];exact bN w4 _
     have HROW:Hid (wa.ownsRow 0 76 1 av gs.length (Tm.ptrCells gs)):=Tm.own_keep HI4.out.t.row fun b hb=>hba.block b (Tm.oB HI4.out.t.row hb).2.1
     have HSRC:Hid (Rf.Src wa (some ⟨w4.heap.size,0,none⟩) [.pointer (some ⟨ge,0,none⟩)]):=by show Rf.Src _ _ _;rw [hwa];exact Rf.new_src w4 _ [.pointer (some ⟨ge,0,none⟩)]
     have HWA:Hid (wa=w4.alloc (.cells #[.pointer (some ⟨ge,0,none⟩)] 76)):=hwa
     have HBX:Hid (Blk wa p 80 [av]):=HI4.out.t.box.below hba HI4.out.t.box.lt
     have HAP:Hid (av.ownBlock≠some p):=fun h9=>(HI4.out.t.apart.2 p h9).2 rfl
     have hgl:gs.length≤1000000:=by
      have h1:gs.length=es.length:=HI4.out.t.each.len
      have h2:es.length=j:=HEL.out
      omega
     have HBA:Hid (Below w.heap.size w wa):=HB4.out.trans (hba.mono HB4.out.size)
     clear hba HB4
     go_upto_region 11 with (fail)
     subst hav
     go_wp2_with (rw [← hwa];at_builtin;refine Rf.wpList_cat ptrTy (N:=gs.length+1) rfl (.tmp 31) (.tmp 33) rfl rfl rfl HROW.out HSRC.out rfl (by intro u hu;simp at hu;subst hu;rfl) (by omega) (Nat.zero_le _) rfl rfl ?_;intro v5 w5 HO5 HG5 HV5;obtain ⟨A5,k5,rfl,_,_⟩:=Tm.oF HO5.out;have hbx5:Blk w5 p 80 [.slice Aa gs.length ca]:=(HG5.out.block p HBX.out.lt fun e=>HAP.out e.symm).trans HBX.out;have cl5:=hbx5.cell 0;have f5:=hbx5.frozen 0;clear hbx5)
     clear hwa
     have HIN:Hid (LI p g XB p (es++[e]) s4 (.slice A5 (gs.length+1) k5) (gs++[ge]) (fun b=>S b∨Tm.EnS ge dv nv b) (w5.setCell ⟨p,0,none⟩ (.slice A5 (gs.length+1) k5))):=HI4.out.push HX3.out hE4.out HUP.out.1 HUP.out.2.1 HUP.out.2.2 HWA.out HO5.out HG5.out HV5.out
     have HBN:Hid (Below w.heap.size w (w5.setCell ⟨p,0,none⟩ (.slice A5 (gs.length+1) k5))):=by
      have h1:Below w.heap.size w w5:=HBA.out.grown HG5.out HBA.out.size fun i hi=>by
       have h2:=HI4.out.up i (.inr (.inl hi))
       have h3:=HXG.out.2.2
       omega
      exact ⟨h1.os,h1.tape,h1.output,Nat.le_trans h1.size (by simp [World.setCell]),fun k hk=>(Below.heap_setCell _ _ _ _ (fun e:k=p=>by have h9:w.heap.size≤p:=HXG.out.2.2;omega)).trans (h1.block k hk)⟩
     have HLN:Hid ((es++[e]).length=j+1):=by
      have h1:es.length=j:=HEL.out
      show _=_
      simp [h1]
     have hN64:N≤65535:=hN9
     clear HI4 hE4 HUP HWA HO5 HG5 HV5 HBA HROW HSRC HBX HAP HEL
     go_roundw
     case rel=>exact ⟨j+1,_,_,es++[e],s4,_,gs++[ge],_,rfl,rfl,by go_num,by omega,HIN.out,HLN.out,HBN.out,HREL4⟩
     case measure=>simp;omega
   ·obtain rfl:j=N:=by omega
    have HFIN:=Lib.hid (end_rd HI.out.r)
    have HTO2:∀ t,Tr.Good t→Tr.Slim t→Tr.save t=b→∀ P:Prop,(t=es∧Co.fin sj=0→P)→P:=fun t hG hs hb P k=>HTOT t hG hs hb _ fun h9=>HREL _ fun hrel=>by
     rw [h9.2.2] at hrel
     injection hrel with hrel
     injection hrel with h1 h2
     refine k ⟨h1,?_⟩
     rw [← h2];rfl
    have HRS:Co.fin sj=0→∀ P:Prop,(Tr.save es=b∧Tr.Slim es∧Tr.Raw es→P)→P:=fun h0 P k=>HNS _ fun hns=>HREL _ fun hrel=>by
     obtain ⟨h1,h2,h3,_⟩:=Tr.reads_save hns hrel h0
     exact k ⟨h1,h2,h3⟩
    have HLN:Hid (es.length≤64):=by
     have h1:es.length=j:=HEL.out
     show _≤_
     omega
    clear HTOT HREL HNS HEL
    obtain ⟨fn,hfn⟩:∃ fn,fn=Co.fin sj:=⟨_,rfl⟩
    rw [← hfn] at HFIN HTO2 HRS
    clear hfn
    go_wp2_with fail
    refine HFIN.out.mono ?_
    rintro r w6 ⟨rfl,hb6⟩
    have HB6:Hid (Below w.heap.size w w6):=HB.out.trans (hb6.mono HB.out.size)
    have HT6:Hid (Tm.TIn p av gs S es w6):=HI.out.t.below hb6
    have HUP6:Hid (∀ k,Tm.TrS p av S k→w.heap.size≤k):=fun k hk=>Nat.le_trans HXG.out.2.2 (HI.out.up k hk)
    clear hb6 HFIN HI HB
    by_cases h0:fn=0
    ·have HRS0:=HRS h0
     subst h0
     have HRW:Hid (Tr.Raw es):=HRS0 _ fun h=>h.2.2
     have HRT:=Lib.hid (Tm.right_any HT6.out HRW.out HLN.out)
     clear HRS HRW
     go_wp2_with fail
     refine HRT.out.mono ?_
     rintro r w7 ⟨rb,rfl,hrb,hb7⟩
     have HB7:Hid (Below w.heap.size w w7):=HB6.out.trans (hb7.mono HB6.out.size)
     have HT7:Hid (Tm.TIn p av gs S es w7):=HT6.out.below hb7
     have HRB:Hid (rb=true↔Tr.Good es):=hrb
     clear hb7 hrb HRT HT6 HB6
     cases rb
     ·have HNO:Hid (∀ t,Tr.Good t→Tr.Slim t→Tr.save t≠b):=fun t hG hs hb=>HTO2 t hG hs hb _ fun h9=>by
       have:=HRB.out.2 (h9.1 ▸ hG)
       cases this
      clear HTO2 HRS0 HRB
      go_wp2_with fail
      first|exact HQ.out _ _ (.no HB7.out HNO.out)|(go_ret2;exact HQ.out _ _ (.no HB7.out HNO.out))
     ·have HYES:Hid (LoadOut b w (.returned (.tuple #[.pointer (some ⟨p,0,none⟩),.int .i64 0])) w7):=HRS0 _ fun h9=>⟨HB7.out,.inl ⟨es,p,av,gs,S,HRB.out.1 rfl,h9.2.1,h9.1,rfl,HT7.out,HUP6.out⟩⟩
      clear HTO2 HRS0 HRB
      go_wp2_with fail
      first|exact HQ.out _ _ HYES.out|(go_ret2;exact HQ.out _ _ HYES.out)
    ·have HNO:Hid (∀ t,Tr.Good t→Tr.Slim t→Tr.save t≠b):=fun t hG hs hb=>HTO2 t hG hs hb _ fun h9=>h0 h9.2
     have hz:((fn:Int)==0)=false:=by rw [beq_eq_false_iff_ne];omega
     have HF0:Hid (¬ fn=0):=h0
     clear HTO2 HRS h0
     go_wp2_with fail
     all_goals first
      | exact HQ.out _ _ (.no HB6.out HNO.out)
      | (exfalso;exact HF0.out (by first|assumption|omega))
      | (go_ret2;exact HQ.out _ _ (.no HB6.out HNO.out))
 ·have hgt:(64:Int)<(N:Int):=by omega
  have HNO:Hid (∀ t,Tr.Good t→Tr.Slim t→Tr.save t≠b):=fun t hG hs hb=>HTOT t hG hs hb _ fun h9=>h64 h9.2.1
  clear h64 HTOT HNS
  go_wp2_with fail
  first|exact HQ.out _ _ (.no HB2.out HNO.out)|(go_ret2;exact HQ.out _ _ (.no HB2.out HNO.out))
theorem load_any (w:World) (A:Option Addr) (b:Bs) (cap:Nat) (hr:Rd w A b) (hl:b.length≤140737488351232):Calls Tryz.prog 39 #[.slice A b.length cap] w (LoadOut b w):=load_to w A b cap (fun _ _ h=>h) hr hl
end Ts
end Go.Proofs.YtjoedamiilgajaaGreat
