/-
  OWN WORK. TsRight, CpRCode, TsRd, TsEntR
-/
import Derived.Test.YtjoedamiilgajaaGreatQ18
import Derived.Test.YtjoedamiilgajaaGreatQ15
import Derived.Test.YtjoedamiilgajaaGreatQ01
import Derived.Test.YtjoedamiilgajaaGreatQ02
import Derived.Test.YtjoedamiilgajaaGreatQ16
import Derived.Test.YtjoedamiilgajaaGreatQ06
import Derived.Test.YtjoedamiilgajaaGreatQ03
set_option maxHeartbeats 2000000
namespace Go.Proofs.YtjoedamiilgajaaGreat
open Go.RowKit Rc
open Tr (Nm En T)
namespace Tm
variable {p:Nat} {av:Value} {gs:List Nat} {S:Nat→Prop} {t:T} {w:World}
def RightOut (t:T) (w:World) (r:Ending) (w':World):Prop:=∃ b,r=.returned (.bool b)∧(b=true↔Tr.Good t)∧Below w.heap.size w w'
theorem RightOut.no {w':World} (h:¬ Tr.Good t) (hb:Below w.heap.size w w'):RightOut t w (.returned (.bool false)) w':=⟨false,rfl,⟨fun h=>(Bool.false_ne_true h).elim,fun h9=>(h h9).elim⟩,hb⟩
set_option maxRecDepth 100000 in
theorem right_to {Q:Ending→World→Prop} (HQ:Hid (∀ r w',RightOut t w r w'→Q r w')) (h:TIn p av gs S t w) (hr:Tr.Raw t) (h64:t.length≤64):Calls Tryz.prog 101 #[.pointer (some ⟨p,0,none⟩)] w Q:=by
 have c0:w.cell? ⟨p,0,none⟩=some av:=h.box.cell 0
 have hl:=h.each.len
 obtain ⟨A,c,hav,hc,hA⟩:=oF h.row
 have HT:=Lib.hid h
 have HL:=Lib.hid hl
 have hg9:gs.length≤64:=by omega
 have HRW:=Lib.hid hr
 cases t with
 | nil =>
   have h0:gs.length=0:=by rw [hl];rfl
   subst hav
   rw [h0] at c0
   have HN:Hid (¬ Tr.Good ([]:T)):=fun hG=>by
    obtain ⟨r,rest,h1,_⟩:=hG.root
    cases h1
   clear h hl hA hc hr h64 h0 hg9
   go_enter Tryz.func101,Tryz.ntmps101
   go_wp2_with fail
   first|exact HQ.out _ _ (.no HN.out (Below.refl _ _))|(go_ret;exact HQ.out _ _ (.no HN.out (Below.refl _ _)))
 | cons e0 rest =>
   have hpos:0<gs.length:=by rw [hl];simp
   have HPOS:Hid (0<gs.length):=hpos
   obtain ⟨q,rfl,_,_,hq,hcell⟩:=hA hpos
   subst hav
   obtain ⟨g0,S0,hg0,hE0,_⟩:=h.each.get (j:=0) (e:=e0) rfl
   have c1:w.cell? ⟨q,0,none⟩=some (.pointer (some ⟨g0,0,none⟩)):=hcell 0 _ (by simp [ptrCells,hg0])
   obtain ⟨f0,f1,_⟩:=hE0.cells
   have HC:=Lib.hid hcell
   have hz:((gs.length:Int)==0)=false:=by rw [beq_eq_false_iff_ne];omega
   have hplt:(0:Int)<(gs.length:Int):=by omega
   clear h hl hA hc hr h64 hcell hg0 hE0
   by_cases hid:e0.nd.id=0
   ·by_cases hkd:e0.nd.kind=2
    ·rw [hid] at f0
     rw [hkd] at f1
     have HHEAD:Hid (Tr.headB (e0 :: rest)=true):=by
      show _=_
      unfold Tr.headB
      simp [hid,hkd]
     clear hid hkd
     obtain ⟨t,ht⟩:∃ t,t=e0 :: rest:=⟨_,rfl⟩
     rw [← ht] at HQ HT HL HRW HHEAD
     go_enter Tryz.func101,Tryz.ntmps101
     go_wp2_with fail
     clear c1 f0 f1 hz hplt
     go_loopw [3,4,42] (fun t3 t4 t42 wr=>∃ (j:Nat) (v3 v4:Value),t3=v3∧t4=v4∧t42=.int .i64 j∧j≤gs.length∧Hid (Tr.UpTo t j)∧Hid ((t.take j).all (leadsB t)=true)∧Hid (Below w.heap.size w wr)) (fun _ _ t42 _=>gs.length-(match t42 with|.int _ k=>k.toNat|_=>0))
     case atStart=>exact ⟨0,_,_,rfl,rfl,rfl,Nat.zero_le _,Tr.UpTo.zero t,rfl,Below.refl _ _⟩
     case round =>
      obtain ⟨j,v3,v4,rfl,rfl,rfl,hj,HUT,HLA,HB⟩:=hrel
      by_cases hk:j<gs.length
      ·obtain ⟨e,he⟩:∃ e,t[j]?=some e:=⟨_,List.getElem?_eq_getElem (by rw [← HL.out];exact hk)⟩
       obtain ⟨g,S1,hg,hE,hS1⟩:=HT.out.each.get he
       have c1:wr.cell? ⟨q,j,none⟩=some (.pointer (some ⟨g,0,none⟩)):=(cell_same (HB.out.block q hq)).trans (HC.out j _ (by simp [ptrCells,hg]))
       have hmem:e ∈ t:=List.mem_of_getElem? he
       have hlt2:(j:Int)<(gs.length:Int):=by omega
       have HLD:Hid (∀ W,Below wr.heap.size wr W→Calls Tryz.prog 139 #[.pointer (some ⟨p,0,none⟩),.pointer (some ⟨g,0,none⟩)] W fun r w'=>r=.returned (.bool (leadsB t e))∧Below W.heap.size W w'):=fun W hW=>leads_any (HT.out.below (HB.out.trans (hW.mono HB.out.size))) (by have:=HL.out;omega) (hE.keep fun b hb=>(HB.out.trans (hW.mono HB.out.size)).block b (HT.out.lt (.inr (.inr (hS1 b hb))))) hS1 (by have:=(HRW.out e hmem).2.2.1;omega)
       have HE0:Hid (t[j]?=some e):=he
       have HBD:Hid (Below w.heap.size w wr.drew):=undrew_r HB.out
       have hsz:wr.drew.heap.size=wr.heap.size:=rfl
       rcases Nat.eq_zero_or_pos j with h0|h0
       ·subst h0
        have HCS:Hid (∀ W,Below w.heap.size w W→W.cell? ⟨p,0,none⟩=some (.slice (some ⟨q,0,none⟩) gs.length c)):=fun W hW=>(HT.out.below hW).box.cell 0
        have HNX:leadsB t e=true→Hid (Tr.UpTo t (0+1))∧Hid ((t.take (0+1)).all (leadsB t)=true):=fun h9=>⟨Tr.UpTo.one t,by show _=_;rw [take_next HE0.out];simp [h9]⟩
        have HNO:leadsB t e=false→Hid (¬ Tr.Good t):=fun h9 hG=>by
         have:=List.all_eq_true.1 hG.lead e (List.mem_of_getElem? HE0.out)
         rw [h9] at this;cases this
        obtain ⟨lb,hlb⟩:∃ lb,lb=leadsB t e:=⟨_,rfl⟩
        rw [← hlb] at HLD HNX HNO
        clear hlb he hg hE hS1 hmem
        go_upto_region 6 with (fail)
        clear c1
        refine Rg.wp_region_facts (by kernel_rfl) (fun opn=>List.getD [Rg.val (.int .i64 0),Rg.val (.bool false),Rg.val (.bool false),Rg.val (undef),Rg.val (undef),Rg.val (undef),Rg.val (undef),Rg.val (undef),Rg.val (undef),Rg.val (undef),Rg.val (undef),Rg.val (undef),Rg.val (undef),Rg.val (undef),Rg.val (undef),Rg.val (undef),Rg.val (undef),Rg.val (undef),Rg.val (undef),Rg.val (undef),Rg.val (undef),Rg.val (.bool false),Rg.val (.bool false),Rg.val (.pointer (some ⟨p,0,none⟩)),Rg.val (.pointer (some ⟨g,0,none⟩)),Rg.val (.bool lb),Rg.val (.bool (!lb)),Rg.val (.bool (!lb))] opn Rg.any) [] [[],[(0,47)],[(1,48)],[(2,49)],[(2,49),(3,50)],[(2,49),(4,51)],[(2,49),(5,52)],[(2,49),(6,53)],[(2,49)],[(2,49),(8,55)],[(2,49),(9,56)],[(2,49),(10,57)],[(2,49)],[(2,49),(12,59)],[(2,49),(11,58),(13,60)],[(2,49),(14,61)],[(2,49),(15,62)],[(2,49),(16,63)],[(2,49),(17,64)],[(2,49),(18,65)],[(2,49),(7,54),(19,66)],[(2,49),(20,67)],[(21,68)],[(22,69)],[(22,69)],[(22,69),(23,70),(24,71)],[(22,69),(25,72)],[(22,69),(26,73)]] [] (by kernel_rfl) (by rfl) (by kernel_rfl) ?_ ?_
        ·intro fr ha
         have hz:fr.tmps.size=82:=by rw [ha];rfl
         have y0:fr.eval (.tmp 0)=.pointer (some ⟨p,0,none⟩):=by rw [ha];rfl
         have y3:fr.eval (.tmp 3)=.int .i64 0:=by rw [ha];rfl
         have y4:fr.eval (.tmp 4)=.pointer (some ⟨g,0,none⟩):=by rw [ha];rfl
         clear ha
         refine .cons ?_ (.cons ?_ (.cons ?_ (.cons ?_ (.cons ?_ (.cons ?_ (.cons ?_ (.cons ?_ (.cons ?_ (.cons ?_ (.cons ?_ (.cons ?_ (.cons ?_ (.cons ?_ (.cons ?_ (.cons ?_ (.cons ?_ (.cons ?_ (.cons ?_ (.cons ?_ (.cons ?_ (.cons ?_ (.cons ?_ (.cons ?_ (.cons ?_ (.cons ?_ (.cons ?_ (.cons ?_ (.nil))))))))))))))))))))))))))))
         ·intro V w2 HL HH
          have tb3:=(Rg.uE V fr 3 [] (by rw [hz];decide)).trans y3
          show Rg.Dz _ _ V (Rg.pU V [] fr) w2 _
          exact step_mv (.int .i64 0) (by simp only [execOp,tb3];go_simp) rfl rfl rfl True.intro
         ·intro V w2 HL HH
          have h0:V 0=_:=HH.1
          have tb47:=(Rg.uE V fr 47 [(0,47)] (by rw [hz];decide)).trans h0
          show Rg.Dz _ _ V (Rg.pU V [(0,47)] fr) w2 _
          exact step_mv (.bool false) (by simp only [execOp,tb47];go_simp) rfl rfl rfl True.intro
         ·intro V w2 HL HH
          have h1:V 1=_:=HH.1
          have tb48:=(Rg.uE V fr 48 [(1,48)] (by rw [hz];decide)).trans h1
          show Rg.Dz _ _ V (Rg.pU V [(1,48)] fr) w2 _
          exact step_mv (.bool false) (by simp only [execOp,tb48];go_simp) rfl rfl rfl True.intro
         ·intro V w2 HL HH
          have h2:V 2=_:=HH.1
          exact Rg.step_not rfl h2 (Rg.aN rfl _ _) rfl rfl rfl
         ·intro V w2 HL HH
          have h2:V 2=_:=HH.1
          have h3:V 3=_:=HH.2.1
          exact Rg.step_not rfl h2 (Rg.aN rfl _ _) rfl rfl rfl
         ·intro V w2 HL HH
          have h2:V 2=_:=HH.1
          have h4:V 4=_:=HH.2.1
          exact Rg.step_not rfl h2 (Rg.aN rfl _ _) rfl rfl rfl
         ·intro V w2 HL HH
          have h2:V 2=_:=HH.1
          have h5:V 5=_:=HH.2.1
          exact Rg.step_not rfl h2 (Rg.aN rfl _ _) rfl rfl rfl
         ·intro V w2 HL HH
          have h2:V 2=_:=HH.1
          have h6:V 6=_:=HH.2.1
          exact Rg.step_not rfl h2 (Rg.aN rfl _ _) rfl rfl rfl
         ·intro V w2 HL HH
          have h2:V 2=_:=HH.1
          exact Rg.step_not rfl h2 (Rg.aN rfl _ _) rfl rfl rfl
         ·intro V w2 HL HH
          have h2:V 2=_:=HH.1
          have h8:V 8=_:=HH.2.1
          exact Rg.step_not rfl h2 (Rg.aN rfl _ _) rfl rfl rfl
         ·intro V w2 HL HH
          have h2:V 2=_:=HH.1
          have h9:V 9=_:=HH.2.1
          exact Rg.step_not rfl h2 (Rg.aN rfl _ _) rfl rfl rfl
         ·intro V w2 HL HH
          have h2:V 2=_:=HH.1
          have h10:V 10=_:=HH.2.1
          exact Rg.step_not rfl h2 (Rg.aN rfl _ _) rfl rfl rfl
         ·intro V w2 HL HH
          have h2:V 2=_:=HH.1
          exact Rg.step_not rfl h2 (Rg.aN rfl _ _) rfl rfl rfl
         ·intro V w2 HL HH
          have h2:V 2=_:=HH.1
          have h12:V 12=_:=HH.2.1
          exact Rg.step_not rfl h2 (Rg.aN rfl _ _) rfl rfl rfl
         ·intro V w2 HL HH
          have h2:V 2=_:=HH.1
          have h11:V 11=_:=HH.2.1
          have h13:V 13=_:=HH.2.2.1
          exact Rg.step_not rfl h2 (Rg.aN rfl _ _) rfl rfl rfl
         ·intro V w2 HL HH
          have h2:V 2=_:=HH.1
          have h14:V 14=_:=HH.2.1
          exact Rg.step_not rfl h2 (Rg.aN rfl _ _) rfl rfl rfl
         ·intro V w2 HL HH
          have h2:V 2=_:=HH.1
          have h15:V 15=_:=HH.2.1
          exact Rg.step_not rfl h2 (Rg.aN rfl _ _) rfl rfl rfl
         ·intro V w2 HL HH
          have h2:V 2=_:=HH.1
          have h16:V 16=_:=HH.2.1
          exact Rg.step_not rfl h2 (Rg.aN rfl _ _) rfl rfl rfl
         ·intro V w2 HL HH
          have h2:V 2=_:=HH.1
          have h17:V 17=_:=HH.2.1
          exact Rg.step_not rfl h2 (Rg.aN rfl _ _) rfl rfl rfl
         ·intro V w2 HL HH
          have h2:V 2=_:=HH.1
          have h18:V 18=_:=HH.2.1
          exact Rg.step_not rfl h2 (Rg.aN rfl _ _) rfl rfl rfl
         ·intro V w2 HL HH
          have h2:V 2=_:=HH.1
          have h7:V 7=_:=HH.2.1
          have h19:V 19=_:=HH.2.2.1
          exact Rg.step_not rfl h2 (Rg.aN rfl _ _) rfl rfl rfl
         ·intro V w2 HL HH
          have h2:V 2=_:=HH.1
          have h20:V 20=_:=HH.2.1
          have tb49:=(Rg.uE V fr 49 [(2,49),(20,67)] (by rw [hz];decide)).trans h2
          have tb67:=(Rg.uE V fr 67 [(2,49),(20,67)] (by rw [hz];decide)).trans h20
          show Rg.Dz _ _ V (Rg.pU V [(2,49),(20,67)] fr) w2 _
          exact step_mv (.bool false) (by simp only [execOp,tb49,tb67];go_simp) rfl rfl rfl True.intro
         ·intro V w2 HL HH
          have h21:V 21=_:=HH.1
          have tb68:=(Rg.uE V fr 68 [(21,68)] (by rw [hz];decide)).trans h21
          show Rg.Dz _ _ V (Rg.pU V [(21,68)] fr) w2 _
          exact step_mv (.bool false) (by simp only [execOp,tb68];go_simp) rfl rfl rfl True.intro
         ·intro V w2 HL HH
          have h22:V 22=_:=HH.1
          have tb0:=(Rg.uE V fr 0 [(22,69)] (by rw [hz];decide)).trans y0
          show Rg.Dz _ _ V (Rg.pU V [(22,69)] fr) w2 _
          exact step_mv (.pointer (some ⟨p,0,none⟩)) (by simp only [execOp,tb0];go_simp) rfl rfl rfl h22
         ·intro V w2 HL HH
          have h22:V 22=_:=HH.1
          have tb4:=(Rg.uE V fr 4 [(22,69)] (by rw [hz];decide)).trans y4
          show Rg.Dz _ _ V (Rg.pU V [(22,69)] fr) w2 _
          exact step_mv (.pointer (some ⟨g,0,none⟩)) (by simp only [execOp,tb4];go_simp) rfl rfl rfl h22
         ·intro V w2 HL HH
          have HL:Later wr w2:=HL
          have h22:V 22=_:=HH.1
          have h23:V 23=_:=HH.2.1
          have h24:V 24=_:=HH.2.2.1
          have tb70:=(Rg.uE V fr 70 [(22,69),(23,70),(24,71)] (by rw [hz];decide)).trans h23
          have tb71:=(Rg.uE V fr 71 [(22,69),(23,70),(24,71)] (by rw [hz];decide)).trans h24
          show Rg.Dz _ _ V (Rg.pU V [(22,69),(23,70),(24,71)] fr) w2 _
          exact step_num #[.pointer (some ⟨p,0,none⟩),.pointer (some ⟨g,0,none⟩)] (.bool lb) (fun args w=>Rg.call_enter Tryz.func139 (by kernel_rfl) (by kernel_rfl) args w) rfl (by simp only [List.map_toArray,List.map_cons,List.map_nil,tb70,tb71]) rfl rfl rfl h22 (HLD.out w2 HL)
         ·intro V w2 HL HH
          have h22:V 22=_:=HH.1
          have h25:V 25=_:=HH.2.1
          have tb72:=(Rg.uE V fr 72 [(22,69),(25,72)] (by rw [hz];decide)).trans h25
          show Rg.Dz _ _ V (Rg.pU V [(22,69),(25,72)] fr) w2 _
          exact step_mv (.bool (!lb)) (by simp only [execOp,tb72];go_simp) rfl rfl rfl h22
         ·intro V w2 HL HH
          have h22:V 22=_:=HH.1
          have h26:V 26=_:=HH.2.1
          have tb69:=(Rg.uE V fr 69 [(22,69),(26,73)] (by rw [hz];decide)).trans h22
          have tb73:=(Rg.uE V fr 73 [(22,69),(26,73)] (by rw [hz];decide)).trans h26
          show Rg.Dz _ _ V (Rg.pU V [(22,69),(26,73)] fr) w2 _
          exact step_mv (.bool (!lb)) (by simp only [execOp,tb69,tb73];go_simp) rfl rfl rfl True.intro
        ·intro V w2 HI
         have v27:V 27=.bool (!lb):=HI.get 27 (by decide) (by rfl)
         have hlt:=later_drew HI.later
         have HB2:Hid (Below w.heap.size w w2):=HB.out.trans (hlt.mono HB.out.size)
         clear HI hlt
         simp only [Rg.putList,Act.put,List.setIfInBounds_toArray,List.set_cons_zero,List.set_cons_succ,Nat.zero_add,Nat.reduceAdd]
         rw [v27]
         clear v27
         cases lb
         ·have HN:=HNO rfl
          simp only [Bool.not_false]
          go_wp2_with fail
          first|exact HQ.out _ _ (.no HN.out HB2.out)|(go_ret;exact HQ.out _ _ (.no HN.out HB2.out))
         ·obtain ⟨HN1,HN2⟩:=HNX rfl
          simp only [Bool.not_true]
          go_wp2_with fail
          go_roundw
          case rel=>exact ⟨1,_,_,rfl,rfl,by go_num,by omega,HN1.out,HN2.out,HB2.out⟩
          case measure=>simp;omega
       ·obtain ⟨i,rfl⟩:∃ i,j=i+1:=⟨j-1,by omega⟩
        obtain ⟨ep,hep⟩:∃ ep,t[i]?=some ep:=⟨_,List.getElem?_eq_getElem (by rw [← HL.out];omega)⟩
        obtain ⟨gp,Sp,hgp,hEp,hSp⟩:=HT.out.each.get hep
        have HCS:Hid (∀ W,Below w.heap.size w W→W.cell? ⟨p,0,none⟩=some (.slice (some ⟨q,0,none⟩) gs.length c)∧W.cell? ⟨q,i,none⟩=some (.pointer (some ⟨gp,0,none⟩))∧W.cell? ⟨gp,0,none⟩=some (.int .i64 ep.nd.id)∧W.cell? ⟨g,0,none⟩=some (.int .i64 e.nd.id)):=fun W hW =>
         ⟨(HT.out.below hW).box.cell 0,(cell_same (hW.block q hq)).trans (HC.out i _ (by simp [ptrCells,hgp])),(hEp.keep fun b hb=>hW.block b (HT.out.lt (.inr (.inr (hSp b hb))))).cells.1,(hE.keep fun b hb=>hW.block b (HT.out.lt (.inr (.inr (hS1 b hb))))).cells.1⟩
        have HNX:ep.nd.id<e.nd.id→leadsB t e=true→Hid (Tr.UpTo t (i+2))∧Hid ((t.take (i+2)).all (leadsB t)=true):=fun h8 h9=>⟨HUT.out.next fun a b ha hb=>by
         rw [hep] at ha
         rw [HE0.out] at hb
         injection ha with ha
         injection hb with hb
         rw [← ha,← hb];exact h8,by
          show _=_
          rw [take_next HE0.out,List.all_append,HLA.out]
          simp [h9]⟩
        have HNO:(ep.nd.id<e.nd.id∧leadsB t e=true→False)→Hid (¬ Tr.Good t):=fun h9 hG=>h9 ⟨Tr.up_of hG.rise (i+2) i (by omega) ep e hep HE0.out,List.all_eq_true.1 hG.lead e hmem⟩
        obtain ⟨lb,hlb⟩:∃ lb,lb=leadsB t e:=⟨_,rfl⟩
        rw [← hlb] at HLD HNX HNO
        obtain ⟨ia,hia⟩:∃ ia,ia=ep.nd.id:=⟨_,rfl⟩
        obtain ⟨ib,hib⟩:∃ ib,ib=e.nd.id:=⟨_,rfl⟩
        rw [← hia,← hib] at HCS HNX HNO
        have hgt:(0:Int)<(i:Int)+1:=by omega
        have hin:(i:Int)<(gs.length:Int):=by omega
        clear hlb he hg hE hS1 hmem hep hgp hEp hSp hia hib
        by_cases hup:ia<ib
        ·have hle:¬ ib≤ia:=by omega
         have HNX2:=HNX hup
         have HNO2:lb=false→Hid (¬ Tr.Good t):=fun h9=>HNO fun h8=>by rw [h9] at h8;cases h8.2
         clear hup HNX HNO
         go_upto_region 6 with (fail)
         clear c1
         refine Rg.wp_region_facts (by kernel_rfl) (fun opn=>List.getD [Rg.val (.int .i64 ((i:Int)+1)),Rg.val (.bool true),Rg.val (.bool true),Rg.val (.pointer (some ⟨g,0,none⟩)),Rg.val (.pointer (some ⟨g,0,none⟩)),Rg.val (.pointer (some ⟨g,0,none⟩)),Rg.val (.pointer (some ⟨g,0,none⟩)),Rg.val (.int .i64 ib),Rg.val (.pointer (some ⟨p,0,none⟩)),Rg.val (.pointer (some ⟨p,0,none⟩)),Rg.val (.pointer (some ⟨p,0,none⟩)),Rg.val (.slice (some ⟨q,0,none⟩) gs.length c),Rg.val (.int .i64 ((i:Int)+1)),Rg.val (.int .i64 i),Rg.val (.pointer (some ⟨q,i,none⟩)),Rg.val (.pointer (some ⟨gp,0,none⟩)),Rg.val (.pointer (some ⟨gp,0,none⟩)),Rg.val (.pointer (some ⟨gp,0,none⟩)),Rg.val (.pointer (some ⟨gp,0,none⟩)),Rg.val (.int .i64 ia),Rg.val (.bool false),Rg.val (.bool false),Rg.val (.bool false),Rg.val (.pointer (some ⟨p,0,none⟩)),Rg.val (.pointer (some ⟨g,0,none⟩)),Rg.val (.bool lb),Rg.val (.bool (!lb)),Rg.val (.bool (!lb))] opn Rg.any) [] [[],[(0,47)],[(1,48)],[(2,49)],[(2,49),(3,50)],[(2,49),(4,51)],[(2,49),(5,52)],[(2,49),(6,53)],[(2,49)],[(2,49),(8,55)],[(2,49),(9,56)],[(2,49),(10,57)],[(2,49)],[(2,49),(12,59)],[(2,49),(11,58),(13,60)],[(2,49),(14,61)],[(2,49),(15,62)],[(2,49),(16,63)],[(2,49),(17,64)],[(2,49),(18,65)],[(2,49),(7,54),(19,66)],[(2,49),(20,67)],[(21,68)],[(22,69)],[(22,69)],[(22,69),(23,70),(24,71)],[(22,69),(25,72)],[(22,69),(26,73)]] [] (by kernel_rfl) (by rfl) (by kernel_rfl) ?_ ?_
         ·intro fr ha
          have hz:fr.tmps.size=82:=by rw [ha];rfl
          have y0:fr.eval (.tmp 0)=.pointer (some ⟨p,0,none⟩):=by rw [ha];rfl
          have y3:fr.eval (.tmp 3)=.int .i64 ((i:Int)+1):=by rw [ha];rfl
          have y4:fr.eval (.tmp 4)=.pointer (some ⟨g,0,none⟩):=by rw [ha];rfl
          clear ha
          refine .cons ?_ (.cons ?_ (.cons ?_ (.cons ?_ (.cons ?_ (.cons ?_ (.cons ?_ (.cons ?_ (.cons ?_ (.cons ?_ (.cons ?_ (.cons ?_ (.cons ?_ (.cons ?_ (.cons ?_ (.cons ?_ (.cons ?_ (.cons ?_ (.cons ?_ (.cons ?_ (.cons ?_ (.cons ?_ (.cons ?_ (.cons ?_ (.cons ?_ (.cons ?_ (.cons ?_ (.cons ?_ (.nil))))))))))))))))))))))))))))
          ·intro V w2 HL HH
           have tb3:=(Rg.uE V fr 3 [] (by rw [hz];decide)).trans y3
           show Rg.Dz _ _ V (Rg.pU V [] fr) w2 _
           exact step_mv (.int .i64 ((i:Int)+1)) (by simp only [execOp,tb3];go_simp) rfl rfl rfl True.intro
          ·intro V w2 HL HH
           have h0:V 0=_:=HH.1
           have tb47:=(Rg.uE V fr 47 [(0,47)] (by rw [hz];decide)).trans h0
           show Rg.Dz _ _ V (Rg.pU V [(0,47)] fr) w2 _
           exact step_mv (.bool true) (by simp only [execOp,tb47];go_simp) rfl rfl rfl True.intro
          ·intro V w2 HL HH
           have h1:V 1=_:=HH.1
           have tb48:=(Rg.uE V fr 48 [(1,48)] (by rw [hz];decide)).trans h1
           show Rg.Dz _ _ V (Rg.pU V [(1,48)] fr) w2 _
           exact step_mv (.bool true) (by simp only [execOp,tb48];go_simp) rfl rfl rfl True.intro
          ·intro V w2 HL HH
           have h2:V 2=_:=HH.1
           have tb4:=(Rg.uE V fr 4 [(2,49)] (by rw [hz];decide)).trans y4
           show Rg.Dz _ _ V (Rg.pU V [(2,49)] fr) w2 _
           exact step_mv (.pointer (some ⟨g,0,none⟩)) (by simp only [execOp,tb4];go_simp) rfl rfl rfl h2
          ·intro V w2 HL HH
           have h2:V 2=_:=HH.1
           have h3:V 3=_:=HH.2.1
           have tb50:=(Rg.uE V fr 50 [(2,49),(3,50)] (by rw [hz];decide)).trans h3
           show Rg.Dz _ _ V (Rg.pU V [(2,49),(3,50)] fr) w2 _
           exact step_mv (.pointer (some ⟨g,0,none⟩)) (by simp only [execOp,tb50];go_simp) rfl rfl rfl h2
          ·intro V w2 HL HH
           have h2:V 2=_:=HH.1
           have h4:V 4=_:=HH.2.1
           have tb51:=(Rg.uE V fr 51 [(2,49),(4,51)] (by rw [hz];decide)).trans h4
           show Rg.Dz _ _ V (Rg.pU V [(2,49),(4,51)] fr) w2 _
           exact step_mv (.pointer (some ⟨g,0,none⟩)) (by simp only [execOp,tb51];go_simp) rfl rfl rfl h2
          ·intro V w2 HL HH
           have h2:V 2=_:=HH.1
           have h5:V 5=_:=HH.2.1
           have tb52:=(Rg.uE V fr 52 [(2,49),(5,52)] (by rw [hz];decide)).trans h5
           show Rg.Dz _ _ V (Rg.pU V [(2,49),(5,52)] fr) w2 _
           exact step_mv (.pointer (some ⟨g,0,none⟩)) (by simp only [execOp,tb52];go_simp) rfl rfl rfl h2
          ·intro V w2 HL HH
           have HL:Later wr w2:=HL
           have h2:V 2=_:=HH.1
           have h6:V 6=_:=HH.2.1
           have tb53:=(Rg.uE V fr 53 [(2,49),(6,53)] (by rw [hz];decide)).trans h6
           show Rg.Dz _ _ V (Rg.pU V [(2,49),(6,53)] fr) w2 _
           have cl:=(HCS.out _ (HB.out.trans (HL.mono HB.out.size))).2.2.2
           exact step_mv (.int .i64 ib) (by simp only [execOp,tb53];go_simp) rfl rfl rfl h2
          ·intro V w2 HL HH
           have h2:V 2=_:=HH.1
           have tb0:=(Rg.uE V fr 0 [(2,49)] (by rw [hz];decide)).trans y0
           show Rg.Dz _ _ V (Rg.pU V [(2,49)] fr) w2 _
           exact step_mv (.pointer (some ⟨p,0,none⟩)) (by simp only [execOp,tb0];go_simp) rfl rfl rfl h2
          ·intro V w2 HL HH
           have h2:V 2=_:=HH.1
           have h8:V 8=_:=HH.2.1
           have tb55:=(Rg.uE V fr 55 [(2,49),(8,55)] (by rw [hz];decide)).trans h8
           show Rg.Dz _ _ V (Rg.pU V [(2,49),(8,55)] fr) w2 _
           exact step_mv (.pointer (some ⟨p,0,none⟩)) (by simp only [execOp,tb55];go_simp) rfl rfl rfl h2
          ·intro V w2 HL HH
           have h2:V 2=_:=HH.1
           have h9:V 9=_:=HH.2.1
           have tb56:=(Rg.uE V fr 56 [(2,49),(9,56)] (by rw [hz];decide)).trans h9
           show Rg.Dz _ _ V (Rg.pU V [(2,49),(9,56)] fr) w2 _
           exact step_mv (.pointer (some ⟨p,0,none⟩)) (by simp only [execOp,tb56];go_simp) rfl rfl rfl h2
          ·intro V w2 HL HH
           have HL:Later wr w2:=HL
           have h2:V 2=_:=HH.1
           have h10:V 10=_:=HH.2.1
           have tb57:=(Rg.uE V fr 57 [(2,49),(10,57)] (by rw [hz];decide)).trans h10
           show Rg.Dz _ _ V (Rg.pU V [(2,49),(10,57)] fr) w2 _
           have cl:=(HCS.out _ (HB.out.trans (HL.mono HB.out.size))).1
           exact step_mv (.slice (some ⟨q,0,none⟩) gs.length c) (by simp only [execOp,tb57];go_simp) rfl rfl rfl h2
          ·intro V w2 HL HH
           have h2:V 2=_:=HH.1
           have tb3:=(Rg.uE V fr 3 [(2,49)] (by rw [hz];decide)).trans y3
           show Rg.Dz _ _ V (Rg.pU V [(2,49)] fr) w2 _
           exact step_mv (.int .i64 ((i:Int)+1)) (by simp only [execOp,tb3];go_simp) rfl rfl rfl h2
          ·intro V w2 HL HH
           have h2:V 2=_:=HH.1
           have h12:V 12=_:=HH.2.1
           have tb59:=(Rg.uE V fr 59 [(2,49),(12,59)] (by rw [hz];decide)).trans h12
           show Rg.Dz _ _ V (Rg.pU V [(2,49),(12,59)] fr) w2 _
           have hwr:IntKind.i64.wrap (i:Int)=(i:Int):=IntWalk.i64_in _ (by omega)
           exact step_mv (.int .i64 i) (by simp only [execOp,tb59];go_simp) rfl rfl rfl h2
          ·intro V w2 HL HH
           have h2:V 2=_:=HH.1
           have h11:V 11=_:=HH.2.1
           have h13:V 13=_:=HH.2.2.1
           have tb58:=(Rg.uE V fr 58 [(2,49),(11,58),(13,60)] (by rw [hz];decide)).trans h11
           have tb60:=(Rg.uE V fr 60 [(2,49),(11,58),(13,60)] (by rw [hz];decide)).trans h13
           show Rg.Dz _ _ V (Rg.pU V [(2,49),(11,58),(13,60)] fr) w2 _
           exact step_mv (.pointer (some ⟨q,i,none⟩)) (by simp only [execOp,tb58,tb60];go_simp) rfl rfl rfl h2
          ·intro V w2 HL HH
           have HL:Later wr w2:=HL
           have h2:V 2=_:=HH.1
           have h14:V 14=_:=HH.2.1
           have tb61:=(Rg.uE V fr 61 [(2,49),(14,61)] (by rw [hz];decide)).trans h14
           show Rg.Dz _ _ V (Rg.pU V [(2,49),(14,61)] fr) w2 _
           have cl:=(HCS.out _ (HB.out.trans (HL.mono HB.out.size))).2.1
           exact step_mv (.pointer (some ⟨gp,0,none⟩)) (by simp only [execOp,tb61];go_simp) rfl rfl rfl h2
          ·intro V w2 HL HH
           have h2:V 2=_:=HH.1
           have h15:V 15=_:=HH.2.1
           have tb62:=(Rg.uE V fr 62 [(2,49),(15,62)] (by rw [hz];decide)).trans h15
           show Rg.Dz _ _ V (Rg.pU V [(2,49),(15,62)] fr) w2 _
           exact step_mv (.pointer (some ⟨gp,0,none⟩)) (by simp only [execOp,tb62];go_simp) rfl rfl rfl h2
          ·intro V w2 HL HH
           have h2:V 2=_:=HH.1
           have h16:V 16=_:=HH.2.1
           have tb63:=(Rg.uE V fr 63 [(2,49),(16,63)] (by rw [hz];decide)).trans h16
           show Rg.Dz _ _ V (Rg.pU V [(2,49),(16,63)] fr) w2 _
           exact step_mv (.pointer (some ⟨gp,0,none⟩)) (by simp only [execOp,tb63];go_simp) rfl rfl rfl h2
          ·intro V w2 HL HH
           have h2:V 2=_:=HH.1
           have h17:V 17=_:=HH.2.1
           have tb64:=(Rg.uE V fr 64 [(2,49),(17,64)] (by rw [hz];decide)).trans h17
           show Rg.Dz _ _ V (Rg.pU V [(2,49),(17,64)] fr) w2 _
           exact step_mv (.pointer (some ⟨gp,0,none⟩)) (by simp only [execOp,tb64];go_simp) rfl rfl rfl h2
          ·intro V w2 HL HH
           have HL:Later wr w2:=HL
           have h2:V 2=_:=HH.1
           have h18:V 18=_:=HH.2.1
           have tb65:=(Rg.uE V fr 65 [(2,49),(18,65)] (by rw [hz];decide)).trans h18
           show Rg.Dz _ _ V (Rg.pU V [(2,49),(18,65)] fr) w2 _
           have cl:=(HCS.out _ (HB.out.trans (HL.mono HB.out.size))).2.2.1
           exact step_mv (.int .i64 ia) (by simp only [execOp,tb65];go_simp) rfl rfl rfl h2
          ·intro V w2 HL HH
           have h2:V 2=_:=HH.1
           have h7:V 7=_:=HH.2.1
           have h19:V 19=_:=HH.2.2.1
           have tb54:=(Rg.uE V fr 54 [(2,49),(7,54),(19,66)] (by rw [hz];decide)).trans h7
           have tb66:=(Rg.uE V fr 66 [(2,49),(7,54),(19,66)] (by rw [hz];decide)).trans h19
           show Rg.Dz _ _ V (Rg.pU V [(2,49),(7,54),(19,66)] fr) w2 _
           exact step_mv (.bool false) (by simp only [execOp,tb54,tb66];go_simp) rfl rfl rfl h2
          ·intro V w2 HL HH
           have h2:V 2=_:=HH.1
           have h20:V 20=_:=HH.2.1
           have tb49:=(Rg.uE V fr 49 [(2,49),(20,67)] (by rw [hz];decide)).trans h2
           have tb67:=(Rg.uE V fr 67 [(2,49),(20,67)] (by rw [hz];decide)).trans h20
           show Rg.Dz _ _ V (Rg.pU V [(2,49),(20,67)] fr) w2 _
           exact step_mv (.bool false) (by simp only [execOp,tb49,tb67];go_simp) rfl rfl rfl True.intro
          ·intro V w2 HL HH
           have h21:V 21=_:=HH.1
           have tb68:=(Rg.uE V fr 68 [(21,68)] (by rw [hz];decide)).trans h21
           show Rg.Dz _ _ V (Rg.pU V [(21,68)] fr) w2 _
           exact step_mv (.bool false) (by simp only [execOp,tb68];go_simp) rfl rfl rfl True.intro
          ·intro V w2 HL HH
           have h22:V 22=_:=HH.1
           have tb0:=(Rg.uE V fr 0 [(22,69)] (by rw [hz];decide)).trans y0
           show Rg.Dz _ _ V (Rg.pU V [(22,69)] fr) w2 _
           exact step_mv (.pointer (some ⟨p,0,none⟩)) (by simp only [execOp,tb0];go_simp) rfl rfl rfl h22
          ·intro V w2 HL HH
           have h22:V 22=_:=HH.1
           have tb4:=(Rg.uE V fr 4 [(22,69)] (by rw [hz];decide)).trans y4
           show Rg.Dz _ _ V (Rg.pU V [(22,69)] fr) w2 _
           exact step_mv (.pointer (some ⟨g,0,none⟩)) (by simp only [execOp,tb4];go_simp) rfl rfl rfl h22
          ·intro V w2 HL HH
           have HL:Later wr w2:=HL
           have h22:V 22=_:=HH.1
           have h23:V 23=_:=HH.2.1
           have h24:V 24=_:=HH.2.2.1
           have tb70:=(Rg.uE V fr 70 [(22,69),(23,70),(24,71)] (by rw [hz];decide)).trans h23
           have tb71:=(Rg.uE V fr 71 [(22,69),(23,70),(24,71)] (by rw [hz];decide)).trans h24
           show Rg.Dz _ _ V (Rg.pU V [(22,69),(23,70),(24,71)] fr) w2 _
           exact step_num #[.pointer (some ⟨p,0,none⟩),.pointer (some ⟨g,0,none⟩)] (.bool lb) (fun args w=>Rg.call_enter Tryz.func139 (by kernel_rfl) (by kernel_rfl) args w) rfl (by simp only [List.map_toArray,List.map_cons,List.map_nil,tb70,tb71]) rfl rfl rfl h22 (HLD.out w2 HL)
          ·intro V w2 HL HH
           have h22:V 22=_:=HH.1
           have h25:V 25=_:=HH.2.1
           have tb72:=(Rg.uE V fr 72 [(22,69),(25,72)] (by rw [hz];decide)).trans h25
           show Rg.Dz _ _ V (Rg.pU V [(22,69),(25,72)] fr) w2 _
           exact step_mv (.bool (!lb)) (by simp only [execOp,tb72];go_simp) rfl rfl rfl h22
          ·intro V w2 HL HH
           have h22:V 22=_:=HH.1
           have h26:V 26=_:=HH.2.1
           have tb69:=(Rg.uE V fr 69 [(22,69),(26,73)] (by rw [hz];decide)).trans h22
           have tb73:=(Rg.uE V fr 73 [(22,69),(26,73)] (by rw [hz];decide)).trans h26
           show Rg.Dz _ _ V (Rg.pU V [(22,69),(26,73)] fr) w2 _
           exact step_mv (.bool (!lb)) (by simp only [execOp,tb69,tb73];go_simp) rfl rfl rfl True.intro
         ·intro V w2 HI
          have v27:V 27=.bool (!lb):=HI.get 27 (by decide) (by rfl)
          have hlt:=later_drew HI.later
          have HB2:Hid (Below w.heap.size w w2):=HB.out.trans (hlt.mono HB.out.size)
          clear HI hlt
          simp only [Rg.putList,Act.put,List.setIfInBounds_toArray,List.set_cons_zero,List.set_cons_succ,Nat.zero_add,Nat.reduceAdd]
          rw [v27]
          clear v27
          cases lb
          ·have HN:=HNO2 rfl
           simp only [Bool.not_false]
           go_wp2_with fail
           first|exact HQ.out _ _ (.no HN.out HB2.out)|(go_ret;exact HQ.out _ _ (.no HN.out HB2.out))
          ·obtain ⟨HN1,HN2⟩:=HNX2 rfl
           simp only [Bool.not_true]
           go_wp2_with fail
           go_roundw
           case rel=>exact ⟨i+2,_,_,rfl,rfl,by go_num,by omega,HN1.out,HN2.out,HB2.out⟩
           case measure=>simp;omega
        ·have hle:ib≤ia:=by omega
         have HN:Hid (¬ Tr.Good t):=HNO fun h8=>hup h8.1
         clear hup HNX HNO
         go_upto_region 6 with (fail)
         clear c1
         refine Rg.wp_region_facts (by kernel_rfl) (fun opn=>List.getD [Rg.val (.int .i64 ((i:Int)+1)),Rg.val (.bool true),Rg.val (.bool true),Rg.val (.pointer (some ⟨g,0,none⟩)),Rg.val (.pointer (some ⟨g,0,none⟩)),Rg.val (.pointer (some ⟨g,0,none⟩)),Rg.val (.pointer (some ⟨g,0,none⟩)),Rg.val (.int .i64 ib),Rg.val (.pointer (some ⟨p,0,none⟩)),Rg.val (.pointer (some ⟨p,0,none⟩)),Rg.val (.pointer (some ⟨p,0,none⟩)),Rg.val (.slice (some ⟨q,0,none⟩) gs.length c),Rg.val (.int .i64 ((i:Int)+1)),Rg.val (.int .i64 i),Rg.val (.pointer (some ⟨q,i,none⟩)),Rg.val (.pointer (some ⟨gp,0,none⟩)),Rg.val (.pointer (some ⟨gp,0,none⟩)),Rg.val (.pointer (some ⟨gp,0,none⟩)),Rg.val (.pointer (some ⟨gp,0,none⟩)),Rg.val (.int .i64 ia),Rg.val (.bool true),Rg.val (.bool true),Rg.val (.bool true),Rg.val (undef),Rg.val (undef),Rg.val (undef),Rg.val (undef),Rg.val (.bool true)] opn Rg.any) [] [[],[(0,47)],[(1,48)],[(2,49)],[(2,49),(3,50)],[(2,49),(4,51)],[(2,49),(5,52)],[(2,49),(6,53)],[(2,49)],[(2,49),(8,55)],[(2,49),(9,56)],[(2,49),(10,57)],[(2,49)],[(2,49),(12,59)],[(2,49),(11,58),(13,60)],[(2,49),(14,61)],[(2,49),(15,62)],[(2,49),(16,63)],[(2,49),(17,64)],[(2,49),(18,65)],[(2,49),(7,54),(19,66)],[(2,49),(20,67)],[(21,68)],[(22,69)],[(22,69)],[(22,69),(23,70),(24,71)],[(22,69),(25,72)],[(22,69),(26,73)]] [] (by kernel_rfl) (by rfl) (by kernel_rfl) ?_ ?_
         ·intro fr ha
          have hz:fr.tmps.size=82:=by rw [ha];rfl
          have y0:fr.eval (.tmp 0)=.pointer (some ⟨p,0,none⟩):=by rw [ha];rfl
          have y3:fr.eval (.tmp 3)=.int .i64 ((i:Int)+1):=by rw [ha];rfl
          have y4:fr.eval (.tmp 4)=.pointer (some ⟨g,0,none⟩):=by rw [ha];rfl
          clear ha
          refine .cons ?_ (.cons ?_ (.cons ?_ (.cons ?_ (.cons ?_ (.cons ?_ (.cons ?_ (.cons ?_ (.cons ?_ (.cons ?_ (.cons ?_ (.cons ?_ (.cons ?_ (.cons ?_ (.cons ?_ (.cons ?_ (.cons ?_ (.cons ?_ (.cons ?_ (.cons ?_ (.cons ?_ (.cons ?_ (.cons ?_ (.cons ?_ (.cons ?_ (.cons ?_ (.cons ?_ (.cons ?_ (.nil))))))))))))))))))))))))))))
          ·intro V w2 HL HH
           have tb3:=(Rg.uE V fr 3 [] (by rw [hz];decide)).trans y3
           show Rg.Dz _ _ V (Rg.pU V [] fr) w2 _
           exact step_mv (.int .i64 ((i:Int)+1)) (by simp only [execOp,tb3];go_simp) rfl rfl rfl True.intro
          ·intro V w2 HL HH
           have h0:V 0=_:=HH.1
           have tb47:=(Rg.uE V fr 47 [(0,47)] (by rw [hz];decide)).trans h0
           show Rg.Dz _ _ V (Rg.pU V [(0,47)] fr) w2 _
           exact step_mv (.bool true) (by simp only [execOp,tb47];go_simp) rfl rfl rfl True.intro
          ·intro V w2 HL HH
           have h1:V 1=_:=HH.1
           have tb48:=(Rg.uE V fr 48 [(1,48)] (by rw [hz];decide)).trans h1
           show Rg.Dz _ _ V (Rg.pU V [(1,48)] fr) w2 _
           exact step_mv (.bool true) (by simp only [execOp,tb48];go_simp) rfl rfl rfl True.intro
          ·intro V w2 HL HH
           have h2:V 2=_:=HH.1
           have tb4:=(Rg.uE V fr 4 [(2,49)] (by rw [hz];decide)).trans y4
           show Rg.Dz _ _ V (Rg.pU V [(2,49)] fr) w2 _
           exact step_mv (.pointer (some ⟨g,0,none⟩)) (by simp only [execOp,tb4];go_simp) rfl rfl rfl h2
          ·intro V w2 HL HH
           have h2:V 2=_:=HH.1
           have h3:V 3=_:=HH.2.1
           have tb50:=(Rg.uE V fr 50 [(2,49),(3,50)] (by rw [hz];decide)).trans h3
           show Rg.Dz _ _ V (Rg.pU V [(2,49),(3,50)] fr) w2 _
           exact step_mv (.pointer (some ⟨g,0,none⟩)) (by simp only [execOp,tb50];go_simp) rfl rfl rfl h2
          ·intro V w2 HL HH
           have h2:V 2=_:=HH.1
           have h4:V 4=_:=HH.2.1
           have tb51:=(Rg.uE V fr 51 [(2,49),(4,51)] (by rw [hz];decide)).trans h4
           show Rg.Dz _ _ V (Rg.pU V [(2,49),(4,51)] fr) w2 _
           exact step_mv (.pointer (some ⟨g,0,none⟩)) (by simp only [execOp,tb51];go_simp) rfl rfl rfl h2
          ·intro V w2 HL HH
           have h2:V 2=_:=HH.1
           have h5:V 5=_:=HH.2.1
           have tb52:=(Rg.uE V fr 52 [(2,49),(5,52)] (by rw [hz];decide)).trans h5
           show Rg.Dz _ _ V (Rg.pU V [(2,49),(5,52)] fr) w2 _
           exact step_mv (.pointer (some ⟨g,0,none⟩)) (by simp only [execOp,tb52];go_simp) rfl rfl rfl h2
          ·intro V w2 HL HH
           have HL:Later wr w2:=HL
           have h2:V 2=_:=HH.1
           have h6:V 6=_:=HH.2.1
           have tb53:=(Rg.uE V fr 53 [(2,49),(6,53)] (by rw [hz];decide)).trans h6
           show Rg.Dz _ _ V (Rg.pU V [(2,49),(6,53)] fr) w2 _
           have cl:=(HCS.out _ (HB.out.trans (HL.mono HB.out.size))).2.2.2
           exact step_mv (.int .i64 ib) (by simp only [execOp,tb53];go_simp) rfl rfl rfl h2
          ·intro V w2 HL HH
           have h2:V 2=_:=HH.1
           have tb0:=(Rg.uE V fr 0 [(2,49)] (by rw [hz];decide)).trans y0
           show Rg.Dz _ _ V (Rg.pU V [(2,49)] fr) w2 _
           exact step_mv (.pointer (some ⟨p,0,none⟩)) (by simp only [execOp,tb0];go_simp) rfl rfl rfl h2
          ·intro V w2 HL HH
           have h2:V 2=_:=HH.1
           have h8:V 8=_:=HH.2.1
           have tb55:=(Rg.uE V fr 55 [(2,49),(8,55)] (by rw [hz];decide)).trans h8
           show Rg.Dz _ _ V (Rg.pU V [(2,49),(8,55)] fr) w2 _
           exact step_mv (.pointer (some ⟨p,0,none⟩)) (by simp only [execOp,tb55];go_simp) rfl rfl rfl h2
          ·intro V w2 HL HH
           have h2:V 2=_:=HH.1
           have h9:V 9=_:=HH.2.1
           have tb56:=(Rg.uE V fr 56 [(2,49),(9,56)] (by rw [hz];decide)).trans h9
           show Rg.Dz _ _ V (Rg.pU V [(2,49),(9,56)] fr) w2 _
           exact step_mv (.pointer (some ⟨p,0,none⟩)) (by simp only [execOp,tb56];go_simp) rfl rfl rfl h2
          ·intro V w2 HL HH
           have HL:Later wr w2:=HL
           have h2:V 2=_:=HH.1
           have h10:V 10=_:=HH.2.1
           have tb57:=(Rg.uE V fr 57 [(2,49),(10,57)] (by rw [hz];decide)).trans h10
           show Rg.Dz _ _ V (Rg.pU V [(2,49),(10,57)] fr) w2 _
           have cl:=(HCS.out _ (HB.out.trans (HL.mono HB.out.size))).1
           exact step_mv (.slice (some ⟨q,0,none⟩) gs.length c) (by simp only [execOp,tb57];go_simp) rfl rfl rfl h2
          ·intro V w2 HL HH
           have h2:V 2=_:=HH.1
           have tb3:=(Rg.uE V fr 3 [(2,49)] (by rw [hz];decide)).trans y3
           show Rg.Dz _ _ V (Rg.pU V [(2,49)] fr) w2 _
           exact step_mv (.int .i64 ((i:Int)+1)) (by simp only [execOp,tb3];go_simp) rfl rfl rfl h2
          ·intro V w2 HL HH
           have h2:V 2=_:=HH.1
           have h12:V 12=_:=HH.2.1
           have tb59:=(Rg.uE V fr 59 [(2,49),(12,59)] (by rw [hz];decide)).trans h12
           show Rg.Dz _ _ V (Rg.pU V [(2,49),(12,59)] fr) w2 _
           have hwr:IntKind.i64.wrap (i:Int)=(i:Int):=IntWalk.i64_in _ (by omega)
           exact step_mv (.int .i64 i) (by simp only [execOp,tb59];go_simp) rfl rfl rfl h2
          ·intro V w2 HL HH
           have h2:V 2=_:=HH.1
           have h11:V 11=_:=HH.2.1
           have h13:V 13=_:=HH.2.2.1
           have tb58:=(Rg.uE V fr 58 [(2,49),(11,58),(13,60)] (by rw [hz];decide)).trans h11
           have tb60:=(Rg.uE V fr 60 [(2,49),(11,58),(13,60)] (by rw [hz];decide)).trans h13
           show Rg.Dz _ _ V (Rg.pU V [(2,49),(11,58),(13,60)] fr) w2 _
           exact step_mv (.pointer (some ⟨q,i,none⟩)) (by simp only [execOp,tb58,tb60];go_simp) rfl rfl rfl h2
          ·intro V w2 HL HH
           have HL:Later wr w2:=HL
           have h2:V 2=_:=HH.1
           have h14:V 14=_:=HH.2.1
           have tb61:=(Rg.uE V fr 61 [(2,49),(14,61)] (by rw [hz];decide)).trans h14
           show Rg.Dz _ _ V (Rg.pU V [(2,49),(14,61)] fr) w2 _
           have cl:=(HCS.out _ (HB.out.trans (HL.mono HB.out.size))).2.1
           exact step_mv (.pointer (some ⟨gp,0,none⟩)) (by simp only [execOp,tb61];go_simp) rfl rfl rfl h2
          ·intro V w2 HL HH
           have h2:V 2=_:=HH.1
           have h15:V 15=_:=HH.2.1
           have tb62:=(Rg.uE V fr 62 [(2,49),(15,62)] (by rw [hz];decide)).trans h15
           show Rg.Dz _ _ V (Rg.pU V [(2,49),(15,62)] fr) w2 _
           exact step_mv (.pointer (some ⟨gp,0,none⟩)) (by simp only [execOp,tb62];go_simp) rfl rfl rfl h2
          ·intro V w2 HL HH
           have h2:V 2=_:=HH.1
           have h16:V 16=_:=HH.2.1
           have tb63:=(Rg.uE V fr 63 [(2,49),(16,63)] (by rw [hz];decide)).trans h16
           show Rg.Dz _ _ V (Rg.pU V [(2,49),(16,63)] fr) w2 _
           exact step_mv (.pointer (some ⟨gp,0,none⟩)) (by simp only [execOp,tb63];go_simp) rfl rfl rfl h2
          ·intro V w2 HL HH
           have h2:V 2=_:=HH.1
           have h17:V 17=_:=HH.2.1
           have tb64:=(Rg.uE V fr 64 [(2,49),(17,64)] (by rw [hz];decide)).trans h17
           show Rg.Dz _ _ V (Rg.pU V [(2,49),(17,64)] fr) w2 _
           exact step_mv (.pointer (some ⟨gp,0,none⟩)) (by simp only [execOp,tb64];go_simp) rfl rfl rfl h2
          ·intro V w2 HL HH
           have HL:Later wr w2:=HL
           have h2:V 2=_:=HH.1
           have h18:V 18=_:=HH.2.1
           have tb65:=(Rg.uE V fr 65 [(2,49),(18,65)] (by rw [hz];decide)).trans h18
           show Rg.Dz _ _ V (Rg.pU V [(2,49),(18,65)] fr) w2 _
           have cl:=(HCS.out _ (HB.out.trans (HL.mono HB.out.size))).2.2.1
           exact step_mv (.int .i64 ia) (by simp only [execOp,tb65];go_simp) rfl rfl rfl h2
          ·intro V w2 HL HH
           have h2:V 2=_:=HH.1
           have h7:V 7=_:=HH.2.1
           have h19:V 19=_:=HH.2.2.1
           have tb54:=(Rg.uE V fr 54 [(2,49),(7,54),(19,66)] (by rw [hz];decide)).trans h7
           have tb66:=(Rg.uE V fr 66 [(2,49),(7,54),(19,66)] (by rw [hz];decide)).trans h19
           show Rg.Dz _ _ V (Rg.pU V [(2,49),(7,54),(19,66)] fr) w2 _
           exact step_mv (.bool true) (by simp only [execOp,tb54,tb66];go_simp) rfl rfl rfl h2
          ·intro V w2 HL HH
           have h2:V 2=_:=HH.1
           have h20:V 20=_:=HH.2.1
           have tb49:=(Rg.uE V fr 49 [(2,49),(20,67)] (by rw [hz];decide)).trans h2
           have tb67:=(Rg.uE V fr 67 [(2,49),(20,67)] (by rw [hz];decide)).trans h20
           show Rg.Dz _ _ V (Rg.pU V [(2,49),(20,67)] fr) w2 _
           exact step_mv (.bool true) (by simp only [execOp,tb49,tb67];go_simp) rfl rfl rfl True.intro
          ·intro V w2 HL HH
           have h21:V 21=_:=HH.1
           have tb68:=(Rg.uE V fr 68 [(21,68)] (by rw [hz];decide)).trans h21
           show Rg.Dz _ _ V (Rg.pU V [(21,68)] fr) w2 _
           exact step_mv (.bool true) (by simp only [execOp,tb68];go_simp) rfl rfl rfl True.intro
          ·intro V w2 HL HH
           have h22:V 22=_:=HH.1
           exact Rg.step_not rfl h22 (Rg.aN rfl _ _) rfl rfl rfl
          ·intro V w2 HL HH
           have h22:V 22=_:=HH.1
           exact Rg.step_not rfl h22 (Rg.aN rfl _ _) rfl rfl rfl
          ·intro V w2 HL HH
           have h22:V 22=_:=HH.1
           have h23:V 23=_:=HH.2.1
           have h24:V 24=_:=HH.2.2.1
           exact Rg.step_not rfl h22 (Rg.aN rfl _ _) rfl rfl rfl
          ·intro V w2 HL HH
           have h22:V 22=_:=HH.1
           have h25:V 25=_:=HH.2.1
           exact Rg.step_not rfl h22 (Rg.aN rfl _ _) rfl rfl rfl
          ·intro V w2 HL HH
           have h22:V 22=_:=HH.1
           have h26:V 26=_:=HH.2.1
           have tb69:=(Rg.uE V fr 69 [(22,69),(26,73)] (by rw [hz];decide)).trans h22
           have tb73:=(Rg.uE V fr 73 [(22,69),(26,73)] (by rw [hz];decide)).trans h26
           show Rg.Dz _ _ V (Rg.pU V [(22,69),(26,73)] fr) w2 _
           exact step_mv (.bool true) (by simp only [execOp,tb69,tb73];go_simp) rfl rfl rfl True.intro
         ·intro V w2 HI
          have v27:V 27=.bool true:=HI.get 27 (by decide) (by rfl)
          have hlt:=later_drew HI.later
          have HB2:Hid (Below w.heap.size w w2):=HB.out.trans (hlt.mono HB.out.size)
          clear HI hlt
          simp only [Rg.putList,Act.put,List.setIfInBounds_toArray,List.set_cons_zero,List.set_cons_succ,Nat.zero_add,Nat.reduceAdd]
          rw [v27]
          clear v27
          go_wp2_with fail
          first|exact HQ.out _ _ (.no HN.out HB2.out)|(go_ret;exact HQ.out _ _ (.no HN.out HB2.out))
      ·obtain rfl:j=gs.length:=by omega
       have HALL:Hid (Tr.UpTo t t.length∧t.all (leadsB t)=true):=by
        have h1:=HUT.out
        have h2:=HLA.out
        rw [show gs.length=t.length from HL.out] at h1 h2
        rw [List.take_length] at h2
        exact ⟨h1,h2⟩
       have hne:t≠[]:=by
        intro h9
        have h1:gs.length=t.length:=HL.out
        rw [h9] at h1
        have h2:gs.length=0:=h1
        have h3:0<gs.length:=HPOS.out
        omega
       have HLK:=Lib.hid (linked_any (HT.out.below HB.out) hne (by have:=HL.out;omega) (fun e he=>by have:=(HRW.out e he).1;exact ⟨this.1,this.2.1⟩) (fun e he=>⟨(HRW.out e he).2.2.1,fun n hn=>by
        obtain ⟨_,k,h1,h2⟩:=(HRW.out e he).2.2.2.2 n hn
        rw [h1];omega⟩))
       have HHF:t.all (linkB t)=true→Hid (Tr.Half t):=fun h9=>Tr.half_of HRW.out (by have:=HL.out;omega) HHEAD.out HALL.out.1 HALL.out.2 h9
       have HNL:t.all (linkB t)=false→Hid (¬ Tr.Good t):=fun h9 hG=>by
        have:=hG.link_
        rw [h9] at this;cases this
       obtain ⟨kb,hkb⟩:∃ kb,kb=t.all (linkB t):=⟨_,rfl⟩
       rw [← hkb] at HLK HHF HNL
       clear hkb hne
       go_wp2_with fail
       refine HLK.out.mono ?_
       rintro r w5 ⟨rfl,hb5⟩
       have HB5:Hid (Below w.heap.size w w5):=HB.out.trans (hb5.mono HB.out.size)
       clear hb5 HLK
       cases kb
       ·have HN:=HNL rfl
        go_wp2_with fail
        first|exact HQ.out _ _ (.no HN.out HB5.out)|(go_ret;exact HQ.out _ _ (.no HN.out HB5.out))
       ·have HH:=HHF rfl
        have HJ:=Lib.hid (joined_any (HT.out.below HB5.out) HH.out)
        have HRES:Hid ((decide (Tr.found t=Tr.dirCount t)&&decide (Tr.most (Tr.paths t) 0≤8))=true↔Tr.Good t):=by
         show _↔_
         simp only [Bool.and_eq_true,decide_eq_true_eq]
         exact ⟨fun h9=>HH.out.good h9.1 h9.2,fun hG=>hG.joined⟩
        obtain ⟨jb,hjb⟩:∃ jb,jb=(decide (Tr.found t=Tr.dirCount t)&&decide (Tr.most (Tr.paths t) 0≤8)):=⟨_,rfl⟩
        rw [← hjb] at HJ HRES
        clear hjb HHF HNL
        go_wp2_with fail
        refine HJ.out.mono ?_
        rintro r w6 ⟨rfl,hb6⟩
        have HB6:Hid (Below w.heap.size w w6):=HB5.out.trans (hb6.mono HB5.out.size)
        clear hb6 HJ
        go_wp2_with fail
        first|exact HQ.out _ _ ⟨jb,rfl,HRES.out,HB6.out⟩|(go_ret;exact HQ.out _ _ ⟨jb,rfl,HRES.out,HB6.out⟩)
    ·have HN:Hid (¬ Tr.Good (e0 :: rest)):=fun hG=>by
      have:=hG.head
      unfold Tr.headB at this
      simp [hkd] at this
     rw [hid] at f0
     have hb:(e0.nd.kind==2)=false:=by simpa using hkd
     clear hid hkd
     go_enter Tryz.func101,Tryz.ntmps101
     go_wp2_with fail
     all_goals first
      | exact HQ.out _ _ (.no HN.out (Below.refl _ _))
      | (exfalso;rename_i hz9;rw [hz9] at hb;exact absurd hb (by decide))
      | (go_ret;exact HQ.out _ _ (.no HN.out (Below.refl _ _)))
   ·have HN:Hid (¬ Tr.Good (e0 :: rest)):=fun hG=>by
     have:=hG.head
     unfold Tr.headB at this
     simp [hid] at this
    have hb:(e0.nd.id==0)=false:=by simpa using hid
    clear hid
    go_enter Tryz.func101,Tryz.ntmps101
    go_wp2_with fail
    all_goals first
     | exact HQ.out _ _ (.no HN.out (Below.refl _ _))
     | (exfalso;rename_i hz9;rw [hz9] at hb;exact absurd hb (by decide))
     | (go_ret;exact HQ.out _ _ (.no HN.out (Below.refl _ _)))
theorem right_any (h:TIn p av gs S t w) (hr:Tr.Raw t) (h64:t.length≤64):Calls Tryz.prog 101 #[.pointer (some ⟨p,0,none⟩)] w (RightOut t w):=right_to (fun _ _ h=>h) h hr h64
end Tm
end Go.Proofs.YtjoedamiilgajaaGreat
namespace Go.Proofs.YtjoedamiilgajaaGreat
open Go.RowKit Rc
structure RrIn (g:Nat) (X:Option Addr) (cap:Nat) (r:List UInt8) (why:Nat) (w:World):Prop where
 blk:Blk w g 174 [.slice X r.length cap,.int .i64 (why:Nat)]
 fits:r.length≤cap
 small:r.length≤140737488355328
 rd:Rd w X r
 off:∀ b,X.map (·.block)=some b→b≠g∧b<w.heap.size
def RrS (g:Nat) (X:Option Addr):Nat→Prop:=fun b=>b=g∨X.map (·.block)=some b
def RrAt (v:Value) (s:Co.Rs) (S:Nat→Prop) (w:World):Prop :=
 ∃ g X cap r,v=.pointer (some ⟨g,0,none⟩)∧RrIn g X cap r s.why w∧r=(if s.why=0 then s.rem else [])∧s.why≤1000∧S=RrS g X
def TakeOut (g:Nat) (X:Option Addr) (n:Int) (s:Co.Rs) (w:World) (e:Ending) (w':World):Prop :=
 ∃ X1 l c1 X2 r2 c2,e=.returned (.slice X1 (List.length l) c1)∧l=(Co.raw n s).1∧l.length≤c1∧Rd w' X1 l∧RrIn g X2 c2 r2 (Co.raw n s).2.why w'∧r2=(if (Co.raw n s).2.why=0 then (Co.raw n s).2.rem else []) ∧
  (∀ b,X2.map (·.block)=some b→X.map (·.block)=some b)∧(∀ b,0<l.length→X1.map (·.block)=some b→X.map (·.block)=some b)∧Keeps w w' g
theorem refuse_any {g:Nat} {X:Option Addr} {cap:Nat} {r:List UInt8} {why:Nat} {w:World} (h:RrIn g X cap r why w) (y:Nat) (_hy:y≤1000) :
    Calls Tryz.prog 177 #[.pointer (some ⟨g,0,none⟩),.int .i64 (y:Nat)] w fun e w'=>e=.returned (.tuple #[])∧RrIn g none 0 [] (if why=0 then y else why) w'∧Keeps w w' g:=by
 have c1:w.cell? ⟨g,1,none⟩=some (.int .i64 (why:Nat)):=h.blk.cell 1
 have c0:w.cell? ⟨g,0,none⟩=some (.slice X r.length cap):=h.blk.cell 0
 have f0:=h.blk.frozen 0
 have f1:=h.blk.frozen 1
 have HB:=Lib.hid h.blk
 clear h
 by_cases h1:why=0
 ·subst h1
  go_enter Tryz.func177,Tryz.ntmps177
  go_wp2_with fail
  go_end0
  exact ⟨rfl,⟨(HB.out.set_ 1 _).set_ 0 _,by simp,by simp,Rd.nil _ _,by simp⟩,((Keeps.refl _ _).setCell _ _).setCell _ _⟩
 ·have hw:((why:Nat):Int)≠0:=by omega
  go_enter Tryz.func177,Tryz.ntmps177
  go_wp2_with fail
  go_end0
  exact ⟨rfl,⟨HB.out.set_ 0 _,by simp,by simp,Rd.nil _ _,by simp⟩,(Keeps.refl _ _).setCell _ _⟩
set_option maxRecDepth 100000 in
theorem take_any {g:Nat} {X:Option Addr} {cap:Nat} {r:List UInt8} {s:Co.Rs} {w:World} (h:RrIn g X cap r s.why w) (hr:r=if s.why=0 then s.rem else []) (n:Int) (hn:n≤140737488355328) (hn0:-140737488355328≤n) :
    Calls Tryz.prog 163 #[.pointer (some ⟨g,0,none⟩),.int .i64 n] w (TakeOut g X n s w):=by
 have H:=Lib.hid h
 have HRR:=Lib.hid hr
 have c0:w.cell? ⟨g,0,none⟩=some (.slice X r.length cap):=h.blk.cell 0
 have f0:=h.blk.frozen 0
 have hsm:=h.small
 have hfit:=h.fits
 clear h hr
 by_cases h1:n<1
 ·go_enter Tryz.func163,Tryz.ntmps163
  go_wp2_with fail
  go_ret
  have e:Co.raw n s=([],s):=by unfold Co.raw;rw [if_pos (.inr h1)]
  refine ⟨none,[],0,X,r,cap,rfl,by rw [e],by simp,Rd.nil _ _,?_,?_,fun b h=>h,fun b h=>absurd h (by simp),Keeps.refl _ _⟩
  ·rw [e];exact H.out
  ·rw [e];exact HRR.out
 ·by_cases h2:((r.length:Nat):Int)<n
  ·go_enter Tryz.func163,Tryz.ntmps163
   go_wp2_with fail
   refine (refuse_any H.out 10 (by omega)).mono ?_
   rintro e w1 ⟨rfl,hin,hk⟩
   have HI:=Lib.hid hin
   have HK:=Lib.hid hk
   clear hin hk
   go_wp2_with fail
   go_ret
   have e:(Co.raw n s).1=[]∧(Co.raw n s).2.why=(if s.why=0 then 10 else s.why):=by
    have:=HRR.out
    unfold Co.raw
    by_cases hw:s.why=0
    ·rw [if_pos hw] at this
     subst this
     rw [if_neg (by simp [hw];omega),if_pos h2,if_pos hw]
     exact ⟨rfl,rfl⟩
    ·rw [if_pos (.inl hw),if_neg hw]
     exact ⟨rfl,rfl⟩
   have ew:(Co.raw n s).2.why≠0:=by rw [e.2];split <;> omega
   refine ⟨none,[],0,none,[],0,rfl,e.1.symm,by simp,Rd.nil _ _,?_,by rw [if_neg ew],fun b h=>(by cases h),fun b h=>absurd h (by simp),HK.out⟩
   rw [e.2]
   exact HI.out
  ·obtain ⟨q,rfl⟩:∃ q:Nat,n=(q:Nat):=⟨n.toNat,by omega⟩
   go_enter Tryz.func163,Tryz.ntmps163
   have hqr:q≤r.length:=by omega
   have hslh:=fun W=>sl_h W X r.length cap q (by omega)
   have hsll:=fun W=>sl_l W X r.length cap q hqr
   have HW:Hid (s.why=0∧r=s.rem):=by
    have h3:=HRR.out
    by_cases hw:s.why=0
    ·rw [if_pos hw] at h3;exact ⟨hw,h3⟩
    ·rw [if_neg hw] at h3;subst h3;simp at hqr;omega
   clear hslh
   go_wp2_with fail
   go_ret
   obtain ⟨hw,hrr⟩:=HW.out
   have e:Co.raw (q:Int) s=(r.take q,⟨r.drop q,s.why⟩):=by
    unfold Co.raw
    rw [if_neg (by simp [hw];omega),if_neg (by rw [← hrr];omega),← hrr]
    rfl
   have hcb:∀ b,(cutA X q cap).map (·.block)=some b→X.map (·.block)=some b:=fun b hb=>by
    unfold cutA at hb
    split at hb
    ·exact hb
    ·cases X with
     | none=>exact hb
     | some a=>simp only [Option.map_some,block_of_add] at hb;exact hb
   have hk:Keeps w (w.setCell ⟨g,0,none⟩ (.slice (cutA X q cap) (r.length-q) (cap-q))) g:=(Keeps.refl _ _).setCell _ _
   have hne:X.map (·.block)≠some g:=fun e=>(H.out.off g e).1 rfl
   have hl1:(r.take q).length=q:=by rw [List.length_take];omega
   have hl2:(r.drop q).length=r.length-q:=List.length_drop
   refine ⟨X,r.take q,cap,cutA X q cap,r.drop q,cap-q,by rw [hl1];rfl,by rw [e],by omega,(H.out.rd.take q).keeps hk (fun _=>hne),?_,by rw [e];simp [hw],hcb,fun b _ h=>h,hk⟩
   rw [e]
   refine ⟨?_,by omega,by omega,(H.out.rd.cut q cap hfit).keeps hk (fun _ e=>hne (hcb g e)),fun b hb=>?_⟩
   ·rw [hl2];exact H.out.blk.set_ 0 _
   ·have:=H.out.off b (hcb b hb)
    exact ⟨this.1,Nat.lt_of_lt_of_le this.2 hk.size⟩
def RrNext (g:Nat) (X:Option Addr) (s':Co.Rs) (w w':World):Prop :=
 ∃ X2 c2 r2,RrIn g X2 c2 r2 s'.why w'∧r2=(if s'.why=0 then s'.rem else [])∧(∀ b,X2.map (·.block)=some b→X.map (·.block)=some b)∧Keeps w w' g
theorem RrNext.below {g:Nat} {X:Option Addr} {s':Co.Rs} {w w' w2:World} (h:RrNext g X s' w w') (hb:Below w'.heap.size w' w2):RrNext g X s' w w2:=by
 obtain ⟨X2,c2,r2,h1,h2,h3,h4⟩:=h
 exact ⟨X2,c2,r2,⟨h1.blk.below hb h1.blk.lt,h1.fits,h1.small,h1.rd.below hb,fun b h=>⟨(h1.off b h).1,Nat.lt_of_lt_of_le (h1.off b h).2 hb.size⟩⟩,h2,h3,h4.trans (Keeps.of_below hb)⟩
theorem RrNext.then {g:Nat} {X X2:Option Addr} {s':Co.Rs} {w w' w2:World} (h4:Keeps w w' g) (h3:∀ b,X2.map (·.block)=some b→X.map (·.block)=some b) (h:RrNext g X2 s' w' w2):RrNext g X s' w w2:=by
 obtain ⟨X3,c3,r3,k1,k2,k3,k4⟩:=h
 exact ⟨X3,c3,r3,k1,k2,fun b hb=>h3 b (k3 b hb),h4.trans k4⟩
theorem raw_len (n:Int) (s:Co.Rs):(Co.raw n s).1.length≤s.rem.length:=by
 unfold Co.raw
 split
 ·simp
 ·split
  ·simp
  ·show (s.rem.take _).length≤_
   rw [List.length_take];omega
set_option maxRecDepth 100000 in
theorem rnumber_any {g:Nat} {X:Option Addr} {cap:Nat} {r:List UInt8} {s:Co.Rs} {w:World} (h:RrIn g X cap r s.why w) (hr:r=if s.why=0 then s.rem else []) (n:Int) (hn:n≤140737488355328) (hn0:-140737488355328≤n) :
    Calls Tryz.prog 136 #[.pointer (some ⟨g,0,none⟩),.int .i64 n] w fun e w'=>e=.returned (.int .u64 ((Co.num n s).1:Nat))∧RrNext g X (Co.num n s).2 w w':=by
 have H:=Lib.hid h
 have HR:=Lib.hid hr
 clear h hr
 go_enter Tryz.func136,Tryz.ntmps136
 go_wp2_with fail
 refine (take_any H.out HR.out n hn hn0).mono ?_
 rintro e w1 ⟨X1,l,c1,X2,r2,c2,rfl,hl,hlc,hrd,hin,hr2,hX2,hX1,hk⟩
 have HL:=Lib.hid hl
 have HRD:=Lib.hid hrd
 have HN:Hid (RrNext g X (Co.num n s).2 w w1):=⟨X2,c2,r2,hin,hr2,hX2,hk⟩
 have hsm:l.length≤140737488355328:=by
  rw [hl]
  by_cases hw:s.why=0
  ·have e:=HR.out
   rw [if_pos hw] at e
   have h5:=raw_len n s
   have h6:=H.out.small
   rw [← e] at h5
   omega
  ·unfold Co.raw
   rw [if_pos (.inl hw)]
   simp
 clear hl hrd hin hr2 hX2 hX1 hk hlc H HR
 go_wp2_with fail
 go_loop [5,12] (fun t5 t12=>∃ (k x:Nat),k≤l.length∧t12=.int .i64 (k:Nat)∧t5=.int .u64 (x:Nat)∧Hid (x=Co.beVal (l.take k))) (fun _ t12=>l.length-(intOf t12).toNat)
 case atStart=>exact ⟨0,0,by omega,rfl,rfl,rfl⟩
 case round =>
  obtain ⟨k,x,hk,rfl,rfl,HX⟩:=hrel
  by_cases hlt:k<l.length
  ·obtain ⟨b,off,rfl,_,hcell⟩:=HRD.out.at_ (by omega)
   have c0:=hcell k hlt
   obtain ⟨y,hy⟩:∃ y:Nat,y=(l.getD k 0).toNat:=⟨_,rfl⟩
   have hy8:y<256:=by rw [hy];exact (l.getD k 0).toNat_lt
   rw [← hy] at c0
   have HY:=Lib.hid hy
   have hor:=Co.bits_or64 x y hy8
   obtain ⟨z,hz⟩:∃ z:Nat,z=(x*256+y) % 18446744073709551616:=⟨_,rfl⟩
   rw [← hz] at hor
   have HZ:=Lib.hid hz
   clear hcell hy hz
   go_wp2_with fail
   go_round
   case rel=>exact ⟨k+1,z,by omega,by go_num,rfl,by show _=_;rw [Co.beVal_snoc _ _ hlt,← HX.out,← HY.out,HZ.out]⟩
   case measure=>simp [intOf];omega
  ·obtain rfl:k=l.length:=by omega
   have HF:Hid (x=Co.beVal l):=by show _=_;rw [HX.out,List.take_length]
   clear HX
   go_wp2_with fail
   go_ret
   refine ⟨?_,HN.out⟩
   rw [HF.out,HL.out]
   rfl
theorem num_why (n:Int) (s:Co.Rs) (h:s.why≤1000):(Co.num n s).2.why≤1000:=by
 unfold Co.num Co.raw
 split
 ·exact h
 ·split
  ·show 10≤1000;omega
  ·exact h
theorem RrNext.out {g:Nat} {X:Option Addr} {A:Option Addr} {L:List UInt8} {x:Value} {s':Co.Rs} {w w':World} (h:RrNext g X s' w w') (hs:s'.why≤1000):ROut (fun v _ _ s S w=>RrAt v s S w) (.pointer (some ⟨g,0,none⟩)) A L x s' (RrS g X) w (.returned x) w':=by
 obtain ⟨X2,c2,r2,h1,h2,h3,h4⟩:=h
 refine ⟨rfl,RrS g X2,⟨g,X2,c2,r2,rfl,h1,h2,hs,rfl⟩,⟨h4.os,h4.tape,h4.output,h4.size,fun k hk hn=>h4.block k hk fun e=>hn (.inl (by injection e))⟩,fun b hb=>?_⟩
 rcases hb with h|h
 ·exact .inl (.inl h)
 ·exact .inl (.inr (h3 b h))
theorem rbyte_any {g:Nat} {X:Option Addr} {cap:Nat} {r:List UInt8} {s:Co.Rs} {w:World} (h:RrIn g X cap r s.why w) (hr:r=if s.why=0 then s.rem else []) :
    Calls Tryz.prog 164 #[.pointer (some ⟨g,0,none⟩)] w fun e w'=>e=.returned (.int .i64 ((Co.num 1 s).1:Nat))∧RrNext g X (Co.num 1 s).2 w w':=by
 have H:=Lib.hid h
 have HR:=Lib.hid hr
 have hs:=num_small1 s
 clear h hr
 go_enter Tryz.func164,Tryz.ntmps164
 go_wp2_with fail
 refine (rnumber_any H.out HR.out 1 (by omega) (by omega)).mono ?_
 rintro e w1 ⟨rfl,hn⟩
 have HN:=Lib.hid hn
 obtain ⟨x,hx⟩:∃ x,x=(Co.num 1 s).1:=⟨_,rfl⟩
 rw [← hx] at hs ⊢
 have HX:=Lib.hid hx
 clear hn hx
 have hw:IntKind.i64.wrap (x:Int)=(x:Int):=IntWalk.i64_in _ (by omega)
 go_wp2_with fail
 go_ret
 exact ⟨by rw [← HX.out];rfl,HN.out⟩
theorem rshort_any {g:Nat} {X:Option Addr} {cap:Nat} {r:List UInt8} {s:Co.Rs} {w:World} (h:RrIn g X cap r s.why w) (hr:r=if s.why=0 then s.rem else []) :
    Calls Tryz.prog 98 #[.pointer (some ⟨g,0,none⟩)] w fun e w'=>e=.returned (.int .i64 ((Co.num 2 s).1:Nat))∧RrNext g X (Co.num 2 s).2 w w':=by
 have H:=Lib.hid h
 have HR:=Lib.hid hr
 have hs:=num_small2 s
 clear h hr
 go_enter Tryz.func98,Tryz.ntmps98
 go_wp2_with fail
 refine (rnumber_any H.out HR.out 2 (by omega) (by omega)).mono ?_
 rintro e w1 ⟨rfl,hn⟩
 have HN:=Lib.hid hn
 obtain ⟨x,hx⟩:∃ x,x=(Co.num 2 s).1:=⟨_,rfl⟩
 rw [← hx] at hs ⊢
 have HX:=Lib.hid hx
 clear hn hx
 have hw:IntKind.i64.wrap (x:Int)=(x:Int):=IntWalk.i64_in _ (by omega)
 go_wp2_with fail
 go_ret
 exact ⟨by rw [← HX.out];rfl,HN.out⟩
theorem rlong_any {g:Nat} {X:Option Addr} {cap:Nat} {r:List UInt8} {s:Co.Rs} {w:World} (h:RrIn g X cap r s.why w) (hr:r=if s.why=0 then s.rem else []) :
    Calls Tryz.prog 165 #[.pointer (some ⟨g,0,none⟩)] w fun e w'=>e=.returned (.int .u64 ((Co.num 8 s).1:Nat))∧RrNext g X (Co.num 8 s).2 w w':=by
 have H:=Lib.hid h
 have HR:=Lib.hid hr
 clear h hr
 go_enter Tryz.func165,Tryz.ntmps165
 go_wp2_with fail
 refine (rnumber_any H.out HR.out 8 (by omega) (by omega)).mono ?_
 rintro e w1 ⟨rfl,hn⟩
 have HN:=Lib.hid hn
 obtain ⟨x,hx⟩:∃ x,x=(Co.num 8 s).1:=⟨_,rfl⟩
 rw [← hx] at ⊢
 have HX:=Lib.hid hx
 clear hn hx
 go_wp2_with fail
 go_ret
 exact ⟨by rw [← HX.out];rfl,HN.out⟩
theorem rflag_any {g:Nat} {X:Option Addr} {cap:Nat} {r:List UInt8} {s:Co.Rs} {w:World} (h:RrIn g X cap r s.why w) (hr:r=if s.why=0 then s.rem else []) :
    Calls Tryz.prog 166 #[.pointer (some ⟨g,0,none⟩)] w fun e w'=>e=.returned (.bool (Co.flag s).1)∧RrNext g X (Co.flag s).2 w w':=by
 have H:=Lib.hid h
 have HR:=Lib.hid hr
 have hs:=num_small1 s
 clear h hr
 go_enter Tryz.func166,Tryz.ntmps166
 go_wp2_with fail
 refine (rbyte_any H.out HR.out).mono ?_
 rintro e w1 ⟨rfl,hn⟩
 have HN:=Lib.hid hn
 have HWW:Hid (1<(Co.num 1 s).1→(Co.num 1 s).2.why=0):=by
  show _→_
  intro h1
  unfold Co.num Co.raw at h1 ⊢
  split
  ·rename_i hc
   rw [if_pos hc] at h1
   simp [Co.beVal] at h1
  ·rename_i hc
   rw [if_neg hc] at h1
   split
   ·rename_i hd
    rw [if_pos hd] at h1
    simp [Co.beVal] at h1
   ·show s.why=0
    exact Decidable.byContradiction fun h=>hc (.inl h)
 obtain ⟨x,hx⟩:∃ x,x=(Co.num 1 s).1:=⟨_,rfl⟩
 rw [← hx] at hs ⊢
 have HX:=Lib.hid hx
 clear hn hx
 by_cases h1:1<x
 ·have h2:(1:Int)<(x:Int):=by omega
  have HH1:=Lib.hid h1
  clear h1
  obtain ⟨X2,c2,r2,hin,hr2,hX2,hk⟩:=HN.out
  have HI:=Lib.hid hin
  have HK:=Lib.hid hk
  have HX2:=Lib.hid hX2
  clear hin hr2 hX2 hk
  go_wp2_with fail
  refine (refuse_any HI.out 12 (by omega)).mono ?_
  rintro e w2 ⟨rfl,hin,hk⟩
  have HF:Hid (RrNext g X (Co.flag s).2 w w2):=by
   have h1:=HH1.out
   rw [HX.out] at h1
   have e:(Co.flag s).2.why=12:=by unfold Co.flag;rw [if_pos h1]
   refine ⟨none,0,[],?_,by rw [e];simp,fun b h=>(by cases h),HK.out.trans hk⟩
   rw [e]
   rw [if_pos (HWW.out h1)] at hin
   exact hin
  clear hin hk
  go_wp2_with fail
  go_ret
  refine ⟨?_,HF.out⟩
  have h1:=HH1.out
  rw [HX.out] at h1
  have:(Co.flag s).1=false:=by unfold Co.flag;simp;omega
  rw [this]
  rfl
 ·have h2:¬ (1:Int)<(x:Int):=by omega
  have HH1:=Lib.hid h1
  clear h1
  go_wp2_with fail
  go_ret
  have h1:=HH1.out
  rw [HX.out] at h1
  refine ⟨?_,?_⟩
  ·show Ending.returned (.bool ((x:Int)==1))=Ending.returned (.bool (decide ((Co.num 1 s).1=1)))
   rw [← HX.out,one_eq]
  ·unfold Co.flag
   rw [if_neg h1]
   exact HN.out
def RrRow (g:Nat) (X:Option Addr) (p:List UInt8 × Co.Rs) (w:World) (e:Ending) (w':World):Prop :=
 ∃ v,e=.returned v∧w'.ownsRow w.heap.size 5 1 v p.1.length (Lib.byteCells p.1)∧RrNext g X p.2 w w'
theorem rraw_any {g:Nat} {X:Option Addr} {cap:Nat} {r:List UInt8} {s:Co.Rs} {w:World} (h:RrIn g X cap r s.why w) (hr:r=if s.why=0 then s.rem else []) (n:Int) (hn:n≤140737488355328) (hn0:-140737488355328≤n) :
    Calls Tryz.prog 167 #[.pointer (some ⟨g,0,none⟩),.int .i64 n] w (RrRow g X (Co.raw n s) w):=by
 have H:=Lib.hid h
 have HR:=Lib.hid hr
 clear h hr
 go_enter Tryz.func167,Tryz.ntmps167
 go_wp2_with fail
 refine (take_any H.out HR.out n hn hn0).mono ?_
 rintro e w1 ⟨X1,l,c1,X2,r2,c2,rfl,hl,hlc,hrd,hin,hr2,hX2,hX1,hk⟩
 have HL:=Lib.hid hl
 have HRD:=Lib.hid hrd
 have HN:Hid (RrNext g X (Co.raw n s).2 w w1):=⟨X2,c2,r2,hin,hr2,hX2,hk⟩
 have HS:=Lib.hid hk.size
 have hsm:l.length≤140737488355328:=by
  rw [hl]
  by_cases hw:s.why=0
  ·have e:=HR.out
   rw [if_pos hw] at e
   have h5:=raw_len n s
   have h6:=H.out.small
   rw [← e] at h5
   omega
  ·unfold Co.raw
   rw [if_pos (.inl hw)]
   simp
 clear hl hrd hin hr2 hX2 hX1 hk hlc H HR
 go_wp2_with fail
 refine (clone_any w1 X1 l c1 HRD.out (by omega)).mono ?_
 rintro e w2 ⟨v,rfl,hown,hb⟩
 have HF:Hid (RrRow g X (Co.raw n s) w (.returned v) w2):=⟨v,rfl,by rw [← HL.out];exact own_mono hown HS.out,HN.out.below hb⟩
 clear hown hb
 go_wp2_with fail
 go_ret
 exact HF.out
theorem rbytes_any {g:Nat} {X:Option Addr} {cap:Nat} {r:List UInt8} {s:Co.Rs} {w:World} (h:RrIn g X cap r s.why w) (hr:r=if s.why=0 then s.rem else []) :
    Calls Tryz.prog 138 #[.pointer (some ⟨g,0,none⟩)] w (RrRow g X (Co.bytes s) w):=by
 have H:=Lib.hid h
 have HR:=Lib.hid hr
 have hs:=num_small2 s
 clear h hr
 go_enter Tryz.func138,Tryz.ntmps138
 go_wp2_with fail
 refine (rshort_any H.out HR.out).mono ?_
 rintro e w1 ⟨rfl,hn⟩
 obtain ⟨X2,c2,r2,hin,hr2,hX2,hk⟩:=hn
 have HI:=Lib.hid hin
 have HR2:=Lib.hid hr2
 have HK:=Lib.hid hk
 have HX2:=Lib.hid hX2
 obtain ⟨x,hx⟩:∃ x,x=(Co.num 2 s).1:=⟨_,rfl⟩
 rw [← hx] at hs ⊢
 have HX:=Lib.hid hx
 clear hin hr2 hX2 hk hx H HR
 go_wp2_with fail
 refine (rraw_any HI.out HR2.out (x:Int) (by omega) (by omega)).mono ?_
 rintro e w2 ⟨v,rfl,hown,hn⟩
 have HF:Hid (RrRow g X (Co.bytes s) w (.returned v) w2):=by
  refine ⟨v,rfl,?_,?_⟩
  ·have:=own_mono hown HK.out.size
   rw [HX.out] at this
   exact this
  ·have:=RrNext.then HK.out HX2.out hn
   rw [HX.out] at this
   exact this
 clear hown hn
 go_wp2_with fail
 go_ret
 exact HF.out
theorem raw_why (n:Int) (s:Co.Rs) (h:s.why≤1000):(Co.raw n s).2.why≤1000:=num_why n s h
theorem flag_why (s:Co.Rs) (h:s.why≤1000):(Co.flag s).2.why≤1000:=by
 have:=num_why 1 s h
 unfold Co.flag
 split
 ·show 12≤1000;omega
 ·exact this
theorem bytes_why (s:Co.Rs) (h:s.why≤1000):(Co.bytes s).2.why≤1000:=raw_why _ _ (num_why 2 s h)
theorem RrRow.out {g:Nat} {X:Option Addr} {A:Option Addr} {L:List UInt8} {p:List UInt8 × Co.Rs} {w:World} {e:Ending} {w':World} (h:RrRow g X p w e w') (hs:p.2.why≤1000):RRow (fun v _ _ s S w=>RrAt v s S w) (.pointer (some ⟨g,0,none⟩)) A L p (RrS g X) w e w':=by
 obtain ⟨v,rfl,hown,hn⟩:=h
 obtain ⟨Y,c,rfl,hc,hrow,hlt⟩:=RowS.of_own A L hown rfl
 obtain ⟨_,S',h1,h2,h3⟩:=RrNext.out (A:=A) (L:=L) (x:=.slice Y p.1.length c) hn hs
 exact ⟨Y,c,S',_,rfl,hc,hrow,h1,h2,h3,fun b hb=>⟨.inr (hlt b hb).1,(hlt b hb).2⟩⟩
theorem rend_any {g:Nat} {X:Option Addr} {cap:Nat} {r:List UInt8} {s:Co.Rs} {w:World} (h:RrIn g X cap r s.why w) (hr:r=if s.why=0 then s.rem else []) :
    Calls Tryz.prog 100 #[.pointer (some ⟨g,0,none⟩)] w fun e w'=>e=.returned (.int .i64 (Co.fin s:Nat))∧Below w.heap.size w w':=by
 have c0:w.cell? ⟨g,0,none⟩=some (.slice X r.length cap):=h.blk.cell 0
 have c1:w.cell? ⟨g,1,none⟩=some (.int .i64 (s.why:Nat)):=h.blk.cell 1
 obtain ⟨rem,why⟩:=s
 simp only at c1 hr
 clear h
 by_cases h1:why=0
 ·subst h1
  rw [if_pos rfl] at hr
  subst hr
  by_cases h2:0<r.length
  ·have HF:Hid (Co.fin ⟨r,0⟩=11):=by show _=_;unfold Co.fin;simp [h2]
   have h3:(0:Int)<(r.length:Int):=by omega
   go_enter Tryz.func100,Tryz.ntmps100
   go_wp2_with fail
   go_ret
   exact ⟨by rw [HF.out];rfl,Below.refl _ _⟩
  ·have HF:Hid (Co.fin ⟨r,0⟩=0):=by show _=_;unfold Co.fin;simp [h2]
   go_enter Tryz.func100,Tryz.ntmps100
   go_wp2_with fail
   go_ret
   exact ⟨by rw [HF.out];rfl,Below.refl _ _⟩
 ·have hw:((why:Nat):Int)≠0:=by omega
  have HF:Hid (Co.fin ⟨rem,why⟩=why):=by show _=_;unfold Co.fin;simp [h1]
  go_enter Tryz.func100,Tryz.ntmps100
  go_wp2_with fail
  go_ret
  exact ⟨by rw [HF.out];rfl,Below.refl _ _⟩
theorem rnew_any (w:World) (A:Option Addr) (L:List UInt8) (cap:Nat) (hr:Rd w A L) (hl:L.length≤140737488351232):Calls Tryz.prog 97 #[.slice A L.length cap] w fun e w'=>∃ v S,e=.returned v∧RrAt v ⟨L,0⟩ S w'∧Below w.heap.size w w'∧∀ b,S b→w.heap.size≤b:=by
 have HR:=Lib.hid hr
 clear hr
 go_enter Tryz.func97,Tryz.ntmps97
 go_wp2_with fail
 refine (clone_any w A L cap HR.out (by omega)).mono ?_
 rintro e w1 ⟨v,rfl,hown,hb⟩
 have ho:∀ b,v.ownBlock=some b→w.heap.size≤b∧b<w1.heap.size:=fun b h=>own_lt hown h
 obtain ⟨X,c,rfl,hc,hrd⟩:=oF hown
 have hX:∀ b,X.map (·.block)=some b→w.heap.size≤b∧b<w1.heap.size:=fun b h=>ho b (by cases X with|none=>cases h|some a=>simpa [Value.ownBlock] using h)
 have HF:Hid (RrAt (.pointer (some ⟨w1.heap.size,0,none⟩)) ⟨L,0⟩ (RrS w1.heap.size X) (w1.alloc (.cells #[.slice X L.length c,.int .i64 0] 174))∧Below w.heap.size w (w1.alloc (.cells #[.slice X L.length c,.int .i64 0] 174))∧∀ b,RrS w1.heap.size X b→w.heap.size≤b):=by
  refine ⟨⟨_,X,c,L,rfl,⟨Blk.new w1 _ _,hc,by omega,hrd.below (bN _ _),fun b h=>?_⟩,rfl,by show 0≤1000;omega,rfl⟩,hb.trans ((bN w1 _).mono hb.size),fun b h=>?_⟩
  ·have:=hX b h
   rw [World.size_alloc]
   omega
  ·rcases h with rfl|h
   ·exact hb.size
   ·exact (hX b h).1
 clear hown hb ho hc hrd hX
 go_wp2_with fail
 go_ret
 exact ⟨_,_,rfl,HF.out⟩
theorem RrAt.keep {v:Value} {s:Co.Rs} {S:Nat→Prop} {w w':World} (h:RrAt v s S w) (hs:w.heap.size≤w'.heap.size) (hb:∀ b,S b→w'.heap[b]?=w.heap[b]?):RrAt v s S w':=by
 obtain ⟨g,X,cap,r,rfl,h1,h2,h3,rfl⟩:=h
 refine ⟨g,X,cap,r,rfl,⟨(hb g (.inl rfl)).trans h1.blk,h1.fits,h1.small,h1.rd.keep (fun p hp e=>?_) hs,fun b h=>⟨(h1.off b h).1,Nat.lt_of_lt_of_le (h1.off b h).2 hs⟩⟩,h2,h3,rfl⟩
 unfold World.cell?
 rw [hb p.block (.inr e)]
theorem RrAt.lt {v:Value} {s:Co.Rs} {S:Nat→Prop} {w:World} (h:RrAt v s S w):∀ b,S b→b<w.heap.size:=by
 obtain ⟨g,X,cap,r,rfl,h1,h2,h3,rfl⟩:=h
 rintro b (rfl|hb)
 ·exact h1.blk.lt
 ·exact (h1.off b hb).2
def rsaid:RSaid codecFns where
 At:=fun v _ _ s S w=>RrAt v s S w
 keep:=fun h hs hb=>h.keep hs hb
 lt:=fun h=>h.lt
 ptr:=fun h=>by obtain ⟨g,X,cap,r,rfl,_⟩:=h;exact ⟨_,rfl⟩
 byte:=fun hf _ _ _ _ _ _ h _ _=>by cases hf;obtain ⟨g,X,cap,r,rfl,h1,h2,h3,rfl⟩:=h;exact (rbyte_any h1 h2).mono fun e w' ⟨he,hn⟩=>by subst he;exact hn.out (num_why _ _ h3)
 short:=fun hf _ _ _ _ _ _ h _ _=>by cases hf;obtain ⟨g,X,cap,r,rfl,h1,h2,h3,rfl⟩:=h;exact (rshort_any h1 h2).mono fun e w' ⟨he,hn⟩=>by subst he;exact hn.out (num_why _ _ h3)
 long:=fun hf _ _ _ _ _ _ h _ _=>by cases hf;obtain ⟨g,X,cap,r,rfl,h1,h2,h3,rfl⟩:=h;exact (rlong_any h1 h2).mono fun e w' ⟨he,hn⟩=>by subst he;exact hn.out (num_why _ _ h3)
 flag:=fun hf _ _ _ _ _ _ h _ _=>by cases hf;obtain ⟨g,X,cap,r,rfl,h1,h2,h3,rfl⟩:=h;exact (rflag_any h1 h2).mono fun e w' ⟨he,hn⟩=>by subst he;exact hn.out (flag_why _ h3)
 bytes:=fun hf _ _ _ _ _ _ h _ _=>by cases hf;obtain ⟨g,X,cap,r,rfl,h1,h2,h3,rfl⟩:=h;exact (rbytes_any h1 h2).mono fun e w' ho=>ho.out (bytes_why _ h3)
 raw:=fun hf _ _ _ _ _ _ h _ _ n h0 hn=>by cases hf;obtain ⟨g,X,cap,r,rfl,h1,h2,h3,rfl⟩:=h;exact (rraw_any h1 h2 n (by omega) (by omega)).mono fun e w' ho=>ho.out (raw_why _ _ h3)
 left:=fun hf=>by cases hf
 fin:=fun hf _ _ _ _ _ _ h _ _=>by cases hf;obtain ⟨g,X,cap,r,rfl,h1,h2,h3,rfl⟩:=h;exact rend_any h1 h2
theorem rmake:RMake rsaid:=⟨fun w A L cap hr _ hl=>rnew_any w A L cap hr hl⟩
end Go.Proofs.YtjoedamiilgajaaGreat
namespace Go.Proofs.YtjoedamiilgajaaGreat
open Go.RowKit Rc
namespace Ts
def Rr (g:Nat) (XB:Option Nat) (s:Co.Rs) (w:World):Prop:=∃ X cap r,RrIn g X cap r s.why w∧r=(if s.why=0 then s.rem else [])∧s.why≤1000∧∀ b,X.map (·.block)=some b→XB=some b
variable {g:Nat} {XB:Option Nat} {s s':Co.Rs} {w w':World}
theorem Rr.lt (h:Rr g XB s w):g<w.heap.size:=by obtain ⟨X,cap,r,h1,_⟩:=h;exact h1.blk.lt
theorem Rr.keep (h:Rr g XB s w) (hs:w.heap.size≤w'.heap.size) (hg:w'.heap[g]?=w.heap[g]?) (hb:∀ b,XB=some b→w'.heap[b]?=w.heap[b]?):Rr g XB s w':=by
 obtain ⟨X,cap,r,h1,h2,h3,h4⟩:=h
 refine ⟨X,cap,r,⟨hg.trans h1.blk,h1.fits,h1.small,h1.rd.keep (fun p hp e=>?_) hs,fun b hb2=>⟨(h1.off b hb2).1,Nat.lt_of_lt_of_le (h1.off b hb2).2 hs⟩⟩,h2,h3,h4⟩
 unfold World.cell?
 rw [hb p.block (h4 _ e)]
theorem Rr.below (h:Rr g XB s w) (hx:∀ b,XB=some b→b<w.heap.size) (hb:Below w.heap.size w w'):Rr g XB s w':=h.keep hb.size (hb.block g h.lt) fun b hb2=>hb.block b (hx b hb2)
theorem Rr.next {X:Option Addr} (hX:∀ b,X.map (·.block)=some b→XB=some b) (h:RrNext g X s' w w') (hw:s'.why≤1000):Rr g XB s' w'∧Keeps w w' g:=by
 obtain ⟨X2,c2,r2,h1,h2,h3,h4⟩:=h
 exact ⟨⟨X2,c2,r2,h1,h2,hw,fun b hb=>hX b (h3 b hb)⟩,h4⟩
theorem short_rd (h:Rr g XB s w):Calls Tryz.prog 98 #[.pointer (some ⟨g,0,none⟩)] w fun e w'=>e=.returned (.int .i64 ((Co.num 2 s).1:Nat))∧Hid (Rr g XB (Co.num 2 s).2 w')∧Hid (Keeps w w' g):=by
 obtain ⟨X,cap,r,h1,h2,h3,h4⟩:=h
 refine (rshort_any h1 h2).mono ?_
 rintro e w' ⟨he,hn⟩
 obtain ⟨k1,k2⟩:=Rr.next h4 hn (num_why _ _ h3)
 exact ⟨he,k1,k2⟩
theorem bytes_rd (h:Rr g XB s w):Calls Tryz.prog 138 #[.pointer (some ⟨g,0,none⟩)] w fun e w'=>∃ X c,e=.returned (.slice X (List.length (Co.bytes s).1) c)∧Hid ((Co.bytes s).1.length≤c∧Rd w' X (Co.bytes s).1)∧Hid (w'.ownsRow w.heap.size 5 1 (.slice X (Co.bytes s).1.length c) (Co.bytes s).1.length (Lib.byteCells (Co.bytes s).1))∧Hid (Rr g XB (Co.bytes s).2 w')∧Hid (Keeps w w' g):=by
 obtain ⟨X,cap,r,h1,h2,h3,h4⟩:=h
 refine (rbytes_any h1 h2).mono ?_
 rintro e w' ⟨v,he,ho,hn⟩
 obtain ⟨k1,k2⟩:=Rr.next h4 hn (bytes_why _ h3)
 obtain ⟨Y,c,rfl,hc,hr⟩:=oF ho
 exact ⟨Y,c,he,⟨hc,hr⟩,ho,k1,k2⟩
theorem end_rd (h:Rr g XB s w):Calls Tryz.prog 100 #[.pointer (some ⟨g,0,none⟩)] w fun e w'=>e=.returned (.int .i64 (Co.fin s:Nat))∧Below w.heap.size w w':=by
 obtain ⟨X,cap,r,h1,h2,h3,h4⟩:=h
 exact rend_any h1 h2
end Ts
end Go.Proofs.YtjoedamiilgajaaGreat
namespace Go.Proofs.YtjoedamiilgajaaGreat
open Go.RowKit Rc
open Tr (Nm En T)
namespace Ts
theorem nameTy:Rf.RowTy 90 116 2 (.agg #[.string .empty,.int .i64 0]) 24:=⟨by kernel_rfl,by kernel_rfl,by kernel_rfl,rfl,by decide,by decide⟩
def ncont (nv:Value) (l:List Nm):Rc.Fact:=⟨fun _ w S=>Tm.NOwn w 0 nv l∧∀ b,nv.ownBlock=some b→S b,fun _ _ _ _ h _ hb=>⟨Tm.own_keep h.1 fun b h1=>hb b (h.2 b h1),h.2⟩⟩
def nrow (l:List Nm):Rc.Fact:=⟨fun v w S=>Tm.NOwn w 0 v l∧∀ b,v.ownBlock=some b→S b,fun _ _ _ _ h _ hb=>⟨Tm.own_keep h.1 fun b h1=>hb b (h.2 b h1),h.2⟩⟩
def ebx (g:Nat) (e:En) (dv nv:Value):Rc.Fact:=⟨fun _ w S=>Blk w g 92 (Tm.enCells e dv nv)∧S g,fun _ _ _ _ h _ hb=>⟨(hb g h.2).trans h.1,h.2⟩⟩
def ebxN (g:Nat) (e:En) (dv:Value) (l:List Nm):Rc.Fact:=⟨fun _ w S=>S g∧∃ x,Blk w g 92 (Tm.enCells e dv x)∧Tm.NOwn w 0 x l∧(∀ b,x.ownBlock=some b→S b),fun _ _ _ _ h _ hb=>by
 obtain ⟨h1,x,h2,h3,h4⟩:=h
 exact ⟨h1,x,(hb g h1).trans h2,Tm.own_keep h3 fun b h5=>hb b (h4 b h5),h4⟩⟩
def rdF (g:Nat) (XB:Option Nat) (W0:World) (x:Value) (s:Co.Rs):Rc.Fact:=⟨fun v w S=>v=x∧Rr g XB s w∧S g∧∀ b,XB=some b→S b∧w.heap[b]?=W0.heap[b]?,fun _ _ _ _ h hs hb=>⟨h.1,h.2.1.keep hs (hb g h.2.2.1) fun b h1=>hb b (h.2.2.2 b h1).1,h.2.2.1,fun b h1=>⟨(h.2.2.2 b h1).1,(hb b (h.2.2.2 b h1).1).trans (h.2.2.2 b h1).2⟩⟩⟩
section
variable {F:Nat→Rc.Fact} {cons:List (Nat × Nat)} {E:Nat→(Nat→Value)→Value→Prop} {V:Nat→Value} {S:Nat→Nat→Prop} {j:Nat} {o:Oper} {b:Act} {w:World}
theorem step_nload {n0:Nat} (l:List Nm) (nv:Value) (hF:F j=nrow l) (h0:(j,n0) ∈ cons) (hc:(ncont nv l).holds (V n0) w (S n0)) (hlt:∀ b,S n0 b→b<w.heap.size) (hE:∀ v,E j V v) (hg:Rg.Open o V) (hrun:(execOp b.eval o).run Tryz.prog w=.ok (.value nv) w):Rg.Dz Tryz.prog o V b w (Rc.Good F cons E V S j w):=by
 refine .of hg fun K hK=>?_
 unfold Oper.wp
 rw [hrun]
 exact hK _ _ ⟨S n0,Mod.refl _ _,by rw [hF];exact hc,fun b hb=>⟨.inl ⟨n0,h0,hb⟩,hlt b hb⟩,hE _⟩
theorem step_rshort {g i:Nat} {XB:Option Nat} {W0:World} {x0:Value} {s:Co.Rs} {xs:Array Operand} {ts:Array TypeId} (hop:o.op=.call { callee:=.value (.func 98),args:=xs,argTypes:=ts }) (hargs:xs.map b.eval=#[.pointer (some ⟨g,0,none⟩)]) (hF:F j=rdF g XB W0 (.int .i64 ((Co.num 2 s).1:Nat)) (Co.num 2 s).2)
    (hi:(j,i) ∈ cons) (h:(rdF g XB W0 x0 s).holds (V i) w (S i)) (hlt:∀ b,S i b→b<w.heap.size) (hne:∀ b,XB=some b→b≠g) (hE:∀ v,E j V v) (hg:Rg.Open o V):Rg.Dz Tryz.prog o V b w (Rc.Good F cons E V S j w):=by
 obtain ⟨_,hR,hSg,hX⟩:=h
 refine Rc.step_call #[.pointer (some ⟨g,0,none⟩)] (fun args w=>Rg.call_enter Tryz.func98 (by kernel_rfl) (by kernel_rfl) args w) hop hargs hE hg ((short_rd hR).mono ?_)
 rintro e w' ⟨rfl,h1,h2⟩
 refine ⟨_,S i,rfl,⟨h2.out.os,h2.out.tape,h2.out.output,h2.out.size,fun k hk hn=>h2.out.block k hk fun e=>hn ⟨i,hi,by cases e;exact hSg⟩⟩,?_,fun k hk=>⟨.inl ⟨i,hi,hk⟩,Nat.lt_of_lt_of_le (hlt k hk) h2.out.size⟩⟩
 rw [hF]
 exact ⟨rfl,h1.out,hSg,fun b hb=>⟨(hX b hb).1,(h2.out.block b (hlt b (hX b hb).1) fun e=>by cases e;exact hne _ hb rfl).trans (hX b hb).2⟩⟩
theorem step_none (n:Nm) {t:Nat} (hop:o.op=.buildSlice 90 1 #[(0,.tmp t)]) (hx:b.eval (.tmp t)=.agg #[.string (strOf n.1),.int .i64 n.2]) (hF:F j=nrow [n]) (hE:∀ v,E j V v) (hg:Rg.Open o V):Rg.Dz Tryz.prog o V b w (Rc.Good F cons E V S j w):=by
 have hrun:(execOp b.eval o).run Tryz.prog w=.ok (.value (.slice (some ⟨w.heap.size,0,none⟩) 1 1)) (w.alloc (.cells #[.string (strOf n.1),.int .i64 n.2] 116)):=by
  obtain ⟨dst,op,ty,pos,after,guard⟩:=o
  simp only at hop
  subst hop
  simp only [execOp,List.map_toArray,List.map_cons,List.map_nil,hx]
  go_simp
 have h1:Tm.NOwn (w.alloc (.cells #[.string (strOf n.1),.int .i64 n.2] 116)) 0 (.slice (some ⟨w.heap.size,0,none⟩) 1 1) [n]:=Tm.own_low (Rf.one_own w 116 [.string (strOf n.1),.int .i64 n.2] 2 rfl)
 refine .of hg fun K hK=>?_
 unfold Oper.wp
 rw [hrun]
 exact hK _ _ ⟨fun b=>b=w.heap.size,(Mod.of_below (bN w _) _),by rw [hF];exact ⟨h1,fun b hb=>by simpa [Value.ownBlock,eq_comm] using hb⟩,fun k hk=>⟨.inr (by omega),by rw [World.size_alloc];omega⟩,hE _⟩
theorem step_napp {i k:Nat} (l:List Nm) (n:Nm) {s x:Operand} (hop:o.op=.call { callee:=.builtin .append,args:=#[s,x],argTypes:=#[90,90] }) (hs:b.eval s=V i) (hx:b.eval x=V k) (hF:F j=nrow (l++[n])) (hi:(j,i) ∈ cons) (hk:(j,k) ∈ cons)
    (h1:(nrow l).holds (V i) w (S i)) (h2:(nrow [n]).holds (V k) w (S k)) (hl1:∀ b,S i b→b<w.heap.size) (hl2:∀ b,S k b→b<w.heap.size) (hn:l.length≤1000000) (hE:∀ v,E j V v) (hg:Rg.Open o V):Rg.Dz Tryz.prog o V b w (Rc.Good F cons E V S j w):=by
 obtain ⟨hA,hAS⟩:=h1
 obtain ⟨hB,hBS⟩:=h2
 obtain ⟨A2,c2,hv,hc2,hsrc,_⟩:=Rf.own_src hB
 refine .of hg fun K hK=>?_
 obtain ⟨v',w',r1,r2,r3,r4⟩:=Rf.run_cat nameTy (m:=1) (cap:=c2) o.type hA hsrc rfl (by intro u hu;exact Tm.nmCells_one [n] u hu) (by omega) (Nat.zero_le _)
 unfold Oper.wp
 rw [hv] at hx
 simp [execOp,hop,resolve,invoke,builtin,hs,hx,r1,Result.andThen]
 refine hK v' w' ⟨fun b=>S i b∨v'.ownBlock=some b,⟨r3.os,r3.tape,r3.output,r3.size,fun m hm hn=>r3.block m hm fun e=>hn ⟨i,hi,hAS m e.symm⟩⟩,?_,fun m hm=>?_,hE _⟩
 ·rw [hF]
  refine ⟨?_,fun b hb=>.inr hb⟩
  unfold Tm.NOwn
  rw [Tm.nmCells_append,List.length_append]
  exact r2
 ·rcases hm with hm|hm
  ·exact ⟨.inl ⟨i,hi,hm⟩,Nat.lt_of_lt_of_le (hl1 m hm) r3.size⟩
  ·refine ⟨?_,(Tm.oB r2 hm).2.1⟩
   rcases r4 with r4|r4
   ·rw [r4] at hm
    exact .inl ⟨i,hi,hAS m hm⟩
   ·rw [r4] at hm
    injection hm with hm
    exact .inr (by omega)
theorem step_nput {g n0 r:Nat} (e:En) (dv nv x:Value) (l:List Nm) (hV:V r=x) (hF:F j=ebxN g e dv l) (h0:(j,n0) ∈ cons) (hr:(j,r) ∈ cons) (hb0:(ebx g e dv nv).holds (V n0) w (S n0)) (h1:(nrow l).holds (V r) w (S r)) (hsep:∀ b,S r b→¬ S n0 b)
    (hlt:∀ b,S r b→b<w.heap.size) (hE:∀ v,E j V v) (hg:Rg.Open o V) (h:(execOp b.eval o).run Tryz.prog w=.ok .skip (w.setCell ⟨g,7,none⟩ x)):Rg.Dz Tryz.prog o V b w (Rc.Good F cons E V S j w):=by
 subst hV
 obtain ⟨hb,hSg⟩:=hb0
 refine .of hg fun K hK=>?_
 unfold Oper.wp
 rw [h]
 have hne:∀ b,S r b→b≠g:=fun b h1 e=>hsep b h1 (e ▸ hSg)
 refine hK undef (w.setCell ⟨g,7,none⟩ (V r)) ⟨fun b=>b=g∨S r b,⟨rfl,rfl,rfl,by simp [World.setCell],fun m hm hn=>Below.heap_setCell _ _ _ _ (fun e=>hn ⟨n0,h0,e ▸ hSg⟩)⟩,?_,fun m hm=>?_,hE _⟩
 ·rw [hF]
  exact ⟨.inl rfl,V r,hb.set_ 7 (V r),Tm.own_keep h1.1 fun b hb2=>Below.heap_setCell _ _ _ _ (hne b (h1.2 b hb2)),fun b hb2=>.inr (h1.2 b hb2)⟩
 ·rcases hm with rfl|hm
  ·exact ⟨.inl ⟨n0,h0,hSg⟩,by have:=hb.lt;simpa [World.setCell] using this⟩
  ·exact ⟨.inl ⟨r,hr,hm⟩,by have:=hlt m hm;simpa [World.setCell] using this⟩
end
theorem three_inv {ge gr n:Nat} {XB:Option Nat} {nv dv:Value} {l:List Nm} {e:En} {s:Co.Rs} {w:World} (hL:Tm.NOwn w 0 nv l) (hb:Blk w ge 92 (Tm.enCells e dv nv)) (hR:Rr gr XB s w) (hX:∀ b,XB=some b→b<w.heap.size∧b≠ge∧nv.ownBlock≠some b) (hgr:gr≠ge∧nv.ownBlock≠some gr∧nv.ownBlock≠some ge)
    (F:Nat→Rc.Fact) (cons:List (Nat × Nat)) (hF:F n=ncont nv l) (hF2:F (n+1)=ebx ge e dv nv) (hF3:F (n+2)=rdF gr XB w undef s) :
    Rc.Inv F cons (Rg.alias []) w.drew (fun b=>nv.ownBlock=some b∨b=ge∨b=gr∨XB=some b) (fun i=>n≤i∧i<n+3) (fun _=>undef) (fun i b=>(i=n∧nv.ownBlock=some b)∨(i=n+1∧b=ge)∨(i=n+2∧(b=gr∨XB=some b))) w.drew:=by
 refine ⟨Mod.refl _ _,fun i hi=>?_,fun i b hi hb2=>?_,fun i k b hi hk hne h1 h2=>?_,fun j _=>fun i f hm=>by simp at hm⟩
 ·rcases (show i=n∨i=n+1∨i=n+2 by have:=hi.1;omega) with rfl|rfl|rfl
  ·rw [hF];exact ⟨Tm.own_keep hL fun _ _=>rfl,fun b hb=>.inl ⟨rfl,hb⟩⟩
  ·rw [hF2];exact ⟨hb,.inr (.inl ⟨rfl,rfl⟩)⟩
  ·rw [hF3];exact ⟨rfl,hR.keep (Nat.le_refl _) rfl fun _ _=>rfl,.inr (.inr ⟨rfl,.inl rfl⟩),fun b hb=>⟨.inr (.inr ⟨rfl,.inr hb⟩),rfl⟩⟩
 ·rcases hb2 with ⟨_,h⟩|⟨_,rfl⟩|⟨_,rfl|h⟩
  ·exact ⟨(Tm.oB hL h).2.1,.inl (.inl h)⟩
  ·exact ⟨hb.lt,.inl (.inr (.inl rfl))⟩
  ·exact ⟨hR.lt,.inl (.inr (.inr (.inl rfl)))⟩
  ·exact ⟨(hX b h).1,.inl (.inr (.inr (.inr h)))⟩
 ·obtain ⟨g1,g2,g3⟩:=hgr
  rcases h1 with ⟨h3,h4⟩|⟨h3,h4⟩|⟨h3,h4⟩ <;> rcases h2 with ⟨h5,h6⟩|⟨h5,h6⟩|⟨h5,h6⟩
  ·omega
  ·subst h6;exact g3 h4
  ·rcases h6 with rfl|h6
   ·exact g2 h4
   ·exact (hX b h6).2.2 h4
  ·subst h4;exact g3 h6
  ·omega
  ·subst h4
   rcases h6 with h6|h6
   ·exact g1 h6.symm
   ·exact (hX b h6).2.1 rfl
  ·rcases h4 with rfl|h4
   ·exact g2 h6
   ·exact (hX b h4).2.2 h6
  ·subst h6
   rcases h4 with h4|h4
   ·exact g1 h4.symm
   ·exact (hX b h4).2.1 rfl
  ·omega
end Ts
end Go.Proofs.YtjoedamiilgajaaGreat
