/-
  OWN WORK. The program's tree: linked, of any nodes.
-/
import Derived.Test.YtbnpgakmhhfjkaaGreatDoorOTsTally
namespace Go.Proofs.YtbnpgakmhhfjkaaGreatDoor
open Go.RowKit Rc
open Tr (Nm En T)
namespace Tm
variable {p:Nat} {av:Value} {gs:List Nat} {S:Nat→Prop} {t:T} {w:World}
def upN (l:List Nm) (x:Int):Nat:=l.countP fun n=>n.2==x
def fT (t0:T) (l:List Nm) (x:Int):Int:=(if x=0 then 1 else 0)+((Tr.count t0 x:Nat):Int)+(upN l x:Nat)
theorem flat_take {j:Nat} {e:En} (h:t[j]?=some e):Tr.flat (t.take (j+1))=Tr.flat (t.take j)++e.names.map fun n=>(e.nd.id,n):=by
 unfold Tr.flat
 rw [take_next h,List.flatMap_append]
 simp
theorem fT_next {j:Nat} {e:En} (h:t[j]?=some e):fT (t.take (j+1)) []=fT (t.take j) e.names:=by
 funext x
 unfold fT Tr.count upN
 rw [flat_take h,List.countP_append,List.countP_map]
 have:(fun n:Nm=>n.2==x)=((fun y:Int × Nm=>y.2.2==x) ∘ fun n=>(e.nd.id,n)):=rfl
 rw [← this]
 simp
 omega
theorem fT_one {t0:T} {l:List Nm} {k:Nat} {n:Nm} (h:l[k]?=some n):(fun y=>if y=n.2 then fT t0 (l.take k) n.2+1 else fT t0 (l.take k) y)=fT t0 (l.take (k+1)):=by
 funext y
 have h1:upN (l.take (k+1)) y=upN (l.take k) y+(if y=n.2 then 1 else 0):=by
  unfold upN
  rw [take_next h,List.countP_append]
  by_cases hy:y=n.2
  ·subst hy;simp
  ·have hy2:¬ n.2=y:=fun e=>hy e.symm
   simp [hy,hy2]
 unfold fT
 rw [h1]
 by_cases hy:y=n.2
 ·subst hy
  rw [if_pos rfl,if_pos rfl]
  omega
 ·rw [if_neg hy,if_neg hy]
  omega
theorem flat_bound:∀ (t:T) (m:Nat),(∀ e ∈ t,e.names.length≤m)→(Tr.flat t).length≤t.length*m
 | [],_,_=>by simp [Tr.flat]
 | e :: t,m,h=>by
   have h1:=flat_bound t m fun e he=>h e (.tail _ he)
   have h2:=h e (.head _)
   unfold Tr.flat at h1 ⊢
   rw [List.flatMap_cons,List.length_append,List.length_map,List.length_cons,Nat.add_mul]
   omega
theorem fT_bound (t0:T) (l:List Nm) (x:Int):0≤fT t0 l x∧fT t0 l x≤1+((Tr.flat t0).length+l.length:Nat):=by
 have h1:Tr.count t0 x≤(Tr.flat t0).length:=List.countP_le_length
 have h2:upN l x≤l.length:=List.countP_le_length
 unfold fT
 split <;> omega
def linkB (t:T) (e:En):Bool:=(fT t [] e.nd.id==e.nd.links)&&!((e.nd.kind==2&&!(e.nd.links==1)) || (e.nd.shut&&e.nd.links==0))
theorem wf_of {x:Int} (h0:0≤x) (h1:x≤1000000000):(Lit.int .i64 x).wf=true:=by
 simp only [Lit.wf,show IntKind.i64.min=-9223372036854775808 from rfl,show IntKind.i64.max=9223372036854775807 from rfl,Bool.and_eq_true,decide_eq_true_eq]
 omega
set_option maxHeartbeats 4000000 in
set_option maxRecDepth 100000 in
theorem linked_any (h:TIn p av gs S t w) (hne:t≠[]) (hlt:t.length≤64) (hid:∀ e ∈ t,0≤e.nd.id∧e.nd.id≤65535) (hnm:∀ e ∈ t,e.names.length≤65535∧∀ n ∈ e.names,0≤n.2∧n.2≤65535) :
    Calls Tryz.prog 160 #[.pointer (some ⟨p,0,none⟩)] w fun r w'=>r=.returned (.bool (t.all (linkB t)))∧Below w.heap.size w w':=by
 have hmm:=@run_makeMap Tryz.prog
 obtain ⟨w1,hr1,hT1,hG1⟩:=(Tally.made w).put (by decide) 0 1 (by decide) (by decide)
 have hb1:Below w.heap.size w w1:=by
  have h0:=below_new w (.map #[] 0)
  exact ⟨hG1.os.trans h0.os,hG1.tape.trans h0.tape,hG1.output.trans h0.output,Nat.le_trans h0.size hG1.size,fun b hb=>(hG1.block b (Nat.lt_of_lt_of_le hb h0.size) fun e=>by cases e;omega).trans (h0.block b hb)⟩
 have HB1:=Lib.hid hb1
 have HT1:Hid (Tally w1 w.heap.size 1 (fT [] [])):=by
  have e:fT [] []=fun y=>if y=0 then 1 else 0:=by
   funext y
   unfold fT Tr.count Tr.flat upN
   by_cases hy:y=0 <;> simp [hy]
  rw [e];exact hT1
 have HTW:=Lib.hid h
 have HT:=Lib.hid (h.below hb1)
 have c0:w1.cell? ⟨p,0,none⟩=some av:=HT.out.box.cell 0
 have hl:=h.each.len
 obtain ⟨A,c,hav,hc,hA⟩:=own_form h.row
 have h0g:0<gs.length:=by
  rw [hl]
  cases t with
  | nil=>exact absurd rfl hne
  | cons=>simp
 obtain ⟨q,rfl,_,_,hq,hcell⟩:=hA h0g
 have HC:=Lib.hid hcell
 have HL:=Lib.hid hl
 have hg9:gs.length≤64:=by omega
 have HID:=Lib.hid hid
 have HNM:=Lib.hid hnm
 subst hav
 clear h hA hcell hl hid hnm hG1 hT1 hb1 hlt
 go_enter Tryz.func160,Tryz.ntmps160
 go_wp2_with fail
 go_loopw [5,7,17] (fun t5 t7 t17 wr=>∃ (j:Nat) (v5 v7:Value),t5=v5∧t7=v7∧t17=.int .i64 j∧j≤gs.length∧Hid (Tally wr w.heap.size (1+(Tr.flat (t.take j)).length) (fT (t.take j) []))∧Hid (Below w.heap.size w wr)) (fun _ _ t17 _=>gs.length-(match t17 with|.int _ k=>k.toNat|_=>0))
 case atStart=>exact ⟨0,_,_,rfl,rfl,rfl,Nat.zero_le _,HT1.out,HB1.out⟩
 case round =>
  obtain ⟨j,v5,v7,rfl,rfl,rfl,hj,HTA,HB⟩:=hrel
  by_cases hk:j<gs.length
  ·obtain ⟨e,he⟩:∃ e,t[j]?=some e:=⟨_,List.getElem?_eq_getElem (by rw [← HL.out];exact hk)⟩
   obtain ⟨g,S1,hg,hE,hS1⟩:=HTW.out.each.get he
   obtain ⟨dv,nv,hE,rfl⟩:=hE
   have c1:wr.cell? ⟨q,j,none⟩=some (.pointer (some ⟨g,0,none⟩)):=(cell_same (HB.out.block q hq)).trans (HC.out j _ (by simp [ptrCells,hg]))
   have c7:wr.cell? ⟨g,7,none⟩=some nv:=(cell_same (HB.out.block g hE.box.lt)).trans (hE.box.cell 7)
   obtain ⟨A7,k7,hv7,hk7,hN7⟩:=hE.names.form
   subst hv7
   have hlt2:(j:Int)<(gs.length:Int):=by omega
   have hmem:e ∈ t:=List.mem_of_getElem? he
   obtain ⟨l,hl⟩:∃ l,l=e.names:=⟨_,rfl⟩
   have hnb:l.length≤65535:=by rw [hl];exact (HNM.out e hmem).1
   have HNI:Hid (∀ n ∈ l,0≤n.2∧n.2≤65535):=by rw [hl];exact (HNM.out e hmem).2
   have HFN:Hid (fT (t.take (j+1)) []=fT (t.take j) l∧(Tr.flat (t.take (j+1))).length=(Tr.flat (t.take j)).length+l.length):=by
    rw [hl]
    exact ⟨fT_next he,by rw [flat_take he,List.length_append,List.length_map]⟩
   have hfl:(Tr.flat (t.take j)).length≤4194240:=by
    have h1:=flat_bound (t.take j) 65535 fun e he=>(HNM.out e (List.mem_of_mem_take he)).1
    have h2:(t.take j).length≤64:=by rw [List.length_take];have:=HL.out;omega
    have h3:=Nat.mul_le_mul_right 65535 h2
    omega
   rw [← hl] at c7 hN7
   have HN7:=Lib.hid hN7
   obtain ⟨fl,hfl0⟩:∃ fl,fl=(Tr.flat (t.take j)).length:=⟨_,rfl⟩
   have HFL:Hid ((Tr.flat (t.take j)).length≤4194240):=hfl
   rw [← hfl0] at hfl HFN HTA
   clear he hg hE hS1 hN7 hl hmem hk7 hfl0
   go_wp2_with fail
   go_loopw [7,26] (fun t7 t26 ws=>∃ (k:Nat) (v7:Value),t7=v7∧t26=.int .i64 k∧k≤l.length∧Hid (Tally ws w.heap.size (1+fl+k) (fT (t.take j) (l.take k)))∧Hid (Below w.heap.size w ws)) (fun _ t26 _=>l.length-(match t26 with|.int _ k=>k.toNat|_=>0))
   case atStart=>exact ⟨0,_,rfl,rfl,Nat.zero_le _,HTA.out,HB.out⟩
   case round =>
    obtain ⟨k,v7,rfl,rfl,hk',HTB,HB2⟩:=hrel
    by_cases hkk:k<l.length
    ·obtain ⟨n,hn⟩:∃ n,l[k]?=some n:=⟨_,List.getElem?_eq_getElem hkk⟩
     obtain ⟨qn,rfl,_,_,hqn,hcn⟩:=HN7.out (by omega)
     have c1:wr.cell? ⟨qn,k*2,none⟩=some (.string (strOf n.1)):=(cell_same (HB2.out.block qn hqn)).trans (hcn k n hn).1
     have c2:wr.cell? ⟨qn,k*2+1,none⟩=some (.int .i64 n.2):=(cell_same (HB2.out.block qn hqn)).trans (hcn k n hn).2
     have hlt3:(k:Int)<(l.length:Int):=by omega
     have hni:=HNI.out n (List.mem_of_getElem? hn)
     have hwn:=wf_of hni.1 (by omega)
     obtain ⟨wn,hwn0⟩:∃ wn,wn=wr.alloc (.cells #[.string (strOf n.1),.int .i64 n.2] 116):=⟨_,rfl⟩
     obtain ⟨nb,hnb0⟩:∃ nb,nb=wr.heap.size:=⟨_,rfl⟩
     have hblk:Blk wn nb 116 [.string (strOf n.1),.int .i64 n.2]:=by rw [hwn0,hnb0];exact Blk.new wr _ _
     have hbn:Below wr.heap.size wr wn:=by rw [hwn0];exact below_new wr _
     have hTn:Tally wn w.heap.size (1+fl+k) (fT (t.take j) (l.take k)):=HTB.out.kept (hbn.block _ HTB.out.lt)
     have d1:wn.cell? ⟨nb,1,none⟩=some (.int .i64 n.2):=hblk.cell 1
     have hr0:=hTn.look n.2 hwn
     have hfb:=fT_bound (t.take j) (l.take k) n.2
     have hlk:(l.take k).length≤65535:=by rw [List.length_take];omega
     have hfl2:(Tr.flat (t.take j)).length≤4194240:=HFL.out
     obtain ⟨w3,hr3,hT3,hG3⟩:=hTn.put (by show _<9223372036854775807;omega) n.2 (fT (t.take j) (l.take k) n.2+1) hwn (wf_of (by omega) (by omega))
     rw [fT_one hn] at hT3
     obtain ⟨fx,hfx⟩:∃ fx,fx=fT (t.take j) (l.take k) n.2:=⟨_,rfl⟩
     rw [← hfx] at hr0 hr3 hfb
     have hfx9:0≤fx∧fx≤1000000000:=by omega
     have HT3:=Lib.hid hT3
     have HB3:Hid (Below w.heap.size w w3):=by
      have hb:=HB2.out.trans (hbn.mono HB2.out.size)
      exact ⟨hG3.os.trans hb.os,hG3.tape.trans hb.tape,hG3.output.trans hb.output,Nat.le_trans hb.size hG3.size,fun b hlt=>(hG3.block b (Nat.lt_of_lt_of_le hlt hb.size) fun e=>by cases e;omega).trans (hb.block b hlt)⟩
     clear hn hcn hni hwn hblk hbn hTn hfb hlk hfl2 hT3 hG3 hfx
     go_upto_region 8 with (fail)
     rw [← hwn0,← hnb0]
     clear hwn0 hnb0 c1 c2
     go_wp2_with fail
     go_roundw
     case rel=>exact ⟨k+1,_,rfl,by go_num,by omega,HT3.out,HB3.out⟩
     case measure=>simp;omega
    ·obtain rfl:k=l.length:=by omega
     have HTE:Hid (Tally wr w.heap.size (1+(Tr.flat (t.take (j+1))).length) (fT (t.take (j+1)) [])):=by
      have h1:=HTB.out
      rw [List.take_length] at h1
      rw [HFN.out.1,HFN.out.2,← Nat.add_assoc]
      exact h1
     go_wp2_with fail
     go_roundw
     case rel=>exact ⟨j+1,_,_,rfl,rfl,by go_num,by omega,HTE.out,HB2.out⟩
     case measure=>simp;omega
  ·obtain rfl:j=gs.length:=by omega
   have HTF:Hid (Tally wr w.heap.size (1+(Tr.flat t).length) (fT t [])):=by
    have h1:=HTA.out
    rw [show gs.length=t.length from HL.out,List.take_length] at h1
    exact h1
   have c0r:wr.cell? ⟨p,0,none⟩=some (.slice (some ⟨q,0,none⟩) gs.length c):=(HTW.out.below HB.out).box.cell 0
   go_wp2_with fail
   go_loopw [9,42] (fun t9 t42 ws=>∃ (j:Nat) (v9:Value),t9=v9∧t42=.int .i64 j∧j≤gs.length∧Hid ((t.take j).all (linkB t)=true)∧Hid (Tally ws w.heap.size (1+(Tr.flat t).length) (fT t []))∧Hid (Below w.heap.size w ws)) (fun _ t42 _=>gs.length-(match t42 with|.int _ k=>k.toNat|_=>0))
   case atStart=>exact ⟨0,_,rfl,rfl,Nat.zero_le _,rfl,HTF.out,HB.out⟩
   case round =>
    clear HTF HB c0r
    obtain ⟨j,v9,rfl,rfl,hj,HAL,HTF,HB⟩:=hrel
    by_cases hk:j<gs.length
    ·obtain ⟨e,he⟩:∃ e,t[j]?=some e:=⟨_,List.getElem?_eq_getElem (by rw [← HL.out];exact hk)⟩
     obtain ⟨g,S1,hg,hE,hS1⟩:=HTW.out.each.get he
     have c1:wr.cell? ⟨q,j,none⟩=some (.pointer (some ⟨g,0,none⟩)):=(cell_same (HB.out.block q hq)).trans (HC.out j _ (by simp [ptrCells,hg]))
     obtain ⟨e0,e1,e2,e3,e4,e5⟩:=(hE.keep fun b hb=>HB.out.block b (HTW.out.lt (.inr (.inr (hS1 b hb))))).cells
     have hlt2:(j:Int)<(gs.length:Int):=by omega
     have hmem:e ∈ t:=List.mem_of_getElem? he
     have hi:=HID.out e hmem
     have hTD:Tally wr.drew w.heap.size (1+(Tr.flat t).length) (fT t []):=HTF.out.kept rfl
     have hr0:=hTD.look e.nd.id (wf_of hi.1 (by omega))
     have HTD:=Lib.hid hTD
     have HBD:Hid (Below w.heap.size w wr.drew):=undrew_r HB.out
     have f0:wr.drew.cell? ⟨g,0,none⟩=some (.int .i64 e.nd.id):=e0
     have f1:wr.drew.cell? ⟨g,1,none⟩=some (.int .i64 e.nd.kind):=e1
     have f2:wr.drew.cell? ⟨g,2,none⟩=some (.int .i64 e.nd.links):=e2
     have f5:wr.drew.cell? ⟨g,5,none⟩=some (.bool e.nd.shut):=e5
     have HNO:linkB t e=false→Hid (t.all (linkB t)=false):=fun h1=>by
      show _=_
      rw [List.all_eq_false]
      exact ⟨e,hmem,by rw [h1];simp⟩
     have HYES:linkB t e=true→Hid ((t.take (j+1)).all (linkB t)=true):=fun h1=>by
      show _=_
      rw [take_next he,List.all_append,HAL.out]
      simp [h1]
     clear he hg hE hS1 hmem hi hTD
     go_upto_region 14 with (fail)
     clear e0 e1 e2 e3 e4 e5 c1
     refine wp_region_still_lit (by kernel_rfl) (by kernel_rfl) ?_
     have hdr:({ heap:=wr.heap,tape:=wr.tape,drawn:=wr.drawn+1,os:=wr.os,output:=wr.output }:World)=wr.drew:=rfl
     simp only [hdr]
     clear hdr
     obtain ⟨wd,hwd⟩:∃ wd,wd=wr.drew:=⟨_,rfl⟩
     rw [← hwd] at HTD HBD f0 f1 f2 f5 hr0 ⊢
     clear hwd
     repeat still_step
     refine wpStill_nil ?_
     obtain ⟨fx,hfx⟩:∃ fx,fx=fT t [] e.nd.id:=⟨_,rfl⟩
     rw [show linkB t e=((fT t [] e.nd.id==e.nd.links)&&!((e.nd.kind==2&&!(e.nd.links==1)) || (e.nd.shut&&e.nd.links==0))) from rfl] at HNO HYES
     rw [← hfx] at HNO HYES ⊢
     clear hfx hr0 f0
     rcases Bool.eq_false_or_eq_true (fx==e.nd.links) with q0|q0
     ·rcases Bool.eq_false_or_eq_true (e.nd.kind==2) with q1|q1 <;> rcases Bool.eq_false_or_eq_true (e.nd.links==1) with q2|q2 <;> rcases Bool.eq_false_or_eq_true e.nd.shut with q3|q3 <;> rcases Bool.eq_false_or_eq_true (e.nd.links==0) with q4|q4
      all_goals
       rw [q0,q1,q2,q3,q4] at HNO HYES
       rw [q3] at f5
       first
        | (exact absurd ((beq_iff_eq.1 q2).symm.trans (beq_iff_eq.1 q4)) (by decide))
        | (have HY:=HYES rfl
           clear HNO HYES
           go_wp2_with fail
           all_goals first
            | (exfalso;rename_i hz;exact hz (beq_iff_eq.1 q2))
            | (exfalso;rename_i hz;rw [hz] at q2;exact absurd q2 (by decide))
            | (go_roundw
               case rel=>exact ⟨j+1,_,rfl,by go_num,by omega,HY.out,HTD.out,HBD.out⟩
               case measure=>simp;omega))
        | (have HN:=HNO rfl
           clear HNO HYES
           go_wp2_with fail
           all_goals first
            | (exfalso;rename_i hz;exact hz (beq_iff_eq.1 q2))
            | (exfalso;rename_i hz;rw [hz] at q2;exact absurd q2 (by decide))
            | (go_ret;exact ⟨by rw [HN.out];rfl,HBD.out⟩))
     ·rw [q0] at HNO
      have HN:=HNO rfl
      clear HNO HYES
      go_wp2_with fail
      go_ret
      exact ⟨by rw [HN.out];rfl,HBD.out⟩
    ·obtain rfl:j=gs.length:=by omega
     have HR:Hid (t.all (linkB t)=true):=by
      have h1:=HAL.out
      rw [show gs.length=t.length from HL.out,List.take_length] at h1
      exact h1
     go_wp2_with fail
     go_ret
     exact ⟨by rw [HR.out];rfl,HB.out⟩
end Tm
end Go.Proofs.YtbnpgakmhhfjkaaGreatDoor
