/-
  OWN WORK. TrWalkP, TrWalkH, TsDeep, TrWalkN, TrHigh, TsEye, TsJoined, TsLeads
-/
import Derived.Test.YtbnpgakmhhfjkaaGreatDoorO08b
import Derived.Deep.RegionHeld3
import Derived.Test.YtbnpgakmhhfjkaaGreatDoorO06
namespace Go.Proofs.YtbnpgakmhhfjkaaGreatDoor
open Go.RowKit Rc
open Tr (Nm En T)
namespace Tm
variable {lim:Nat} {O:Eye} {f:FuncId} {cb:Array Value} {p:Nat} {av:Value} {gs:List Nat} {S:Nat→Prop} {t:T}
theorem cell_same {w w':World} {g o:Nat} (h:w'.heap[g]?=w.heap[g]?):w'.cell? ⟨g,o,none⟩=w.cell? ⟨g,o,none⟩:=by unfold World.cell?;rw [h]
theorem undrew_r {b:Nat} {w w':World} (h:Below b w w'):Below b w w'.drew:=⟨h.os,h.tape,h.output,h.size,h.block⟩
def shownOf (a:List Bs) (R:Nm→Shown) (k:Nm):Shown:=(a++[k.1],k.2) :: R k
theorem shown_next {a:List Bs} {R:Nm→Shown} {l:List Nm} {j:Nat} {k:Nm} (h:l[j]?=some k):(l.take (j+1)).flatMap (shownOf a R)=(l.take j).flatMap (shownOf a R)++shownOf a R k:=by
 rw [take_next h,List.flatMap_append]
 simp
theorem flat_le {a:List Bs} {R:Nm→Shown} {l:List Nm} {j:Nat} {k:Nm} (h:l[j]?=some k):((l.take j).flatMap (shownOf a R)).length+(1+(R k).length)≤(l.flatMap (shownOf a R)).length:=by
 have h1:=shown_next (a:=a) (R:=R) h
 have h2:((l.take (j+1)).flatMap (shownOf a R)).length≤(l.flatMap (shownOf a R)).length:=by
  conv=>rhs;rw [← List.take_append_drop (j+1) l]
  rw [List.flatMap_append,List.length_append]
  omega
 rw [h1,List.length_append] at h2
 unfold shownOf at h2 ⊢
 rw [List.length_cons] at h2
 omega
set_option maxHeartbeats 4000000 in
set_option maxRecDepth 100000 in
theorem walk_step (hS:Shows O f cb lim) (hG:Tr.Good t) (R:Nm→Shown) {i:Int} {ei:En} {gi:Nat} {row:Value} {a:List Bs} {seen:Shown} {B:Nat→Prop} {w:World}
    (hf:Tr.find t i=some ei) (hp:ptrOf gs t i=.pointer (some ⟨gi,0,none⟩)) (ha:a.length≤900) (h:WPre O p av gs S t row a seen B w) (hlim:seen.length+(ei.names.flatMap (shownOf a R)).length≤lim)
    (IH:∀ k ∈ ei.names,∀ (g1:Nat) (row1:Value) (seen1:Shown) (B1:Nat→Prop) (w1:World),ptrOf gs t k.2=.pointer (some ⟨g1,0,none⟩)→WPre O p av gs S t row1 (a++[k.1]) seen1 B1 w1→seen1.length+(R k).length≤lim →
     Calls Tryz.prog 57 #[.pointer (some ⟨p,0,none⟩),.pointer (some ⟨g1,0,none⟩),row1,.func (.func f) #[] cb] w1 (Walked O row1 (a++[k.1]) seen1 B1 w1 (R k))) :
    Calls Tryz.prog 57 #[.pointer (some ⟨p,0,none⟩),.pointer (some ⟨gi,0,none⟩),row,.func (.func f) #[] cb] w (Walked O row a seen B w (ei.names.flatMap (shownOf a R))):=by
 obtain ⟨gi',Si,hp',hE,hSi,hnl⟩:=h.tin.ptr hG hf
 obtain rfl:gi'=gi:=ptr_inj (hp'.symm.trans hp)
 obtain ⟨dv,nv,hE,rfl⟩:=hE
 have c7:w.cell? ⟨gi',7,none⟩=some nv:=hE.box.cell 7
 obtain ⟨A7,k7,hv7,hk7,hA⟩:=hE.names.form
 have hnb:∀ b,nv.ownBlock=some b→TrS p av S b:=fun b hb=>.inr (.inr (hSi b (.inr (.inr hb))))
 subst hv7
 obtain ⟨l,hl⟩:∃ l,l=ei.names:=⟨_,rfl⟩
 have HLD:Hid (∀ k ∈ l,∃ ek,Tr.find t k.2=some ek):=fun k hk=>Option.isSome_iff_exists.1 (hG.leads ei (Tr.find_some hf).1 k (hl ▸ hk)).2
 rw [← hl] at c7 hA IH hnl hlim ⊢
 have HLIM:=Lib.hid hlim
 have HA:=Lib.hid hA
 have HIH:=Lib.hid IH
 have HNB:=Lib.hid hnb
 have HW:=Lib.hid h
 have HG:=Lib.hid hG
 have hent:=hS.ent
 have HS:=Lib.hid hS
 clear hlim hA IH hnb h hG hS hE hSi hp' hp hf hl hk7
 go_enter Tryz.func57,Tryz.ntmps57
 go_wp2_with fail
 clear c7
 go_loopw [9,10,11,17] (fun t9 t10 t11 t17 wr=>∃ (j:Nat) (v9 v10 v11:Value),t9=v9∧t10=v10∧t11=v11∧t17=.int .i64 j∧j≤l.length∧Hid (∃ B1,WMid O row a seen B w ((l.take j).flatMap (shownOf a R)) B1 wr)) (fun _ _ _ t17 _=>l.length-(match t17 with|.int _ k=>k.toNat|_=>0))
 case atStart=>exact ⟨0,_,_,_,rfl,rfl,rfl,rfl,Nat.zero_le _,B,HW.out.start⟩
 case round =>
  obtain ⟨j,v9,v10,v11,rfl,rfl,rfl,rfl,hj,HM⟩:=hrel
  by_cases hk:j<l.length
  ·obtain ⟨k,hkj⟩:∃ k,l[j]?=some k:=⟨_,List.getElem?_eq_getElem hk⟩
   obtain ⟨q,rfl,hq1,_,hql,hcell⟩:=HA.out (by omega)
   obtain ⟨B1,hM⟩:=HM.out
   have HM1:=Lib.hid hM
   have hpre:=hM.pre HW.out
   have HPRE:=Lib.hid hpre
   have hsame:wr.heap[q]?=w.heap[q]?:=hM.mod.block q hql fun hx=>hx.elim (fun h1=>HW.out.apT q h1 (HNB.out q hq1)) fun h1=>(HW.out.apR q h1).2 (HNB.out q hq1)
   have c1:wr.cell? ⟨q,j*2,none⟩=some (.string (strOf k.1)):=(cell_same hsame).trans (hcell j k hkj).1
   have c2:wr.cell? ⟨q,j*2+1,none⟩=some (.int .i64 k.2):=(cell_same hsame).trans (hcell j k hkj).2
   have hlt2:(j:Int)<(l.length:Int):=by omega
   obtain ⟨ek,hek⟩:=HLD.out k (List.mem_of_getElem? hkj)
   obtain ⟨gk,Sk,hpk,hEk,hSk,_⟩:=hpre.tin.ptr HG.out hek
   have hid:ek.nd.id=k.2:=(Tr.find_some hek).2
   have HFIND:Hid (∀ W,wr.heap.size≤W.heap.size→(∀ b,TrS p av S b→W.heap[b]?=wr.heap[b]?)→Calls Tryz.prog 56 #[.pointer (some ⟨p,0,none⟩),.int .i64 k.2] W fun e w'=>e=.returned (.pointer (some ⟨gk,0,none⟩))∧w'=W):=fun W _ hW=>by
    have:=find_any (hpre.tin.keep hW) k.2 (by have:=HG.out.few;omega)
    rw [hpk] at this
    exact this
   have HPK:=Lib.hid hpk
   have HEK:=Lib.hid hek
   have HKJ:=Lib.hid hkj
   have HID:=Lib.hid hid
   have HBND:Hid ((seen++(l.take j).flatMap (shownOf a R)).length+(1+(R k).length)≤lim):=by
    show _≤_
    have h1:=HLIM.out
    have h2:=flat_le (a:=a) (R:=R) hkj
    rw [List.length_append]
    omega
   clear hM hpre hsame hcell hek hpk hEk hSk hid hkj hq1 hql
   go_upto_region 3 with (fail)
   obtain ⟨wn,hwn⟩:∃ wn,wn=wr.alloc (.cells #[.string (strOf k.1),.int .i64 k.2] 116):=⟨_,rfl⟩
   obtain ⟨nb,hnb⟩:∃ nb,nb=wr.heap.size:=⟨_,rfl⟩
   have hblk:Blk wn nb 116 [.string (strOf k.1),.int .i64 k.2]:=by rw [hwn,hnb];exact Blk.new wr _ _
   have hbn:Below wr.heap.size wr wn:=by rw [hwn];exact below_new wr _
   have hba:Below wr.heap.size wr (wn.drew.alloc (.cells #[.string (strOf k.1)] 9)):=undrew_r hbn |>.trans ((below_new wn.drew _).mono hbn.size)
   have HBA:=Lib.hid hba
   have HSO:Hid (SOwn (wn.drew.alloc (.cells #[.string (strOf k.1)] 9)) row a):=HPRE.out.own.keep fun b hb=>hba.block b (HPRE.out.own.lt hb)
   have hrd:RdS (wn.drew.alloc (.cells #[.string (strOf k.1)] 9)) (some ⟨wn.drew.heap.size,0,none⟩) [k.1]:=rds_one wn.drew k.1 9
   have HRD:=Lib.hid hrd
   have HLA:Hid (a.length≤1000000):=by show _≤_;omega
   have HND:Hid (∀ w2,(wn.drew.alloc (.cells #[.string (strOf k.1)] 9)).grownBy w2 row.ownBlock→w2.cell? ⟨nb,0,none⟩=some (.string (strOf k.1))∧w2.cell? ⟨nb,1,none⟩=some (.int .i64 k.2)):=fun w2 hg=>by
    have h1:Blk (wn.drew.alloc (.cells #[.string (strOf k.1)] 9)) nb 116 [.string (strOf k.1),.int .i64 k.2]:=Blk.below (w:=wn.drew) hblk (below_new wn.drew _) hblk.lt
    have h2:Blk w2 nb 116 [.string (strOf k.1),.int .i64 k.2]:=h1.grown hg fun e=>by have:=HPRE.out.own.lt e.symm;omega
    exact ⟨h2.cell 0,h2.cell 1⟩
   have HFIND2:Hid (∀ w2,(wn.drew.alloc (.cells #[.string (strOf k.1)] 9)).grownBy w2 row.ownBlock→Calls Tryz.prog 56 #[.pointer (some ⟨p,0,none⟩),.int .i64 k.2] w2 fun e w'=>e=.returned (.pointer (some ⟨gk,0,none⟩))∧w'=w2):=fun w2 hg =>
    HFIND.out w2 (Nat.le_trans hba.size hg.size) fun b hT=>(hg.block b (Nat.lt_of_lt_of_le (HPRE.out.tin.lt hT) hba.size) fun e=>(HPRE.out.apR b e.symm).2 hT).trans (hba.block b (HPRE.out.tin.lt hT))
   have d0:wn.cell? ⟨nb,0,none⟩=some (.string (strOf k.1)):=hblk.cell 0
   have d1:wn.cell? ⟨nb,1,none⟩=some (.int .i64 k.2):=hblk.cell 1
   have d1a:(wn.drew.alloc (.cells #[.string (strOf k.1)] 9)).cell? ⟨nb,1,none⟩=some (.int .i64 k.2):=cell_alloc (w:=wn.drew) _ d1
   obtain ⟨qa,hqa⟩:∃ qa,qa=a++[k.1]:=⟨_,rfl⟩
   have HQA:=Lib.hid hqa
   rw [← hwn,← hnb]
   clear hwn hnb hblk hbn hba hrd hqa c1 c2 HFIND
   go_region_held3 (fun w'=>w'.cell? ⟨nb,0,none⟩=some (.string (strOf k.1))∧w'.cell? ⟨nb,1,none⟩=some (.int .i64 k.2))
    (first
     | go_keep
     | exact HND.out _ HG2.out)
    (first
     | (go_at_call 56;refine (HFIND2.out w2 HG2.out).mono ?_;rintro e1 w3 ⟨rfl,rfl⟩)
     | (refine step_append_kept (v:=row) (l:=a) (by rfl) (.tmp 21) (.tmp 24) (by rfl) (by rfl) HSO.out _ k.1 1 (by rfl) HRD.out HLA.out ?_;intro v2 w2 HO2 HG2 HP2 HK2;rw [← HQA.out] at HO2;obtain ⟨A2,c2,hv2,hc2,hrd2,hb2⟩:=HO2.out.form;subst hv2)
     | fail)
   have ho3:SOwn w3 (.slice A2 qa.length c2) (a++[k.1]):=by rw [← HQA.out];exact HO2.out
   have hpre2:=HPRE.out.hung HBA.out ho3 HG2.out HP2.out
   obtain ⟨gk2,Sk2,hpk2,hEk2,hSk2,_⟩:=hpre2.tin.ptr HG.out HEK.out
   obtain rfl:gk2=gk:=ptr_inj (hpk2.symm.trans HPK.out)
   have hq:qa.length≤1000:=by rw [HQA.out,List.length_append];show _+1≤_;omega
   have hcall:=HS.out.call w3 _ B1 A2 qa c2 gk2 ek Sk2 hpre2.at_ (by have:=HBND.out;omega) hrd2 hc2 hq (fun b hl hb h1=>(hpre2.apR b (hb2 b hl hb)).1 h1) hEk2 (fun b hb h1=>hpre2.apT b h1 (.inr (.inr (hSk2 b hb))))
   rw [HID.out,HQA.out] at hcall
   have hql:(a++[k.1]).length=qa.length:=by rw [HQA.out]
   rw [hql] at hcall
   have HCL:=Lib.hid hcall
   have HPRE2:=Lib.hid hpre2
   have HO3:=Lib.hid ho3
   clear ho3 hpre2 hpk2 hEk2 hSk2 hq hcall hrd2 hc2 hb2 d0 d1 d1a HO2 HND HFIND2 HSO HRD hql
   go_wp2_with fail
   refine HCL.out.mono ?_
   rintro r w4 ⟨rfl,B2,h1,h2,h3⟩
   have HWALK:=Lib.hid (HIH.out k (List.mem_of_getElem? HKJ.out) gk2 _ _ B2 w4 HPK.out (HPRE2.out.told h1 h2 h3) (by have:=HBND.out;rw [List.length_append,List.length_singleton];omega))
   have HROUND:Hid (∀ B3 w5,WMid O (.slice A2 qa.length c2) (a++[k.1]) ((seen++(l.take j).flatMap (shownOf a R))++[(a++[k.1],k.2)]) B2 w4 (R k) B3 w5→WMid O row a (seen++(l.take j).flatMap (shownOf a R)) B1 wr (shownOf a R k) B3 w5):=fun B3 w5 hm=>HPRE.out.round HBA.out HO3.out HG2.out HP2.out HK2.out h2 h3 hm
   clear h1 h2 h3 HCL HG2 HP2 HK2
   go_wp2_with fail
   refine HWALK.out.mono ?_
   rintro r w5 ⟨rfl,B3,hmid⟩
   have HNX:Hid (∃ B',WMid O row a seen B w ((l.take (j+1)).flatMap (shownOf a R)) B' w5):=by
    rw [shown_next HKJ.out]
    exact ⟨B3,HM1.out.trans (HROUND.out B3 w5 hmid)⟩
   clear hmid HWALK HROUND
   go_wp2_with fail
   go_roundw
   case rel=>exact ⟨j+1,_,_,_,rfl,rfl,rfl,by go_num,by omega,HNX.out⟩
   case measure=>simp;omega
  ·obtain rfl:j=l.length:=by omega
   have HEND:Hid (∃ B1,WMid O row a seen B w (l.flatMap (shownOf a R)) B1 wr):=by
    have:=HM.out
    rw [List.take_length] at this
    exact this
   go_wp2_with fail
   refine bodyPost_end (results_none rfl _ _ _) rfl ?_
   exact ⟨rfl,HEND.out⟩
end Tm
end Go.Proofs.YtbnpgakmhhfjkaaGreatDoor
namespace Go.Proofs.YtbnpgakmhhfjkaaGreatDoor
open Go.RowKit Rc
open Tr (Nm En T)
namespace Tm
variable {lim:Nat} {O:Eye} {f:FuncId} {cb:Array Value} {p:Nat} {av:Value} {gs:List Nat} {S:Nat→Prop} {t:T} {w:World}
structure ShowsH (O:Eye) (f:FuncId) (cb:Array Value) (lim:Nat) (t:T):Prop where
 ent:∀ (args:Array Value) (w:World),(callFunc f args).run Tryz.prog w=.ok (.enter f args) w
 call:∀ (w:World) (seen:Shown) (B:Nat→Prop) (A:Option Addr) (q:List Bs) (cap g:Nat) (e:En) (S1:Nat→Prop),Tr.find t e.nd.id=some e→O.At seen B w→seen.length<lim→RdS w A q→q.length≤cap→q.length≤1000→(∀ b,0<q.length→A.map (·.block)=some b→¬ B b)→EAt g e S1 w→(∀ b,S1 b→¬ B b) →
  Calls Tryz.prog f (#[.slice A q.length cap,.pointer (some ⟨g,0,none⟩)]++cb) w fun r w'=>r=.returned (.tuple #[])∧∃ B',O.At (seen++[(q,e.nd.id)]) B' w'∧Mod w w' B∧∀ b,B' b→B b∨w.heap.size≤b
theorem TIn.ptrH (h:TIn p av gs S t w) (hG:Tr.Half t) {i:Int} {e:En} (hf:Tr.find t i=some e):∃ g S1,ptrOf gs t i=.pointer (some ⟨g,0,none⟩)∧EAt g e S1 w∧(∀ b,S1 b→S b)∧e.names.length≤4194240:=by
 obtain ⟨A,B,rfl,he,hA,hB⟩:=hG.ris.split hf
 obtain ⟨ga,g,gb,S1,rfl,hl,h1,h2,_⟩:=h.each.mid
 exact ⟨g,S1,ptrOf_mid hl (fun a ha=>by have:=hA a ha;omega) he,h1,h2,hG.names_le (Tr.find_some hf).1⟩
set_option maxHeartbeats 4000000 in
set_option maxRecDepth 100000 in
theorem walk_stepH (hS:ShowsH O f cb lim t) (hG:Tr.Half t) (R:Nm→Shown) {i:Int} {ei:En} {gi:Nat} {row:Value} {a:List Bs} {seen:Shown} {B:Nat→Prop} {w:World}
    (hf:Tr.find t i=some ei) (hp:ptrOf gs t i=.pointer (some ⟨gi,0,none⟩)) (ha:a.length≤900) (h:WPre O p av gs S t row a seen B w) (hlim:seen.length+(ei.names.flatMap (shownOf a R)).length≤lim)
    (IH:∀ k ∈ ei.names,∀ (g1:Nat) (row1:Value) (seen1:Shown) (B1:Nat→Prop) (w1:World),ptrOf gs t k.2=.pointer (some ⟨g1,0,none⟩)→WPre O p av gs S t row1 (a++[k.1]) seen1 B1 w1→seen1.length+(R k).length≤lim →
     Calls Tryz.prog 57 #[.pointer (some ⟨p,0,none⟩),.pointer (some ⟨g1,0,none⟩),row1,.func (.func f) #[] cb] w1 (Walked O row1 (a++[k.1]) seen1 B1 w1 (R k))) :
    Calls Tryz.prog 57 #[.pointer (some ⟨p,0,none⟩),.pointer (some ⟨gi,0,none⟩),row,.func (.func f) #[] cb] w (Walked O row a seen B w (ei.names.flatMap (shownOf a R))):=by
 obtain ⟨gi',Si,hp',hE,hSi,hnl⟩:=h.tin.ptrH hG hf
 obtain rfl:gi'=gi:=ptr_inj (hp'.symm.trans hp)
 obtain ⟨dv,nv,hE,rfl⟩:=hE
 have c7:w.cell? ⟨gi',7,none⟩=some nv:=hE.box.cell 7
 obtain ⟨A7,k7,hv7,hk7,hA⟩:=hE.names.form
 have hnb:∀ b,nv.ownBlock=some b→TrS p av S b:=fun b hb=>.inr (.inr (hSi b (.inr (.inr hb))))
 subst hv7
 obtain ⟨l,hl⟩:∃ l,l=ei.names:=⟨_,rfl⟩
 have HLD:Hid (∀ k ∈ l,∃ ek,Tr.find t k.2=some ek):=fun k hk=>Option.isSome_iff_exists.1 (hG.leads ei (Tr.find_some hf).1 k (hl ▸ hk)).2
 rw [← hl] at c7 hA IH hnl hlim ⊢
 have HLIM:=Lib.hid hlim
 have HA:=Lib.hid hA
 have HIH:=Lib.hid IH
 have HNB:=Lib.hid hnb
 have HW:=Lib.hid h
 have HG:=Lib.hid hG
 have hent:=hS.ent
 have HS:=Lib.hid hS
 clear hlim hA IH hnb h hG hS hE hSi hp' hp hf hl hk7
 go_enter Tryz.func57,Tryz.ntmps57
 go_wp2_with fail
 clear c7
 go_loopw [9,10,11,17] (fun t9 t10 t11 t17 wr=>∃ (j:Nat) (v9 v10 v11:Value),t9=v9∧t10=v10∧t11=v11∧t17=.int .i64 j∧j≤l.length∧Hid (∃ B1,WMid O row a seen B w ((l.take j).flatMap (shownOf a R)) B1 wr)) (fun _ _ _ t17 _=>l.length-(match t17 with|.int _ k=>k.toNat|_=>0))
 case atStart=>exact ⟨0,_,_,_,rfl,rfl,rfl,rfl,Nat.zero_le _,B,HW.out.start⟩
 case round =>
  obtain ⟨j,v9,v10,v11,rfl,rfl,rfl,rfl,hj,HM⟩:=hrel
  by_cases hk:j<l.length
  ·obtain ⟨k,hkj⟩:∃ k,l[j]?=some k:=⟨_,List.getElem?_eq_getElem hk⟩
   obtain ⟨q,rfl,hq1,_,hql,hcell⟩:=HA.out (by omega)
   obtain ⟨B1,hM⟩:=HM.out
   have HM1:=Lib.hid hM
   have hpre:=hM.pre HW.out
   have HPRE:=Lib.hid hpre
   have hsame:wr.heap[q]?=w.heap[q]?:=hM.mod.block q hql fun hx=>hx.elim (fun h1=>HW.out.apT q h1 (HNB.out q hq1)) fun h1=>(HW.out.apR q h1).2 (HNB.out q hq1)
   have c1:wr.cell? ⟨q,j*2,none⟩=some (.string (strOf k.1)):=(cell_same hsame).trans (hcell j k hkj).1
   have c2:wr.cell? ⟨q,j*2+1,none⟩=some (.int .i64 k.2):=(cell_same hsame).trans (hcell j k hkj).2
   have hlt2:(j:Int)<(l.length:Int):=by omega
   obtain ⟨ek,hek⟩:=HLD.out k (List.mem_of_getElem? hkj)
   obtain ⟨gk,Sk,hpk,hEk,hSk,_⟩:=hpre.tin.ptrH HG.out hek
   have hid:ek.nd.id=k.2:=(Tr.find_some hek).2
   have HFIND:Hid (∀ W,wr.heap.size≤W.heap.size→(∀ b,TrS p av S b→W.heap[b]?=wr.heap[b]?)→Calls Tryz.prog 56 #[.pointer (some ⟨p,0,none⟩),.int .i64 k.2] W fun e w'=>e=.returned (.pointer (some ⟨gk,0,none⟩))∧w'=W):=fun W _ hW=>by
    have:=find_any (hpre.tin.keep hW) k.2 (by have:=HG.out.few;omega)
    rw [hpk] at this
    exact this
   have HPK:=Lib.hid hpk
   have HEK:=Lib.hid hek
   have HKJ:=Lib.hid hkj
   have HID:=Lib.hid hid
   have HBND:Hid ((seen++(l.take j).flatMap (shownOf a R)).length+(1+(R k).length)≤lim):=by
    show _≤_
    have h1:=HLIM.out
    have h2:=flat_le (a:=a) (R:=R) hkj
    rw [List.length_append]
    omega
   clear hM hpre hsame hcell hek hpk hEk hSk hid hkj hq1 hql
   go_upto_region 3 with (fail)
   obtain ⟨wn,hwn⟩:∃ wn,wn=wr.alloc (.cells #[.string (strOf k.1),.int .i64 k.2] 116):=⟨_,rfl⟩
   obtain ⟨nb,hnb⟩:∃ nb,nb=wr.heap.size:=⟨_,rfl⟩
   have hblk:Blk wn nb 116 [.string (strOf k.1),.int .i64 k.2]:=by rw [hwn,hnb];exact Blk.new wr _ _
   have hbn:Below wr.heap.size wr wn:=by rw [hwn];exact below_new wr _
   have hba:Below wr.heap.size wr (wn.drew.alloc (.cells #[.string (strOf k.1)] 9)):=undrew_r hbn |>.trans ((below_new wn.drew _).mono hbn.size)
   have HBA:=Lib.hid hba
   have HSO:Hid (SOwn (wn.drew.alloc (.cells #[.string (strOf k.1)] 9)) row a):=HPRE.out.own.keep fun b hb=>hba.block b (HPRE.out.own.lt hb)
   have hrd:RdS (wn.drew.alloc (.cells #[.string (strOf k.1)] 9)) (some ⟨wn.drew.heap.size,0,none⟩) [k.1]:=rds_one wn.drew k.1 9
   have HRD:=Lib.hid hrd
   have HLA:Hid (a.length≤1000000):=by show _≤_;omega
   have HND:Hid (∀ w2,(wn.drew.alloc (.cells #[.string (strOf k.1)] 9)).grownBy w2 row.ownBlock→w2.cell? ⟨nb,0,none⟩=some (.string (strOf k.1))∧w2.cell? ⟨nb,1,none⟩=some (.int .i64 k.2)):=fun w2 hg=>by
    have h1:Blk (wn.drew.alloc (.cells #[.string (strOf k.1)] 9)) nb 116 [.string (strOf k.1),.int .i64 k.2]:=Blk.below (w:=wn.drew) hblk (below_new wn.drew _) hblk.lt
    have h2:Blk w2 nb 116 [.string (strOf k.1),.int .i64 k.2]:=h1.grown hg fun e=>by have:=HPRE.out.own.lt e.symm;omega
    exact ⟨h2.cell 0,h2.cell 1⟩
   have HFIND2:Hid (∀ w2,(wn.drew.alloc (.cells #[.string (strOf k.1)] 9)).grownBy w2 row.ownBlock→Calls Tryz.prog 56 #[.pointer (some ⟨p,0,none⟩),.int .i64 k.2] w2 fun e w'=>e=.returned (.pointer (some ⟨gk,0,none⟩))∧w'=w2):=fun w2 hg =>
    HFIND.out w2 (Nat.le_trans hba.size hg.size) fun b hT=>(hg.block b (Nat.lt_of_lt_of_le (HPRE.out.tin.lt hT) hba.size) fun e=>(HPRE.out.apR b e.symm).2 hT).trans (hba.block b (HPRE.out.tin.lt hT))
   have d0:wn.cell? ⟨nb,0,none⟩=some (.string (strOf k.1)):=hblk.cell 0
   have d1:wn.cell? ⟨nb,1,none⟩=some (.int .i64 k.2):=hblk.cell 1
   have d1a:(wn.drew.alloc (.cells #[.string (strOf k.1)] 9)).cell? ⟨nb,1,none⟩=some (.int .i64 k.2):=cell_alloc (w:=wn.drew) _ d1
   obtain ⟨qa,hqa⟩:∃ qa,qa=a++[k.1]:=⟨_,rfl⟩
   have HQA:=Lib.hid hqa
   rw [← hwn,← hnb]
   clear hwn hnb hblk hbn hba hrd hqa c1 c2 HFIND
   go_region_held3 (fun w'=>w'.cell? ⟨nb,0,none⟩=some (.string (strOf k.1))∧w'.cell? ⟨nb,1,none⟩=some (.int .i64 k.2))
    (first
     | go_keep
     | exact HND.out _ HG2.out)
    (first
     | (go_at_call 56;refine (HFIND2.out w2 HG2.out).mono ?_;rintro e1 w3 ⟨rfl,rfl⟩)
     | (refine step_append_kept (v:=row) (l:=a) (by rfl) (.tmp 21) (.tmp 24) (by rfl) (by rfl) HSO.out _ k.1 1 (by rfl) HRD.out HLA.out ?_;intro v2 w2 HO2 HG2 HP2 HK2;rw [← HQA.out] at HO2;obtain ⟨A2,c2,hv2,hc2,hrd2,hb2⟩:=HO2.out.form;subst hv2)
     | fail)
   have ho3:SOwn w3 (.slice A2 qa.length c2) (a++[k.1]):=by rw [← HQA.out];exact HO2.out
   have hpre2:=HPRE.out.hung HBA.out ho3 HG2.out HP2.out
   obtain ⟨gk2,Sk2,hpk2,hEk2,hSk2,_⟩:=hpre2.tin.ptrH HG.out HEK.out
   obtain rfl:gk2=gk:=ptr_inj (hpk2.symm.trans HPK.out)
   have hq:qa.length≤1000:=by rw [HQA.out,List.length_append];show _+1≤_;omega
   have hcall:=HS.out.call w3 _ B1 A2 qa c2 gk2 ek Sk2 (by rw [HID.out];exact HEK.out) hpre2.at_ (by have:=HBND.out;omega) hrd2 hc2 hq (fun b hl hb h1=>(hpre2.apR b (hb2 b hl hb)).1 h1) hEk2 (fun b hb h1=>hpre2.apT b h1 (.inr (.inr (hSk2 b hb))))
   rw [HID.out,HQA.out] at hcall
   have hql:(a++[k.1]).length=qa.length:=by rw [HQA.out]
   rw [hql] at hcall
   have HCL:=Lib.hid hcall
   have HPRE2:=Lib.hid hpre2
   have HO3:=Lib.hid ho3
   clear ho3 hpre2 hpk2 hEk2 hSk2 hq hcall hrd2 hc2 hb2 d0 d1 d1a HO2 HND HFIND2 HSO HRD hql
   go_wp2_with fail
   refine HCL.out.mono ?_
   rintro r w4 ⟨rfl,B2,h1,h2,h3⟩
   have HWALK:=Lib.hid (HIH.out k (List.mem_of_getElem? HKJ.out) gk2 _ _ B2 w4 HPK.out (HPRE2.out.told h1 h2 h3) (by have:=HBND.out;rw [List.length_append,List.length_singleton];omega))
   have HROUND:Hid (∀ B3 w5,WMid O (.slice A2 qa.length c2) (a++[k.1]) ((seen++(l.take j).flatMap (shownOf a R))++[(a++[k.1],k.2)]) B2 w4 (R k) B3 w5→WMid O row a (seen++(l.take j).flatMap (shownOf a R)) B1 wr (shownOf a R k) B3 w5):=fun B3 w5 hm=>HPRE.out.round HBA.out HO3.out HG2.out HP2.out HK2.out h2 h3 hm
   clear h1 h2 h3 HCL HG2 HP2 HK2
   go_wp2_with fail
   refine HWALK.out.mono ?_
   rintro r w5 ⟨rfl,B3,hmid⟩
   have HNX:Hid (∃ B',WMid O row a seen B w ((l.take (j+1)).flatMap (shownOf a R)) B' w5):=by
    rw [shown_next HKJ.out]
    exact ⟨B3,HM1.out.trans (HROUND.out B3 w5 hmid)⟩
   clear hmid HWALK HROUND
   go_wp2_with fail
   go_roundw
   case rel=>exact ⟨j+1,_,_,_,rfl,rfl,rfl,by go_num,by omega,HNX.out⟩
   case measure=>simp;omega
  ·obtain rfl:j=l.length:=by omega
   have HEND:Hid (∃ B1,WMid O row a seen B w (l.flatMap (shownOf a R)) B1 wr):=by
    have:=HM.out
    rw [List.take_length] at this
    exact this
   go_wp2_with fail
   refine bodyPost_end (results_none rfl _ _ _) rfl ?_
   exact ⟨rfl,HEND.out⟩
abbrev DeepsIn (C:Int→Prop) (t:T) (dep:Int→Nat):Prop:=∀ e ∈ t,C e.nd.id→∀ n ∈ e.names,C n.2∧dep e.nd.id+1≤64∧(Tr.kindOf t n.2=2→dep n.2=dep e.nd.id+1)
theorem no_namesH (hG:Tr.Half t) {dep:Int→Nat} {C:Int→Prop} (hd:DeepsIn C t dep) {i:Int} {ei:En} (hf:Tr.find t i=some ei) (hc:C i) (h9:ei.nd.kind=2→64≤dep i):ei.names=[]:=by
 have hm:=Tr.find_some hf
 by_cases hk:ei.nd.kind=2
 ·apply List.eq_nil_iff_forall_not_mem.2
  intro n hn
  have h1:=(hd ei hm.1 (hm.2 ▸ hc) n hn).2.1
  have h2:=h9 hk
  rw [hm.2] at h1
  omega
 ·have h1:=(hG.each ei hm.1).nd
  have h2:=(hG.each ei hm.1).file
  exact h2 (h1.2.2.2.2.2.2.2.resolve_right fun h3=>hk h3.1)
theorem walk_anyH (hS:ShowsH O f cb lim t) (hG:Tr.Half t) {dep:Int→Nat} {C:Int→Prop} (hd:DeepsIn C t dep):∀ (n:Nat) (i:Int) (ei:En) (gi:Nat) (row:Value) (a:List Bs) (seen:Shown) (B:Nat→Prop) (w:World),
    C i→Tr.find t i=some ei→ptrOf gs t i=.pointer (some ⟨gi,0,none⟩)→(ei.nd.kind=2→64≤n+dep i)→a.length+n≤900→WPre O p av gs S t row a seen B w→seen.length+(Tr.walk t n i a).length≤lim →
    Calls Tryz.prog 57 #[.pointer (some ⟨p,0,none⟩),.pointer (some ⟨gi,0,none⟩),row,.func (.func f) #[] cb] w (Walked O row a seen B w (Tr.walk t n i a))
 | 0,i,ei,gi,row,a,seen,B,w,hc,hf,hp,h9,ha,h,hl=>by
   have hn:=no_namesH hG hd hf hc (by simpa using h9)
   have:=walk_stepH hS hG (fun _=>[]) hf hp (by omega) h (by rw [hn];exact hl) (fun k hk=>by rw [hn] at hk;cases hk)
   rw [hn] at this
   exact this
 | n+1,i,ei,gi,row,a,seen,B,w,hc,hf,hp,h9,ha,h,hl=>by
   have he:Tr.walk t (n+1) i a=ei.names.flatMap (shownOf a fun k=>Tr.walk t n k.2 (a++[k.1])):=by rw [Tr.walk,Tr.kids_of hf];rfl
   have hm:=Tr.find_some hf
   have:=walk_stepH hS hG (fun k=>Tr.walk t n k.2 (a++[k.1])) hf hp (by omega) h (by rw [← he];exact hl) (fun k hk g1 row1 seen1 B1 w1 hp1 h1 hl1=>by
    obtain ⟨ek,hek⟩:=Option.isSome_iff_exists.1 (hG.leads ei hm.1 k hk).2
    refine walk_anyH hS hG hd n k.2 ek g1 row1 (a++[k.1]) seen1 B1 w1 (hd ei hm.1 (hm.2 ▸ hc) k hk).1 hek hp1 (fun hk2=>?_) (by rw [List.length_append];show _+1+n≤_;omega) h1 hl1
    have h3:=(hd ei hm.1 (hm.2 ▸ hc) k hk).2.2 (by rw [Tr.kindOf_of hek];exact hk2)
    rw [h3,hm.2]
    have hk3:ei.nd.kind=2:=by
     by_cases h4:ei.nd.kind=2
     ·exact h4
     ·have h5:=(hG.each ei hm.1).file ((hG.each ei hm.1).nd.2.2.2.2.2.2.2.resolve_right fun h3=>h4 h3.1)
      rw [h5] at hk;cases hk
    have:=h9 hk3
    omega)
   rw [he]
   exact this
end Tm
end Go.Proofs.YtbnpgakmhhfjkaaGreatDoor
namespace Go.Proofs.YtbnpgakmhhfjkaaGreatDoor
open Go.RowKit
namespace Tr
variable {t:T}
theorem Half.dir_in (h:Half t) {j:Int} (hk:kindOf t j=2):j ∈ dirIds t:=by
 obtain ⟨e,he⟩:=h.has hk
 obtain ⟨h1,h2⟩:=find_some he
 rw [kindOf_of he] at hk
 exact List.mem_map.2 ⟨e,List.mem_filter.2 ⟨h1,by simp [hk]⟩,h2⟩
theorem Half.on_way (h:Half t):∀ (n:Nat) (q:List Bs) (j:Int),q.length=n→lookF t 0 q=(j,0)→kindOf t j=2 →
    ∃ ds:List Int,ds.length=q.length+1∧ds.Nodup∧∀ d ∈ ds,kindOf t d=2∧∃ r,lookF t 0 r=(d,0)∧r.length≤q.length
 | 0,q,j,hn,hl,hk=>by
   refine ⟨[j],by simp [hn],by simp,fun d hd=>?_⟩
   rw [List.mem_singleton] at hd
   subst hd
   exact ⟨hk,q,hl,Nat.le_refl _⟩
 | n+1,q,j,hn,hl,hk=>by
   rcases List.eq_nil_or_concat q with rfl|⟨r,x,rfl⟩
   ·cases hn
   ·rw [List.concat_eq_append] at hl hn ⊢
    rw [List.length_append,List.length_singleton] at hn
    obtain ⟨e,he,h1,h2,_⟩:=h.look_back hl
    have hke:kindOf t e.nd.id=2:=by rw [kindOf_of (h.ris.find he)];exact h2
    obtain ⟨ds,h3,h4,h5⟩:=h.on_way n r e.nd.id (by omega) h1 hke
    refine ⟨j :: ds,by simp [h3],List.nodup_cons.2 ⟨fun hj=>?_,h4⟩,fun d hd=>?_⟩
    ·obtain ⟨_,r',h6,h7⟩:=h5 j hj
     have:=h.one_path _ _ _ j (Nat.le_refl _) h6 hl hk
     rw [this,List.length_append,List.length_singleton] at h7
     omega
    ·rcases List.mem_cons.1 hd with rfl|hd
     ·exact ⟨hk,r++[x],hl,Nat.le_refl _⟩
     ·obtain ⟨h6,r',h7,h8⟩:=h5 d hd
      exact ⟨h6,r',h7,by rw [List.length_append];omega⟩
theorem Half.way_le (h:Half t) {q:List Bs} {j:Int} (hl:lookF t 0 q=(j,0)) (hk:kindOf t j=2):q.length+1≤64:=by
 obtain ⟨ds,h1,h2,h3⟩:=h.on_way _ q j rfl hl hk
 have h4:=inj_le (fun a b:Int=>a=b) (fun x x' y h1 h2=>h1.trans h2.symm) ds (dirIds t) h2 fun x hx=>⟨x,h.dir_in (h3 x hx).1,rfl⟩
 have h5:(dirIds t).length≤t.length:=by
  unfold dirIds
  rw [List.length_map]
  exact List.length_filter_le _ _
 have h6:=h.few
 omega
def Found (t:T) (j:Int):Prop:=∃ q,lookF t 0 q=(j,0)
open Classical in
theorem Half.deeps (h:Half t):∃ dep:Int→Nat,dep 0=0∧Found t 0∧Tm.DeepsIn (Found t) t dep:=by
 obtain ⟨dep,hdep⟩:∃ dep:Int→Nat,∀ q d,lookF t 0 q=(d,0)→kindOf t d=2→dep d=q.length:=by
  refine ⟨fun d=>if hx:∃ q,lookF t 0 q=(d,0) then hx.choose.length else 0,fun q d hq hk=>?_⟩
  have hx:∃ q,lookF t 0 q=(d,0):=⟨q,hq⟩
  simp only [dif_pos hx]
  exact congrArg List.length (h.one_path _ _ q d (Nat.le_refl _) hx.choose_spec hq hk)
 refine ⟨dep,?_,⟨[],rfl⟩,fun e he ⟨q,hq⟩ n hn=>?_⟩
 ·obtain ⟨r,h1,h2,_⟩:=h.zero
  exact hdep [] 0 rfl (by rw [kindOf_of h1,h2])
 ·have hk:e.nd.kind=2:=by
   rcases h.kind he with h5|h5
   ·rw [(h.each e he).file h5] at hn;cases hn
   ·exact h5
  have hke:kindOf t e.nd.id=2:=by rw [kindOf_of (h.ris.find he)];exact hk
  have hon:=h.look_on he hq hk hn
  refine ⟨⟨_,hon⟩,?_,fun hkn=>?_⟩
  ·rw [hdep q _ hq hke]
   exact h.way_le hq hke
  ·rw [hdep _ _ hon hkn,hdep q _ hq hke,List.length_append]
   rfl
end Tr
end Go.Proofs.YtbnpgakmhhfjkaaGreatDoor
namespace Go.Proofs.YtbnpgakmhhfjkaaGreatDoor
open Go.RowKit Rc
open Tr (Nm En T)
namespace Tm
variable {lim:Nat} {O:Eye} {f:FuncId} {cb:Array Value} {p:Nat} {av:Value} {gs:List Nat} {S:Nat→Prop} {t:T}
abbrev Deeps (t:T) (dep:Int→Nat):Prop:=∀ e ∈ t,∀ n ∈ e.names,dep e.nd.id+1≤8∧(Tr.kindOf t n.2=2→dep n.2=dep e.nd.id+1)
theorem no_names (hG:Tr.Good t) {dep:Int→Nat} (hd:Deeps t dep) {i:Int} {ei:En} (hf:Tr.find t i=some ei) (h9:ei.nd.kind=2→9≤dep i):ei.names=[]:=by
 have hm:=Tr.find_some hf
 by_cases hk:ei.nd.kind=2
 ·apply List.eq_nil_iff_forall_not_mem.2
  intro n hn
  have h1:=(hd ei hm.1 n hn).1
  have h2:=h9 hk
  rw [hm.2] at h1
  omega
 ·have h1:=(hG.each ei hm.1).nd
  have h2:=(hG.each ei hm.1).file
  exact h2 (h1.2.2.2.2.2.2.2.resolve_right fun h3=>hk h3.1)
theorem walk_any (hS:Shows O f cb lim) (hG:Tr.Good t) {dep:Int→Nat} (hd:Deeps t dep):∀ (n:Nat) (i:Int) (ei:En) (gi:Nat) (row:Value) (a:List Bs) (seen:Shown) (B:Nat→Prop) (w:World),
    Tr.find t i=some ei→ptrOf gs t i=.pointer (some ⟨gi,0,none⟩)→(ei.nd.kind=2→9≤n+dep i)→a.length+n≤900→WPre O p av gs S t row a seen B w→seen.length+(Tr.walk t n i a).length≤lim →
    Calls Tryz.prog 57 #[.pointer (some ⟨p,0,none⟩),.pointer (some ⟨gi,0,none⟩),row,.func (.func f) #[] cb] w (Walked O row a seen B w (Tr.walk t n i a))
 | 0,i,ei,gi,row,a,seen,B,w,hf,hp,h9,ha,h,hl=>by
   have hn:=no_names hG hd hf (by simpa using h9)
   have:=walk_step hS hG (fun _=>[]) hf hp (by omega) h (by rw [hn];exact hl) (fun k hk=>by rw [hn] at hk;cases hk)
   rw [hn] at this
   exact this
 | n+1,i,ei,gi,row,a,seen,B,w,hf,hp,h9,ha,h,hl=>by
   have he:Tr.walk t (n+1) i a=ei.names.flatMap (shownOf a fun k=>Tr.walk t n k.2 (a++[k.1])):=by rw [Tr.walk,Tr.kids_of hf];rfl
   have hm:=Tr.find_some hf
   have:=walk_step hS hG (fun k=>Tr.walk t n k.2 (a++[k.1])) hf hp (by omega) h (by rw [← he];exact hl) (fun k hk g1 row1 seen1 B1 w1 hp1 h1 hl1=>by
    obtain ⟨ek,hek⟩:=Option.isSome_iff_exists.1 (hG.leads ei hm.1 k hk).2
    refine walk_any hS hG hd n k.2 ek g1 row1 (a++[k.1]) seen1 B1 w1 hek hp1 (fun hk2=>?_) (by rw [List.length_append];show _+1+n≤_;omega) h1 hl1
    have h3:=(hd ei hm.1 k hk).2 (by rw [Tr.kindOf_of hek];exact hk2)
    rw [h3,hm.2]
    have hk3:ei.nd.kind=2:=by
     by_cases h4:ei.nd.kind=2
     ·exact h4
     ·have h5:=(hG.each ei hm.1).file ((hG.each ei hm.1).nd.2.2.2.2.2.2.2.resolve_right fun h3=>h4 h3.1)
      rw [h5] at hk;cases hk
    have:=h9 hk3
    omega)
   rw [he]
   exact this
end Tm
end Go.Proofs.YtbnpgakmhhfjkaaGreatDoor
namespace Go.Proofs.YtbnpgakmhhfjkaaGreatDoor
open Go.RowKit Rc
open Tr (Nm En T)
namespace Tm
def longest (m:Nat) (s:Shown):Nat:=s.foldl (fun k q=>max k q.1.length) m
theorem longest_append (m:Nat) (s r:Shown):longest m (s++r)=longest (longest m s) r:=List.foldl_append
theorem longest_kids (t:T) (n:Nat) (H:∀ (i:Int) (p:List Bs) (m:Nat),p.length≤m→longest m (Tr.walk t n i p)=max m (p.length+Tr.high t n i)) (p:List Bs):∀ (l:List Nm) (m h:Nat),p.length+h≤m →
    longest m (l.flatMap fun k=>(p++[k.1],k.2) :: Tr.walk t n k.2 (p++[k.1]))=max m (p.length+l.foldl (fun m k=>max m (1+Tr.high t n k.2)) h)
 | [],m,h,hm=>by simp only [List.flatMap_nil,List.foldl_nil];show m=_;omega
 | k :: l,m,h,hm=>by
   rw [List.flatMap_cons,longest_append,List.foldl_cons]
   have h1:longest m ((p++[k.1],k.2) :: Tr.walk t n k.2 (p++[k.1]))=max m (p.length+(1+Tr.high t n k.2)):=by
    show longest (max m (p++[k.1]).length) _=_
    rw [H _ _ _ (by omega),List.length_append]
    show max (max m (p.length+1)) (p.length+1+_)=_
    omega
   rw [h1,longest_kids t n H p l _ (max h (1+Tr.high t n k.2)) (by omega)]
   have h2:∀ (l:List Nm) (x y:Nat),x≤y→l.foldl (fun m k=>max m (1+Tr.high t n k.2)) x≤l.foldl (fun m k=>max m (1+Tr.high t n k.2)) y:=by
    intro l
    induction l with
    | nil=>intro x y h;exact h
    | cons k l ih=>intro x y h;rw [List.foldl_cons,List.foldl_cons];exact ih _ _ (by omega)
   have h3:∀ (l:List Nm) (x:Nat),x≤l.foldl (fun m k=>max m (1+Tr.high t n k.2)) x:=by
    intro l
    induction l with
    | nil=>intro x;exact Nat.le_refl _
    | cons k l ih=>intro x;rw [List.foldl_cons];exact Nat.le_trans (by omega) (ih _)
   have:=h3 l (max h (1+Tr.high t n k.2))
   omega
theorem longest_walk (t:T):∀ (n:Nat) (i:Int) (p:List Bs) (m:Nat),p.length≤m→longest m (Tr.walk t n i p)=max m (p.length+Tr.high t n i)
 | 0,i,p,m,h=>by
   show m=max m (p.length+0)
   omega
 | n+1,i,p,m,h=>by
   rw [Tr.walk,Tr.high]
   exact longest_kids t n (longest_walk t n) p _ m 0 (by omega)
def hEye (m:Nat):Eye where
 At s B w:=Blk w m 3 [.int .i64 (longest 0 s:Nat)]∧B=fun b=>b=m
 keep:=by
  rintro s B w w' ⟨h,rfl⟩ _ hb
  exact ⟨(hb m rfl).trans h,rfl⟩
 lt:=by
  rintro s B w ⟨h,rfl⟩ b rfl
  exact h.lt
set_option maxHeartbeats 1000000 in
set_option maxRecDepth 100000 in
theorem height1_any (w:World) (m k:Nat) (x:Value) (A:Option Addr) (l cap:Nat) (h:Blk w m 3 [.int .i64 (k:Nat)]) :
    Calls Tryz.prog 156 #[.slice A l cap,x,.pointer (some ⟨m,0,none⟩)] w fun r w'=>r=.returned (.tuple #[])∧w'=w.setCell ⟨m,0,none⟩ (.int .i64 (max k l:Nat)):=by
 have c0:w.cell? ⟨m,0,none⟩=some (.int .i64 (k:Nat)):=h.cell 0
 have f0:=h.frozen 0
 have HMX:Hid (max (k:Int) (l:Int)=((max k l:Nat):Int)):=by show _=_;omega
 go_enter Tryz.func156,Tryz.ntmps156
 go_wp2_with fail
 rw [HMX.out]
 refine bodyPost_end (results_none rfl _ _ _) rfl ?_
 exact ⟨rfl,rfl⟩
theorem hShows (m lim:Nat):Shows (hEye m) 156 #[.pointer (some ⟨m,0,none⟩)] lim where
 ent:=enters_of Tryz.func156 (by kernel_rfl) rfl
 call:=by
  rintro w seen B A q cap g e S1 ⟨h,rfl⟩ _ _ _ _ _ _ _
  refine (height1_any w m (longest 0 seen) (.pointer (some ⟨g,0,none⟩)) A q.length cap h).mono ?_
  rintro r w' ⟨rfl,rfl⟩
  have hb:longest 0 (seen++[(q,e.nd.id)])=max (longest 0 seen) q.length:=by rw [longest_append];rfl
  refine ⟨rfl,_,⟨?_,rfl⟩,⟨rfl,rfl,rfl,Nat.le_of_eq (World.size_setCell _ _ _).symm,fun b _ hn=>?_⟩,fun b hb=>.inl hb⟩
  ·rw [hb]
   exact h.set_ 0 (.int .i64 (max (longest 0 seen) q.length:Nat))
  ·exact Below.heap_setCell w ⟨m,0,none⟩ _ b hn
set_option maxHeartbeats 1000000 in
set_option maxRecDepth 100000 in
theorem height_any {p:Nat} {av:Value} {gs:List Nat} {S:Nat→Prop} {t:T} {w:World} (h:TIn p av gs S t w) (hG:Tr.Good t) {i:Int} {ei:En} {gi:Nat} (hf:Tr.find t i=some ei) (hp:ptrOf gs t i=.pointer (some ⟨gi,0,none⟩)) :
    Calls Tryz.prog 109 #[.pointer (some ⟨p,0,none⟩),.pointer (some ⟨gi,0,none⟩)] w fun r w'=>r=.returned (.int .i64 (Tr.high t 64 i:Nat))∧Below w.heap.size w w':=by
 obtain ⟨dep,_,hd⟩:=hG.deep
 obtain ⟨wb,hwb⟩:∃ wb,wb=w.alloc (.cells #[.int .i64 0] 3):=⟨_,rfl⟩
 have hbw:Below w.heap.size w wb:=by rw [hwb];exact below_new w _
 have hblk:Blk wb w.heap.size 3 [.int .i64 (longest 0 []:Nat)]:=by rw [hwb];exact Blk.new w _ _
 have hpre:WPre (hEye w.heap.size) p av gs S t (.slice none 0 0) [] [] (fun b=>b=w.heap.size) wb :=
  ⟨h.below hbw,SOwn.nil _,⟨hblk,rfl⟩,fun b hb hT=>by have:=h.lt hT;omega,fun b hb=>by cases hb⟩
 have HW:=Lib.hid (walk_any (hShows w.heap.size (Tr.walk t 64 i []).length) hG hd 64 i ei gi (.slice none 0 0) [] [] _ wb hf hp (fun _=>by omega) (by show 0+64≤_;omega) hpre (by simp))
 have HL:Hid (longest 0 (Tr.walk t 64 i [])=Tr.high t 64 i):=by
  show _=_
  rw [longest_walk t 64 i [] 0 (Nat.le_refl _)]
  show max 0 (0+_)=_
  omega
 have HB:=Lib.hid hbw
 clear hd hblk hpre h hG hf hp
 go_enter Tryz.func109,Tryz.ntmps109
 go_wp2_with fail
 rw [← hwb]
 refine HW.out.mono ?_
 rintro r w2 ⟨rfl,B2,hm⟩
 obtain ⟨hk,_⟩:=hm.at_
 rw [List.nil_append,HL.out] at hk
 have c0:w2.cell? ⟨w.heap.size,0,none⟩=some (.int .i64 (Tr.high t 64 i:Nat)):=hk.cell 0
 have HE:Hid (Below w.heap.size w w2):=by
  have h1:=hm.mod
  exact ⟨h1.os.trans hbw.os,h1.tape.trans hbw.tape,h1.output.trans hbw.output,Nat.le_trans hbw.size h1.size,fun b hlt=>(h1.block b (Nat.lt_of_lt_of_le hlt hbw.size) (fun hx=>by
   rcases hx with h2|h2
   ·omega
   ·cases h2)).trans (hbw.block b hlt)⟩
 clear hm hk hbw hwb
 go_wp2_with fail
 go_ret
 exact ⟨rfl,HE.out⟩
end Tm
end Go.Proofs.YtbnpgakmhhfjkaaGreatDoor
namespace Go.Proofs.YtbnpgakmhhfjkaaGreatDoor
open Go.RowKit Rc
open Tr (Nm En T)
namespace Tm
def fnd (t:T) (s:Shown):Nat:=1+s.countP fun q=>Tr.kindOf t q.2==2
theorem fnd_snoc (t:T) (s:Shown) (q:List Bs) (k:Int):fnd t (s++[(q,k)])=fnd t s+(if Tr.kindOf t k=2 then 1 else 0):=by
 unfold fnd
 rw [List.countP_append]
 by_cases h:Tr.kindOf t k=2 <;> simp [h] <;> omega
theorem fnd_le (t:T) (s:Shown):fnd t s≤1+s.length:=by
 unfold fnd
 have:=List.countP_le_length (p:=fun q:List Bs × Int=>Tr.kindOf t q.2==2) (l:=s)
 omega
def jEye (t:T) (fb mb:Nat):Eye where
 At s B w:=(Blk w fb 3 [.int .i64 (fnd t s:Nat)]∧Blk w mb 3 [.int .i64 (longest 0 s:Nat)])∧B=fun b=>b=fb∨b=mb
 keep:=by
  rintro s B w w' ⟨⟨h1,h2⟩,rfl⟩ _ hb
  exact ⟨⟨(hb fb (.inl rfl)).trans h1,(hb mb (.inr rfl)).trans h2⟩,rfl⟩
 lt:=by
  rintro s B w ⟨⟨h1,h2⟩,rfl⟩ b (rfl|rfl)
  ·exact h1.lt
  ·exact h2.lt
set_option maxHeartbeats 1000000 in
set_option maxRecDepth 100000 in
theorem joined1_yes (w:World) (fb mb k m g:Nat) (A:Option Addr) (l cap:Nat) (hne:fb≠mb) (h1:Blk w fb 3 [.int .i64 (k:Nat)]) (h2:Blk w mb 3 [.int .i64 (m:Nat)]) (hk:k≤1000000000)
    (hg:w.cell? ⟨g,1,none⟩=some (.int .i64 2)) :
    Calls Tryz.prog 191 #[.slice A l cap,.pointer (some ⟨g,0,none⟩),.pointer (some ⟨fb,0,none⟩),.pointer (some ⟨mb,0,none⟩)] w fun r w'=>r=.returned (.tuple #[])∧w'=(w.setCell ⟨fb,0,none⟩ (.int .i64 (k+1:Nat))).setCell ⟨mb,0,none⟩ (.int .i64 (max m l:Nat)):=by
 have c0:w.cell? ⟨fb,0,none⟩=some (.int .i64 (k:Nat)):=h1.cell 0
 have f0:=h1.frozen 0
 have h3:Blk (w.setCell ⟨fb,0,none⟩ (.int .i64 ((k:Int)+1))) mb 3 [.int .i64 (m:Nat)]:=(Below.heap_setCell w ⟨fb,0,none⟩ _ mb (fun e=>hne e.symm)).trans h2
 have c1:(w.setCell ⟨fb,0,none⟩ (.int .i64 ((k:Int)+1))).cell? ⟨mb,0,none⟩=some (.int .i64 (m:Nat)):=h3.cell 0
 have f1:=h3.frozen 0
 have HMX:Hid (max (m:Int) (l:Int)=((max m l:Nat):Int)):=by show _=_;omega
 have HK1:Hid ((k:Int)+1=((k+1:Nat):Int)):=by show _=_;omega
 clear h1 h2 h3
 go_enter Tryz.func191,Tryz.ntmps191
 go_wp2_with fail
 try rw [HMX.out]
 refine bodyPost_end (results_none rfl _ _ _) rfl ?_
 exact ⟨rfl,by rw [HK1.out]⟩
set_option maxHeartbeats 1000000 in
set_option maxRecDepth 100000 in
theorem joined1_no (w:World) (fb mb m g:Nat) (kd:Int) (A:Option Addr) (l cap:Nat) (h2:Blk w mb 3 [.int .i64 (m:Nat)])
    (hg:w.cell? ⟨g,1,none⟩=some (.int .i64 kd)) (hk2:kd≠2) :
    Calls Tryz.prog 191 #[.slice A l cap,.pointer (some ⟨g,0,none⟩),.pointer (some ⟨fb,0,none⟩),.pointer (some ⟨mb,0,none⟩)] w fun r w'=>r=.returned (.tuple #[])∧w'=w.setCell ⟨mb,0,none⟩ (.int .i64 (max m l:Nat)):=by
 have c1:w.cell? ⟨mb,0,none⟩=some (.int .i64 (m:Nat)):=h2.cell 0
 have f1:=h2.frozen 0
 have HMX:Hid (max (m:Int) (l:Int)=((max m l:Nat):Int)):=by show _=_;omega
 have hb:(kd==2)=false:=by simpa using hk2
 clear h2 hk2
 go_enter Tryz.func191,Tryz.ntmps191
 go_wp2_with fail
 try rw [HMX.out]
 refine bodyPost_end (results_none rfl _ _ _) rfl ?_
 exact ⟨rfl,rfl⟩
theorem jShows (t:T) (fb mb lim:Nat) (hne:fb≠mb) (hlim:lim≤100000000):ShowsH (jEye t fb mb) 191 #[.pointer (some ⟨fb,0,none⟩),.pointer (some ⟨mb,0,none⟩)] lim t where
 ent:=enters_of Tryz.func191 (by kernel_rfl) rfl
 call:=by
  rintro w seen B A q cap g e S1 hfe ⟨⟨h1,h2⟩,rfl⟩ hl _ _ _ _ hE _
  have hg:=hE.cells.2.1
  have hko:Tr.kindOf t e.nd.id=e.nd.kind:=Tr.kindOf_of hfe
  have hb:longest 0 (seen++[(q,e.nd.id)])=max (longest 0 seen) q.length:=by rw [longest_append];rfl
  have hf:=fnd_le t seen
  by_cases hk:e.nd.kind=2
  ·rw [hk] at hg
   refine (joined1_yes w fb mb (fnd t seen) (longest 0 seen) g A q.length cap hne h1 h2 (by omega) hg).mono ?_
   rintro r w' ⟨rfl,rfl⟩
   refine ⟨rfl,_,⟨⟨?_,?_⟩,rfl⟩,⟨rfl,rfl,rfl,?_,fun b _ hn=>?_⟩,fun b hb=>.inl hb⟩
   ·rw [fnd_snoc,hko,if_pos hk]
    exact (Below.heap_setCell _ ⟨mb,0,none⟩ _ fb hne).trans (h1.set_ 0 (.int .i64 (fnd t seen+1:Nat)))
   ·rw [hb]
    have h3:Blk (w.setCell ⟨fb,0,none⟩ (.int .i64 (fnd t seen+1:Nat))) mb 3 [.int .i64 (longest 0 seen:Nat)]:=(Below.heap_setCell w ⟨fb,0,none⟩ _ mb (fun e=>hne e.symm)).trans h2
    exact h3.set_ 0 (.int .i64 (max (longest 0 seen) q.length:Nat))
   ·rw [World.size_setCell,World.size_setCell];exact Nat.le_refl _
   ·exact (Below.heap_setCell _ ⟨mb,0,none⟩ _ b fun e=>hn (.inr e)).trans (Below.heap_setCell w ⟨fb,0,none⟩ _ b fun e=>hn (.inl e))
  ·refine (joined1_no w fb mb (longest 0 seen) g e.nd.kind A q.length cap h2 hg hk).mono ?_
   rintro r w' ⟨rfl,rfl⟩
   refine ⟨rfl,_,⟨⟨?_,?_⟩,rfl⟩,⟨rfl,rfl,rfl,?_,fun b _ hn=>?_⟩,fun b hb=>.inl hb⟩
   ·rw [fnd_snoc,hko,if_neg hk]
    exact (Below.heap_setCell _ ⟨mb,0,none⟩ _ fb hne).trans h1
   ·rw [hb]
    exact h2.set_ 0 (.int .i64 (max (longest 0 seen) q.length:Nat))
   ·rw [World.size_setCell];exact Nat.le_refl _
   ·exact Below.heap_setCell w ⟨mb,0,none⟩ _ b fun e=>hn (.inr e)
end Tm
end Go.Proofs.YtbnpgakmhhfjkaaGreatDoor
namespace Go.Proofs.YtbnpgakmhhfjkaaGreatDoor
open Go.RowKit Rc
open Tr (Nm En T)
namespace Tr
variable {t:T}
theorem Half.ends_of (h:Half t) {a:List Bs × Int} (ha:a ∈ paths t):∃ x ∈ flat t,EndsIn t a x:=by
 obtain ⟨q,k⟩:=a
 obtain ⟨q',h0,h1,_,h2⟩:=(h.walk_mem 64 0 [] q k).1 ha
 rw [List.nil_append] at h0
 subst h0
 rcases List.eq_nil_or_concat q with rfl|⟨r,x,rfl⟩
 ·exact absurd rfl h1
 ·rw [List.concat_eq_append] at h2 ⊢
  obtain ⟨e,he,h3,h4,h5⟩:=h.look_back h2
  exact ⟨(e.nd.id,(x,k)),flat_mem.2 ⟨e,he,rfl,h5⟩,r,rfl,h3,rfl,by rw [kindOf_of (h.ris.find he)];exact h4⟩
theorem Half.paths_few (h:Half t):(paths t).length≤4194240:=by
 have:=inj_le (EndsIn t) h.ends_one (paths t) (flat t) h.paths_nodup fun a ha=>h.ends_of ha
 have:=h.flat_le
 omega
end Tr
namespace Tm
variable {p:Nat} {av:Value} {gs:List Nat} {S:Nat→Prop} {t:T} {w:World}
set_option maxHeartbeats 2000000 in
set_option maxRecDepth 100000 in
theorem joined_any (h:TIn p av gs S t w) (hG:Tr.Half t) :
    Calls Tryz.prog 161 #[.pointer (some ⟨p,0,none⟩)] w fun r w'=>r=.returned (.bool (decide (Tr.found t=Tr.dirCount t)&&decide (Tr.most (Tr.paths t) 0≤8)))∧Below w.heap.size w w':=by
 have H:=Lib.hid h
 have c0:w.cell? ⟨p,0,none⟩=some av:=h.box.cell 0
 have hl:=h.each.len
 obtain ⟨A,c,hav,hc,hA⟩:=own_form h.row
 have HA:=Lib.hid hA
 have HL:=Lib.hid hl
 have hg9:gs.length≤64:=by rw [hl];exact hG.few
 have HG:=Lib.hid hG
 subst hav
 clear h hA hl hG
 go_enter Tryz.func161,Tryz.ntmps161
 go_wp2_with fail
 go_loopw [3,5,13] (fun t3 t5 t13 wr=>∃ (j:Nat) (v5:Value),t3=.int .i64 (Tr.dirCount (t.take j):Nat)∧t5=v5∧t13=.int .i64 j∧j≤gs.length∧wr=w) (fun _ _ t13 _=>gs.length-(match t13 with|.int _ k=>k.toNat|_=>0))
 case atStart=>exact ⟨0,_,rfl,rfl,rfl,Nat.zero_le _,rfl⟩
 case round =>
  obtain ⟨j,v5,rfl,rfl,rfl,hj,rfl⟩:=hrel
  by_cases hk:j<gs.length
  ·obtain ⟨e,he⟩:∃ e,t[j]?=some e:=⟨_,List.getElem?_eq_getElem (by rw [← HL.out];exact hk)⟩
   obtain ⟨g,S1,hg,hE,_⟩:=H.out.each.get he
   obtain ⟨q,rfl,_,_,_,hcell⟩:=HA.out (by omega)
   have c1:wr.cell? ⟨q,j,none⟩=some (.pointer (some ⟨g,0,none⟩)):=hcell j _ (by simp [ptrCells,hg])
   have c2:=hE.cells.2.1
   have hlt2:(j:Int)<(gs.length:Int):=by omega
   have hcl:Tr.dirCount (t.take j)≤64:=Nat.le_trans List.countP_le_length (by rw [List.length_take];omega)
   have hnx:Tr.dirCount (t.take (j+1))=Tr.dirCount (t.take j)+(if e.nd.kind=2 then 1 else 0):=by
    unfold Tr.dirCount
    rw [take_next he,List.countP_append]
    by_cases h2:e.nd.kind=2 <;> simp [h2]
   clear he hg hE hcell
   by_cases hi:e.nd.kind=2
   ·have HN:Hid (Tr.dirCount (t.take (j+1))=Tr.dirCount (t.take j)+1):=by rw [if_pos hi] at hnx;exact hnx
    rw [hi] at c2
    obtain ⟨dc,hdc⟩:∃ dc,dc=Tr.dirCount (t.take j):=⟨_,rfl⟩
    rw [← hdc] at HN hcl ⊢
    clear hi hnx hdc
    go_wp2_with fail
    go_roundw
    case rel=>exact ⟨j+1,_,by rw [HN.out];go_num,rfl,by go_num,by omega,by first|rfl|trivial⟩
    case measure=>simp;omega
   ·have HN:Hid (Tr.dirCount (t.take (j+1))=Tr.dirCount (t.take j)):=by rw [if_neg hi] at hnx;exact hnx
    have hb:(e.nd.kind==2)=false:=by simpa using hi
    clear hi hnx
    go_wp2_with fail
    go_roundw
    case rel=>exact ⟨j+1,_,by rw [HN.out],rfl,by go_num,by omega,by first|rfl|trivial⟩
    case measure=>simp;omega
  ·obtain rfl:j=gs.length:=by omega
   have HT:Hid (t.take gs.length=t):=by show _=_;rw [show gs.length=t.length from HL.out,List.take_length]
   rw [HT.out]
   obtain ⟨r0,rest,ht0,hid0,hk0⟩:=HG.out.root
   have h64:0<gs.length:=by rw [show gs.length=t.length from HL.out,ht0];simp
   obtain ⟨g0,S0,hg0,hE0,_⟩:=H.out.each.get (j:=0) (e:=r0) (by rw [ht0];rfl)
   have hfind:Tr.find t 0=some r0:=by
    have:=HG.out.ris.find (e:=r0) (by rw [ht0];exact .head _)
    rw [hid0] at this
    exact this
   have hptr:ptrOf gs t 0=.pointer (some ⟨g0,0,none⟩):=by
    obtain ⟨g,gs',rfl⟩:∃ g gs',gs=g :: gs':=by
     cases gs with
     | nil=>simp at h64
     | cons g gs'=>exact ⟨g,gs',rfl⟩
    obtain rfl:g=g0:=by simpa using hg0
    rw [ht0]
    show (if _ then _ else _)=_
    rw [if_pos hid0]
   obtain ⟨q,rfl,_,_,hq,hcell⟩:=HA.out h64
   have c1:wr.cell? ⟨q,0,none⟩=some (.pointer (some ⟨g0,0,none⟩)):=hcell 0 _ (by simp [ptrCells,hg0])
   obtain ⟨wa,hwa⟩:∃ wa,wa=wr.alloc (.cells #[.int .i64 1] 3):=⟨_,rfl⟩
   obtain ⟨wb,hwb⟩:∃ wb,wb=wa.alloc (.cells #[.int .i64 0] 3):=⟨_,rfl⟩
   have hba:Below wr.heap.size wr wa:=by rw [hwa];exact below_new wr _
   have hsa:wa.heap.size=wr.heap.size+1:=by rw [hwa];exact World.size_alloc _ _
   have hbb:Below wa.heap.size wa wb:=by rw [hwb];exact below_new wa _
   have hbw:Below wr.heap.size wr wb:=hba.trans (hbb.mono hba.size)
   have hk1:Blk wa wr.heap.size 3 [.int .i64 (fnd t []:Nat)]:=by rw [hwa];exact Blk.new wr _ _
   have hk2:Blk wb wa.heap.size 3 [.int .i64 (longest 0 []:Nat)]:=by rw [hwb];exact Blk.new wa _ _
   rw [hsa] at hk2
   have hpre:WPre (jEye t wr.heap.size (wr.heap.size+1)) p _ gs S t (.slice none 0 0) [] [] (fun b=>b=wr.heap.size∨b=wr.heap.size+1) wb :=
    ⟨H.out.below hbw,SOwn.nil _,⟨⟨hk1.below hbb hk1.lt,hk2⟩,rfl⟩,fun b hb hT=>by have:=H.out.lt hT;omega,fun b hb=>by cases hb⟩
   obtain ⟨dep,hd0,hC0,hdp⟩:=HG.out.deeps
   have HW:=Lib.hid (walk_anyH (jShows t wr.heap.size (wr.heap.size+1) (Tr.walk t 64 0 []).length (by omega) (by have:=HG.out.paths_few;unfold Tr.paths at this;omega)) HG.out hdp 64 0 r0 g0 (.slice none 0 0) [] [] _ wb hC0 hfind hptr (fun _=>by omega) (by show 0+64≤_;omega) hpre (by simp))
   have d0:wb.cell? ⟨p,0,none⟩=some (.slice (some ⟨q,0,none⟩) gs.length c):=(H.out.below hbw).box.cell 0
   have d1:wb.cell? ⟨q,0,none⟩=some (.pointer (some ⟨g0,0,none⟩)):=by
    unfold World.cell?;rw [hbw.block q hq];exact c1
   have HB:=Lib.hid hbw
   have HD:Hid (Tr.dirCount t≤64):=Nat.le_trans List.countP_le_length HG.out.few
   have hz:(0:Int)<(gs.length:Int):=by omega
   rw [hwa] at hwb
   rw [hwb] at d0 d1
   clear ht0 hid0 hk0 hg0 hE0 hfind hptr hcell c1 hba hsa hbb hbw hk1 hk2 hpre hd0 hC0 hdp hq hwa
   go_wp2_with fail
   rw [← hwb]
   refine HW.out.mono ?_
   rintro r w2 ⟨rfl,B2,hm⟩
   obtain ⟨⟨e1,e2⟩,_⟩:=hm.at_
   rw [List.nil_append] at e1 e2
   have HE:Hid (Below wr.heap.size wr w2):=by
    have h1:=hm.mod
    have hbw:=HB.out
    exact ⟨h1.os.trans hbw.os,h1.tape.trans hbw.tape,h1.output.trans hbw.output,Nat.le_trans hbw.size h1.size,fun b hlt=>(h1.block b (Nat.lt_of_lt_of_le hlt hbw.size) (fun hx=>by
     rcases hx with h2|h2
     ·omega
     ·cases h2)).trans (hbw.block b hlt)⟩
   have k1:w2.cell? ⟨wr.heap.size,0,none⟩=some (.int .i64 (Tr.found t:Nat)):=e1.cell 0
   have k2:w2.cell? ⟨wr.heap.size+1,0,none⟩=some (.int .i64 (Tr.most (Tr.paths t) 0:Nat)):=e2.cell 0
   clear hm e1 e2 hwb d0 d1
   by_cases hff:Tr.found t=Tr.dirCount t
   ·by_cases h8:Tr.most (Tr.paths t) 0≤8
    ·have b1:((Tr.found t:Int)==(Tr.dirCount t:Int))=true:=by rw [hff];simp
     have b2:decide ((Tr.most (Tr.paths t) 0:Int)≤8)=true:=by simp;omega
     have HR:Hid ((decide (Tr.found t=Tr.dirCount t)&&decide (Tr.most (Tr.paths t) 0≤8))=true):=by show _=_;simp [hff,h8]
     go_wp2_with fail
     go_ret
     exact ⟨by rw [HR.out];rfl,HE.out⟩
    ·have b1:((Tr.found t:Int)==(Tr.dirCount t:Int))=true:=by rw [hff];simp
     have b2:decide ((Tr.most (Tr.paths t) 0:Int)≤8)=false:=by simp;omega
     have HR:Hid ((decide (Tr.found t=Tr.dirCount t)&&decide (Tr.most (Tr.paths t) 0≤8))=false):=by show _=_;simp [h8]
     go_wp2_with fail
     go_ret
     exact ⟨by rw [HR.out];rfl,HE.out⟩
   ·have b1:((Tr.found t:Int)==(Tr.dirCount t:Int))=false:=by simp;omega
    have HR:Hid ((decide (Tr.found t=Tr.dirCount t)&&decide (Tr.most (Tr.paths t) 0≤8))=false):=by show _=_;simp [hff]
    go_wp2_with fail
    go_ret
    exact ⟨by rw [HR.out];rfl,HE.out⟩
end Tm
end Go.Proofs.YtbnpgakmhhfjkaaGreatDoor
namespace Go.Proofs.YtbnpgakmhhfjkaaGreatDoor
open Go.RowKit Rc
open Tr (Nm En T)
namespace Tm
variable {p:Nat} {av:Value} {gs:List Nat} {S:Nat→Prop} {t:T} {w:World}
def nameB (t:T) (n:Nm):Bool:=!(n.2==0)&&(Tr.find t n.2).isSome
def leadsB (t:T) (e:En):Bool:=if e.nd.kind=1 then e.names.isEmpty else e.names.all (nameB t)
theorem ptr_some:∀ {gs:List Nat} {t:T} {i:Int},gs.length=t.length→(Tr.find t i).isSome=true→∃ g,ptrOf gs t i=.pointer (some ⟨g,0,none⟩)
 | [],[],i,_,h=>by cases h
 | [],_ :: _,_,hl,_=>by simp at hl
 | _ :: _,[],_,hl,_=>by simp at hl
 | g :: gs,e :: t,i,hl,h=>by
   by_cases hi:e.nd.id=i
   ·exact ⟨g,by show (if _ then _ else _)=_;rw [if_pos hi]⟩
   ·have h1:(Tr.find t i).isSome=true:=by
     rw [Tr.find_isSome] at h ⊢
     obtain ⟨e',h2,h3⟩:=h
     rcases List.mem_cons.1 h2 with rfl|h2
     ·exact absurd h3 hi
     ·exact ⟨e',h2,h3⟩
    obtain ⟨g',h2⟩:=ptr_some (gs:=gs) (t:=t) (by simpa using hl) h1
    exact ⟨g',by show (if _ then _ else _)=_;rw [if_neg hi];exact h2⟩
theorem ptr_no {t:T} {i:Int} (h:(Tr.find t i).isSome=false):ptrOf gs t i=.pointer none:=ptrOf_none fun m hm he=>by
 have:(Tr.find t i).isSome=true:=Tr.find_isSome.2 ⟨m,hm,he⟩
 rw [h] at this;cases this
set_option maxHeartbeats 2000000 in
set_option maxRecDepth 100000 in
theorem leads_any (h:TIn p av gs S t w) (hlt:t.length≤1000000000) {g:Nat} {e:En} {S1:Nat→Prop} (hE:EAt g e S1 w) (hS:∀ b,S1 b→S b) (hn:e.names.length≤1000000000) :
    Calls Tryz.prog 159 #[.pointer (some ⟨p,0,none⟩),.pointer (some ⟨g,0,none⟩)] w fun r w'=>r=.returned (.bool (leadsB t e))∧Below w.heap.size w w':=by
 obtain ⟨dv,nv,hE,rfl⟩:=hE
 have c1:w.cell? ⟨g,1,none⟩=some (.int .i64 e.nd.kind):=hE.box.cell 1
 have c7:w.cell? ⟨g,7,none⟩=some nv:=hE.box.cell 7
 have hgl:=hE.box.lt
 obtain ⟨A7,k7,hv7,hk7,hA⟩:=hE.names.form
 have hnl:∀ b,nv.ownBlock=some b→b<w.heap.size:=fun b hb=>h.lt (.inr (.inr (hS b (.inr (.inr hb)))))
 subst hv7
 obtain ⟨l,hl⟩:∃ l,l=e.names:=⟨_,rfl⟩
 have HLB:Hid (leadsB t e=if e.nd.kind=1 then l.isEmpty else l.all (nameB t)):=by rw [hl];exact rfl
 rw [← hl] at c7 hA hnl hn
 have HA:=Lib.hid hA
 have HNL:=Lib.hid hnl
 have HL:=Lib.hid h.each.len
 have HT:=Lib.hid h
 have HLT:=Lib.hid hlt
 clear hA hnl h hE hS hl hk7 hlt
 by_cases hk:e.nd.kind=1
 ·rw [hk] at c1
  rw [HLB.out,if_pos hk]
  by_cases h0:l.length=0
  ·have hb:((l.length:Int)==0)=true:=by rw [beq_iff_eq];omega
   have HR:Hid (l.isEmpty=true):=by
    show _=_
    cases l with
    | nil=>rfl
    | cons=>simp at h0
   go_enter Tryz.func159,Tryz.ntmps159
   go_wp2_with fail
   go_ret
   exact ⟨by rw [HR.out];rfl,Below.refl _ _⟩
  ·have hb:((l.length:Int)==0)=false:=by rw [beq_eq_false_iff_ne];omega
   have HR:Hid (l.isEmpty=false):=by
    show _=_
    cases l with
    | nil=>simp at h0
    | cons=>rfl
   go_enter Tryz.func159,Tryz.ntmps159
   go_wp2_with fail
   go_ret
   exact ⟨by rw [HR.out];rfl,Below.refl _ _⟩
 ·have hb:(e.nd.kind==1)=false:=by simpa using hk
  rw [HLB.out,if_neg hk]
  clear hk HLB
  go_enter Tryz.func159,Tryz.ntmps159
  go_wp2_with fail
  go_loopw [6,24] (fun t6 t24 wr=>∃ (j:Nat) (v6:Value),t6=v6∧t24=.int .i64 j∧j≤l.length∧Hid ((l.take j).all (nameB t)=true)∧Hid (Below w.heap.size w wr)) (fun _ t24 _=>l.length-(match t24 with|.int _ k=>k.toNat|_=>0))
  case atStart=>exact ⟨0,_,rfl,rfl,Nat.zero_le _,rfl,Below.refl _ _⟩
  case round =>
   obtain ⟨j,v6,rfl,rfl,hj,HN,HB⟩:=hrel
   by_cases hk:j<l.length
   ·obtain ⟨k,hkj⟩:∃ k,l[j]?=some k:=⟨_,List.getElem?_eq_getElem hk⟩
    obtain ⟨q,rfl,hq1,_,hql,hcell⟩:=HA.out (by omega)
    have hsame:wr.heap[q]?=w.heap[q]?:=HB.out.block q hql
    have c1:wr.cell? ⟨q,j*2,none⟩=some (.string (strOf k.1)):=(cell_same hsame).trans (hcell j k hkj).1
    have c2:wr.cell? ⟨q,j*2+1,none⟩=some (.int .i64 k.2):=(cell_same hsame).trans (hcell j k hkj).2
    have hlt2:(j:Int)<(l.length:Int):=by omega
    have HKJ:=Lib.hid hkj
    clear hsame hcell hkj hq1 hql
    go_upto_region 6 with (fail)
    obtain ⟨wn,hwn⟩:∃ wn,wn=wr.alloc (.cells #[.string (strOf k.1),.int .i64 k.2] 116):=⟨_,rfl⟩
    obtain ⟨nb,hnb⟩:∃ nb,nb=wr.heap.size:=⟨_,rfl⟩
    have hblk:Blk wn nb 116 [.string (strOf k.1),.int .i64 k.2]:=by rw [hwn,hnb];exact Blk.new wr _ _
    have hbn:Below wr.heap.size wr wn:=by rw [hwn];exact below_new wr _
    have hbw:Below w.heap.size w wn:=HB.out.trans (hbn.mono HB.out.size)
    have d1:wn.cell? ⟨nb,1,none⟩=some (.int .i64 k.2):=hblk.cell 1
    have HF:=Lib.hid (find_any (HT.out.below hbw) k.2 HLT.out)
    have HBW:=Lib.hid hbw
    rw [← hwn,← hnb]
    clear hwn hnb hblk hbn hbw c1 c2
    by_cases h0:k.2=0
    ·have hz:(k.2==0)=true:=by rw [beq_iff_eq];exact h0
     have HR:Hid (l.all (nameB t)=false):=by
      show _=_
      rw [List.all_eq_false]
      exact ⟨k,List.mem_of_getElem? HKJ.out,by unfold nameB;rw [hz];simp⟩
     clear h0
     go_wp2_with fail
     go_ret
     exact ⟨by rw [HR.out];rfl,HBW.out⟩
    ·have hz:(k.2==0)=false:=by rw [beq_eq_false_iff_ne];exact h0
     clear h0
     by_cases hf:(Tr.find t k.2).isSome=true
     ·obtain ⟨gk,hgk⟩:=ptr_some HL.out hf
      have HNX:Hid ((l.take (j+1)).all (nameB t)=true):=by
       show _=_
       rw [take_next HKJ.out,List.all_append,HN.out]
       simp only [List.all_cons,List.all_nil,Bool.and_true,Bool.true_and]
       unfold nameB
       rw [hz,hf];rfl
      have HF2:Hid (Calls Tryz.prog 56 #[.pointer (some ⟨p,0,none⟩),.int .i64 k.2] wn fun e w'=>e=.returned (.pointer (some ⟨gk,0,none⟩))∧w'=wn):=by
       have:=HF.out
       rw [hgk] at this
       exact this
      clear hf hgk HF
      go_wp2_with fail
      refine HF2.out.mono ?_
      rintro r w3 ⟨rfl,rfl⟩
      go_wp2_with fail
      go_roundw
      case rel=>exact ⟨j+1,_,rfl,by go_num,by omega,HNX.out,HBW.out⟩
      case measure=>simp;omega
     ·have hf0:(Tr.find t k.2).isSome=false:=by simpa using hf
      have HF2:Hid (Calls Tryz.prog 56 #[.pointer (some ⟨p,0,none⟩),.int .i64 k.2] wn fun e w'=>e=.returned (.pointer none)∧w'=wn):=by
       have:=HF.out
       rw [ptr_no hf0] at this
       exact this
      have HR:Hid (l.all (nameB t)=false):=by
       show _=_
       rw [List.all_eq_false]
       exact ⟨k,List.mem_of_getElem? HKJ.out,by unfold nameB;rw [hz,hf0];simp⟩
      clear hf hf0 HF
      go_wp2_with fail
      refine HF2.out.mono ?_
      rintro r w3 ⟨rfl,rfl⟩
      go_wp2_with fail
      go_ret
      exact ⟨by rw [HR.out];rfl,HBW.out⟩
   ·obtain rfl:j=l.length:=by omega
    have HR:Hid (l.all (nameB t)=true):=by
     have:=HN.out
     rw [List.take_length] at this
     exact this
    go_wp2_with fail
    go_ret
    exact ⟨by rw [HR.out];rfl,HB.out⟩
end Tm
end Go.Proofs.YtbnpgakmhhfjkaaGreatDoor
