/-
  OWN WORK. TsSave, TrReach, TrNm, TsPure, SnPure, TrRenG, TrHalf, TsJoin, TrHang
-/
import Derived.Test.YtbnpgakmhhfjkaaGreatDoorO04
import Derived.Test.YtbnpgakmhhfjkaaGreatDoorO05
import Derived.Test.YtbnpgakmhhfjkaaGreatDoorOCpWCode
import Derived.Lib.ConvBytes
import Derived.Test.YtbnpgakmhhfjkaaGreatDoorO03
namespace Go.Proofs.YtbnpgakmhhfjkaaGreatDoor
open Go.RowKit Rc
open Tr (Nm En T)
namespace Tr
theorem wBytes_length (x:Bs):(Co.wBytes x).length≤65537:=by
 unfold Co.wBytes Co.wShort
 simp only [List.length_append,List.length_cons,List.length_nil,List.length_take]
 omega
theorem nameBytes_length (n:Nm):(nameBytes n).length≤65539:=by
 have:=wBytes_length n.1
 unfold nameBytes
 rw [List.length_append]
 unfold Co.wShort
 simp only [List.length_cons,List.length_nil]
 omega
theorem names_bytes:∀ l:List Nm,(l.flatMap nameBytes).length≤l.length*65539
 | []=>Nat.zero_le _
 | n :: l=>by
   have h1:=names_bytes l
   have h2:=nameBytes_length n
   rw [List.flatMap_cons,List.length_append,List.length_cons]
   omega
theorem enBytes_length (e:En):(enBytes e).length≤140000+e.names.length*65539:=by
 have h1:=wBytes_length e.nd.bytes
 have h2:=wBytes_length e.data
 have h3:=names_bytes e.names
 unfold enBytes
 simp only [List.length_append]
 have:(Co.wShort e.names.length).length=2:=rfl
 omega
theorem ens_length:∀ t:T,(t.flatMap enBytes).length≤t.length*140000+(flat t).length*65539
 | []=>Nat.zero_le _
 | e :: t=>by
   have h1:=ens_length t
   have h2:=enBytes_length e
   have h3:(flat (e :: t)).length=e.names.length+(flat t).length:=by simp [flat]
   rw [List.flatMap_cons,List.length_append,List.length_cons,h3]
   omega
theorem flat_take (t:T) (j:Nat):(flat (t.take j)).length≤(flat t).length:=by
 conv=>rhs;rw [← List.take_append_drop j t]
 unfold flat
 rw [List.flatMap_append,List.length_append]
 omega
theorem take_bytes {t:T} {j:Nat} {e:En} (he:t[j]?=some e):(t.take (j+1)).flatMap enBytes=(t.take j).flatMap enBytes++enBytes e:=by
 obtain ⟨h,rfl⟩:=List.getElem?_eq_some_iff.1 he
 rw [List.take_succ_eq_append_getElem h,List.flatMap_append,List.flatMap_cons,List.flatMap_nil,List.append_nil]
theorem take_names {l:List Nm} {j:Nat} {n:Nm} (he:l[j]?=some n):(l.take (j+1)).flatMap nameBytes=(l.take j).flatMap nameBytes++Co.wBytes n.1++Co.wShort (Nd.lo16 n.2):=by
 obtain ⟨h,rfl⟩:=List.getElem?_eq_some_iff.1 he
 rw [List.take_succ_eq_append_getElem h,List.flatMap_append,List.flatMap_cons,List.flatMap_nil,List.append_nil,List.append_assoc]
 rfl
theorem Good.save_few {t:T} (h:Good t) (j:Nat) {e:En} (he:e ∈ t) (k:Nat):(Co.wShort t.length++(t.take j).flatMap enBytes++Co.wBytes e.nd.bytes++Co.wBytes e.data++Co.wShort e.names.length++(e.names.take k).flatMap nameBytes).length≤1099511400000:=by
 have h1:=ens_length (t.take j)
 have h2:=flat_take t j
 have h3:=h.flat_le
 have h4:=h.few
 have h5:(t.take j).length≤t.length:=by rw [List.length_take];omega
 have h6:=wBytes_length e.nd.bytes
 have h7:=wBytes_length e.data
 have h8:=names_bytes (e.names.take k)
 have h9:(e.names.take k).length≤e.names.length:=by rw [List.length_take];omega
 have h10:=h.names_le he
 have h11:(Co.wShort t.length).length=2:=rfl
 have h12:(Co.wShort e.names.length).length=2:=rfl
 simp only [List.length_append]
 omega
end Tr
namespace Tm
variable {p:Nat} {av:Value} {gs:List Nat} {S:Nat→Prop} {t:T} {w:World}
theorem strOf_size (l:Bs):(strOf l).size=l.length:=rfl
theorem conv_any (x:Bs) (w:World):∃ (c:Nat) (w':World),(convert 9 23 (.string (strOf x))).run Tryz.prog w=.ok (.slice (some ⟨w.heap.size,0,none⟩) x.length c) w'∧x.length≤c∧Rd w' (some ⟨w.heap.size,0,none⟩) x∧Below w.heap.size w w':=by
 have h:=Lib.run_convert_string_bytes w 9 23 5 (strOf x) Tryz.underlying9 Tryz.underlying23 Tryz.underlying5
 rw [strOf_size] at h
 refine ⟨_,_,h,by rw [← strOf_size x];exact grownCap_ge _ _ _ _,fun hl=>⟨w.heap.size,0,rfl,by rw [Lib.bytesWorld_size];omega,fun j y hj=>?_⟩,?_⟩
 ·obtain ⟨hj1,rfl⟩:=List.getElem?_eq_some_iff.1 hj
  rw [Nat.zero_add,Lib.bytesWorld_cell w _ (strOf x) j hj1]
  simp [strOf,List.getD,hj]
 ·exact ⟨rfl,rfl,rfl,by rw [Lib.bytesWorld_size];omega,fun b hb=>Lib.bytesWorld_at_old w _ _ b hb⟩
def SvAns (b:Bs) (w:World) (e:Ending) (w':World):Prop:=∃ X c,e=.returned (.slice X b.length c)∧b.length≤c∧Rd w' X b∧w'.ownsRow w.heap.size 5 1 (.slice X b.length c) b.length (Lib.byteCells b)∧Below w.heap.size w w'
theorem bytes3 {C:WSaid} {v:Value} {w0 w w2:World} {l:Bs} (h:WAt C v w0 l w) (hl:l.length≤1099511500000) (hb2:Below w.heap.size w w2) (A:Option Addr) (x:Bs) (c:Nat) (hr:Rd w2 A x) (hA:∀ b,A.map (·.block)=some b→w.heap.size≤b) (hc:x.length≤c) (hx:x.length≤1000000) :
    Calls Tryz.prog 74 #[v,.slice A x.length c] w2 fun e w'=>(∃ x,e=.returned x)∧Hid (WAt C v w0 (l++Co.wBytes x) w')∧Hid (∀ b,w.heap.size≤b→b<w2.heap.size→w'.heap[b]?=w2.heap[b]?):=by
 obtain ⟨S,hat,hb,hS⟩:=h
 refine (C.bytes (C.keep hat hb2.size (fun b hB=>hb2.block b (C.lt hat b hB))) hl A x c hr hc hx fun h0 b hA2 hB=>?_).mono fun e w' h=>?_
 ·have:=hA b hA2
  have:=C.lt hat b hB
  omega
 ·obtain ⟨k1,k2⟩:=WAt.out (v:=v) (C:=C) (hb.trans (hb2.mono hb.size)) hS h
  obtain ⟨_,S',_,hm,_⟩:=h
  exact ⟨k1,k2,fun b h1 h2=>hm.block b h2 fun h3=>by have:=C.lt hat b h3;omega⟩
theorem wat_eq {C:WSaid} {v:Value} {w0 w:World} {l l':Bs} (h:WAt C v w0 l w) (e:l=l'):WAt C v w0 l' w:=e ▸ h
set_option maxHeartbeats 4000000 in
set_option maxRecDepth 100000 in
theorem save_any (h:TIn p av gs S t w) (hG:Tr.Good t):Calls Tryz.prog 24 #[.pointer (some ⟨p,0,none⟩)] w (SvAns (Tr.save t) w):=by
 have H:=Lib.hid h
 have HG:=Lib.hid hG
 have hgl:=h.each.len
 obtain ⟨A,c,rfl,hc,hA⟩:=own_form h.row
 have HA:=Lib.hid hA
 obtain ⟨n,hn⟩:∃ n,n=gs.length:=⟨_,rfl⟩
 have HGN:Hid (n=gs.length):=hn
 have HN:Hid (n=t.length):=hn.trans hgl
 have hn64:n≤64:=by have:=hG.few;have:=HN.out;omega
 have HEN:Hid (∀ (e:En),e ∈ t→∀ j k,(Co.wShort n++(t.take j).flatMap Tr.enBytes++Co.wBytes e.nd.bytes++Co.wBytes e.data++Co.wShort e.names.length++(e.names.take k).flatMap Tr.nameBytes).length≤1099511400000):=fun e he j k=>by rw [HN.out];exact hG.save_few j he k
 have HBX:∀ W,Below w.heap.size w W→W.cell? ⟨p,0,none⟩=some (.slice A n c):=fun W hW=>by rw [HGN.out];exact (H.out.below hW).box.cell 0
 have HBX:=Lib.hid HBX
 clear h hG hA hgl hn
 go_enter Tryz.func24,Tryz.ntmps24
 go_wp2_with fail
 refine (WAt.new wsaid w).mono ?_
 rintro e w1 ⟨a,rfl,HW1⟩
 have c0:w1.cell? ⟨p,0,none⟩=some (.slice A n c):=HBX.out _ (WAt.low HW1.out)
 go_wp2_with fail
 refine (WAt.short HW1.out (by simp) n (by omega)).mono ?_
 rintro e w2 ⟨⟨x2,rfl⟩,HW2⟩
 clear c0
 have c0:w2.cell? ⟨p,0,none⟩=some (.slice A n c):=HBX.out _ (WAt.low HW2.out)
 have HST:Hid (WAt wsaid (.pointer (some a)) w (Co.wShort n++(t.take 0).flatMap Tr.enBytes) w2):=wat_eq HW2.out (by simp)
 clear HW1 HW2
 go_wp2_with fail
 go_loopw [23] (fun t23 wr=>∃ j:Nat,t23=.int .i64 j∧j≤n∧Hid (WAt wsaid (.pointer (some a)) w (Co.wShort n++(t.take j).flatMap Tr.enBytes) wr)) (fun t23 _=>n-(match t23 with|.int _ k=>k.toNat|_=>0))
 case atStart=>exact ⟨0,rfl,Nat.zero_le _,HST⟩
 case round =>
  clear HST c0
  obtain ⟨j,rfl,hj,HW⟩:=hrel
  by_cases hk:j<n
  ·obtain ⟨e,he⟩:∃ e,t[j]?=some e:=⟨_,List.getElem?_eq_getElem (by rw [← HN.out];exact hk)⟩
   have hem:e ∈ t:=List.mem_of_getElem? he
   obtain ⟨g,S1,hg,hE,_⟩:=(H.out.below (WAt.low HW.out)).each.get he
   obtain ⟨g0,_,hg0,hE0,_⟩:=H.out.each.get he
   obtain rfl:g=g0:=by rw [hg] at hg0;injection hg0
   obtain ⟨q,rfl,_,_,hql,hcell⟩:=HA.out (by rw [← HGN.out];omega)
   have c1:wr.cell? ⟨q,j,none⟩=some (.pointer (some ⟨g,0,none⟩)):=((WAt.low HW.out).cell (p:=⟨q,j,none⟩) hql).trans (hcell j _ (by simp [ptrCells,hg]))
   have hlt2:(j:Int)<(n:Int):=by omega
   have HR:Hid (e.nd.Right):=(HG.out.each e hem).nd
   have HLEN:=Lib.hid (HEN.out e hem j)
   have HNX:Hid ((t.take (j+1)).flatMap Tr.enBytes=(t.take j).flatMap Tr.enBytes++Tr.enBytes e):=Tr.take_bytes he
   have HEB:Hid (Tr.enBytes e=Co.wBytes e.nd.bytes++(Co.wBytes e.data++(Co.wShort e.names.length++e.names.flatMap Tr.nameBytes))):=rfl
   have hdl:e.data.length≤4096:=by
    have h1:=(HG.out.each e hem).size
    have h2:=(HG.out.each e hem).nd.2.2.2.2.2.1
    omega
   have hnl:e.names.length≤4194240:=HG.out.names_le hem
   have HID:Hid (∀ m ∈ e.names,∃ k:Nat,m.2=k∧k≤65535∧m.1.length≤16):=fun m hm=>by
    obtain ⟨_,h1⟩:=HG.out.leads e hem m hm
    obtain ⟨e2,h2,h3⟩:=Tr.find_isSome.1 h1
    have h4:=(HG.out.each e2 h2).nd
    have h5:=(HG.out.each e hem).good m hm
    refine ⟨m.2.toNat,?_,?_,?_⟩
    ·have:=h4.1;omega
    ·have:=h4.1;have:=h4.2.1;omega
    ·simp only [Pa.good,Bool.and_eq_true,decide_eq_true_eq] at h5
     omega
   obtain ⟨dv,nv,hE0,rfl⟩:=hE0
   obtain ⟨dv2,nv2,hE,rfl⟩:=hE
   have hsame:dv2=dv∧nv2=nv:=by
    have k1:=((WAt.low HW.out).cell (p:=⟨g,6,none⟩) hE0.box.lt).trans (hE0.box.cell 6)
    have k2:=((WAt.low HW.out).cell (p:=⟨g,7,none⟩) hE0.box.lt).trans (hE0.box.cell 7)
    have k3:=hE.box.cell 6
    have k4:=hE.box.cell 7
    rw [k1] at k3
    rw [k2] at k4
    injection k3 with k3
    injection k4 with k4
    exact ⟨k3.symm,k4.symm⟩
   obtain ⟨rfl,rfl⟩:=hsame
   clear hE
   obtain ⟨XD,cd,hdv,hcd,hrd⟩:=Go.Proofs.YtbnpgakmhhfjkaaGreatDoor.own_form hE0.data
   obtain ⟨XN,cn,hnv,hcn,hNA⟩:=hE0.names.form
   subst hdv hnv
   have HD:=Lib.hid hrd
   have HNA:=Lib.hid hNA
   have HEB0:=Lib.hid hE0.box
   have HCD:=Lib.hid hcd
   clear he hem hg hg0 hcell hE0 hrd hNA hcd hcn
   obtain ⟨⟨id,kind,links,size,till,shut⟩,data,names⟩:=e
   dsimp only at HR HLEN HNX HEB hdl hnl HID HD HNA HCD HEB0
   have hcells:=HEB0.out.below (WAt.low HW.out) HEB0.out.lt
   have d0:wr.cell? ⟨g,0,none⟩=some (.int .i64 id):=hcells.cell 0
   have d1:wr.cell? ⟨g,1,none⟩=some (.int .i64 kind):=hcells.cell 1
   have d2:wr.cell? ⟨g,2,none⟩=some (.int .i64 links):=hcells.cell 2
   have d3:wr.cell? ⟨g,3,none⟩=some (.int .i64 size):=hcells.cell 3
   have d4:wr.cell? ⟨g,4,none⟩=some (.int .u64 (till:Nat)):=hcells.cell 4
   have d5:wr.cell? ⟨g,5,none⟩=some (.bool shut):=hcells.cell 5
   clear hcells
   go_wp2_with fail
   refine (enc_yes_as wsaid wr HR.out).mono ?_
   rintro e w3 ⟨X3,k3,rfl,hk3,HO3,HR3,HB3⟩
   clear d0 d1 d2 d3 d4 d5 c1
   have h16:(Nd.bytes ⟨id,kind,links,size,till,shut⟩).length=16:=Nd.bytes_length _
   have HP0:Hid ((Co.wShort n++(t.take j).flatMap Tr.enBytes++Co.wBytes (Nd.bytes ⟨id,kind,links,size,till,shut⟩)++Co.wBytes data++Co.wShort names.length++(names.take 0).flatMap Tr.nameBytes).length≤1099511400000):=HLEN.out 0
   have HC4:Hid (Calls Tryz.prog 74 #[.pointer (some a),.slice X3 16 k3] w3 (WRet wsaid (.pointer (some a)) w (Co.wShort n++(t.take j).flatMap Tr.enBytes++Co.wBytes (Nd.bytes ⟨id,kind,links,size,till,shut⟩)))):=by
    have:=WAt.bytes2 HW.out (by have:=HP0.out;simp only [List.length_append] at this ⊢;omega) HB3.out X3 (Nd.bytes ⟨id,kind,links,size,till,shut⟩) k3 HR3.out (fun b hb=>by
     have h1:=HO3.out
     rcases h1.2 with ⟨e1,e2⟩|⟨g9,cap,cur,e1,h2,_⟩
     ·injection e1 with e1;subst e1;cases hb
     ·injection e1 with e1;subst e1;injection hb with hb;have hb:g9=b:=hb;omega) (by rw [h16];exact hk3) (by rw [h16];omega)
    rw [h16] at this
    exact this
   clear hk3 HO3 HR3 h16
   go_wp2_with fail
   refine HC4.out.mono ?_
   rintro e w4 ⟨⟨x4,rfl⟩,HW4⟩
   clear HC4 HB3
   have d6:w4.cell? ⟨g,6,none⟩=some (.slice XD data.length cd):=(HEB0.out.below (WAt.low HW4.out) HEB0.out.lt).cell 6
   go_wp2_with fail
   refine (WAt.bytes HW4.out (by have:=HP0.out;simp only [List.length_append] at this ⊢;omega) XD data cd HD.out HCD.out (by omega)).mono ?_
   rintro e w5 ⟨⟨x5,rfl⟩,HW5⟩
   clear HW4 d6
   have d7:w5.cell? ⟨g,7,none⟩=some (.slice XN names.length cn):=(HEB0.out.below (WAt.low HW5.out) HEB0.out.lt).cell 7
   go_wp2_with fail
   refine (WAt.short HW5.out (by have:=HP0.out;simp only [List.length_append] at this ⊢;omega) names.length (by omega)).mono ?_
   rintro e w6 ⟨⟨x6,rfl⟩,HW6⟩
   clear HW5 d7
   have d7:w6.cell? ⟨g,7,none⟩=some (.slice XN names.length cn):=(HEB0.out.below (WAt.low HW6.out) HEB0.out.lt).cell 7
   have HST:Hid (WAt wsaid (.pointer (some a)) w (Co.wShort n++(t.take j).flatMap Tr.enBytes++Co.wBytes (Nd.bytes ⟨id,kind,links,size,till,shut⟩)++Co.wBytes data++Co.wShort names.length++(names.take 0).flatMap Tr.nameBytes) w6):=wat_eq HW6.out (by simp)
   clear HW6 HP0 HW
   go_wp2_with fail
   clear d7
   go_loopw [56] (fun t56 wr=>∃ i:Nat,t56=.int .i64 i∧i≤names.length∧Hid (WAt wsaid (.pointer (some a)) w (Co.wShort n++(t.take j).flatMap Tr.enBytes++Co.wBytes (Nd.bytes ⟨id,kind,links,size,till,shut⟩)++Co.wBytes data++Co.wShort names.length++(names.take i).flatMap Tr.nameBytes) wr)) (fun t56 _=>names.length-(match t56 with|.int _ k=>k.toNat|_=>0))
   case atStart=>exact ⟨0,rfl,Nat.zero_le _,HST⟩
   case round =>
    clear HST
    obtain ⟨i,rfl,hi,HV⟩:=hrel
    by_cases hk2:i<names.length
    ·obtain ⟨⟨x,xi⟩,hm⟩:∃ m,names[i]?=some m:=⟨_,List.getElem?_eq_getElem hk2⟩
     obtain ⟨k,hxk,hk65,hx16⟩:=HID.out (x,xi) (List.mem_of_getElem? hm)
     dsimp only at hxk hx16
     subst hxk
     obtain ⟨q2,rfl,_,_,hql2,hcell2⟩:=HNA.out (by omega)
     have hlow:=WAt.low HV.out
     have c1:wr.cell? ⟨q2,i*2,none⟩=some (.string (strOf x)):=(hlow.cell (p:=⟨q2,i*2,none⟩) hql2).trans (hcell2 i _ hm).1
     have c2:wr.cell? ⟨q2,i*2+1,none⟩=some (.int .i64 (k:Nat)):=(hlow.cell (p:=⟨q2,i*2+1,none⟩) hql2).trans (hcell2 i _ hm).2
     have hlt3:(i:Int)<(names.length:Int):=by omega
     have HTK:Hid ((names.take (i+1)).flatMap Tr.nameBytes=(names.take i).flatMap Tr.nameBytes++Co.wBytes x++Co.wShort k):=by
      have:=Tr.take_names hm
      rw [show Nd.lo16 ((x,((k:Nat):Int)):Nm).2=k by unfold Nd.lo16;show ((k:Int) % 65536).toNat=k;omega] at this
      exact this
     have hP1:=HLEN.out (i+1)
     rw [HTK.out] at hP1
     have HP1:=Lib.hid hP1
     obtain ⟨ca,wb,hcv,hca,hrb,hbb⟩:=conv_any x (wr.alloc (.cells #[.string (strOf x),.int .i64 (k:Nat)] 116))
     rw [World.size_alloc] at hcv hrb
     have HBB:Hid (Below wr.heap.size wr wb):=(below_new wr _).trans (hbb.mono (by rw [World.size_alloc];omega))
     have HNB:Hid (Blk wb wr.heap.size 116 [.string (strOf x),.int .i64 (k:Nat)]):=(Blk.new wr _ _).below hbb (by rw [World.size_alloc];omega)
     have HCB:Hid (Calls Tryz.prog 74 #[.pointer (some a),.slice (some ⟨wr.heap.size+1,0,none⟩) x.length ca] wb fun e w'=>(∃ x,e=.returned x)∧Hid (WAt wsaid (.pointer (some a)) w (Co.wShort n++(t.take j).flatMap Tr.enBytes++Co.wBytes (Nd.bytes ⟨id,kind,links,size,till,shut⟩)++Co.wBytes data++Co.wShort names.length++(names.take i).flatMap Tr.nameBytes++Co.wBytes x) w')∧Hid (∀ b,wr.heap.size≤b→b<wb.heap.size→w'.heap[b]?=wb.heap[b]?)) :=
      bytes3 HV.out (by have:=HP1.out;simp only [List.length_append] at this ⊢;omega) HBB.out (some ⟨wr.heap.size+1,0,none⟩) x ca hrb (fun b hb=>by injection hb with hb;have hb:wr.heap.size+1=b:=hb;omega) hca (by omega)
     clear hm hcell2 hlow hP1 hrb hbb hca
     go_wp2_with fail
     refine HCB.out.mono ?_
     rintro e wc ⟨⟨xc,rfl⟩,HWC,HKC⟩
     clear HCB hcv c1 c2
     have HNC:Hid (Blk wc wr.heap.size 116 [.string (strOf x),.int .i64 (k:Nat)]):=(HKC.out _ (Nat.le_refl _) HNB.out.lt).trans HNB.out
     have c3:wc.cell? ⟨wr.heap.size,1,none⟩=some (.int .i64 (k:Nat)):=HNC.out.cell 1
     go_wp2_with fail
     refine (WAt.short HWC.out (by have:=HP1.out;simp only [List.length_append] at this ⊢;omega) k (by omega)).mono ?_
     rintro e wd ⟨⟨xd,rfl⟩,HWD⟩
     have HNEXT:Hid (WAt wsaid (.pointer (some a)) w (Co.wShort n++(t.take j).flatMap Tr.enBytes++Co.wBytes (Nd.bytes ⟨id,kind,links,size,till,shut⟩)++Co.wBytes data++Co.wShort names.length++(names.take (i+1)).flatMap Tr.nameBytes) wd):=wat_eq HWD.out (by rw [HTK.out];simp only [List.append_assoc])
     clear HWC HWD HTK HP1 HNC HBB HNB c3
     go_wp2_with fail
     go_roundw
     case rel=>exact ⟨i+1,by go_num,by omega,HNEXT⟩
     case measure=>simp;omega
    ·obtain rfl:i=names.length:=by omega
     have HNEXT:Hid (WAt wsaid (.pointer (some a)) w (Co.wShort n++(t.take (j+1)).flatMap Tr.enBytes) wr):=wat_eq HV.out (by rw [HNX.out,HEB.out,List.take_length];simp only [List.append_assoc])
     go_wp2_with fail
     go_roundw
     case rel=>exact ⟨j+1,by go_num,by omega,HNEXT⟩
     case measure=>simp;omega
  ·obtain rfl:j=n:=by omega
   have HEND:Hid (WAt wsaid (.pointer (some a)) w (Tr.save t) wr):=wat_eq HW.out (by rw [HN.out,List.take_length];rfl)
   go_wp2_with fail
   refine (WAt.done HEND.out).mono ?_
   rintro e w9 ⟨X,c9,rfl,hc9,HO9,HX9,HB9,HW9⟩
   have HANS:Hid (SvAns (Tr.save t) w (.returned (.slice X (Tr.save t).length c9)) w9):=by
    obtain ⟨X',c',e1,_,hr⟩:=Go.Proofs.YtbnpgakmhhfjkaaGreatDoor.own_form HO9.out
    injection e1 with e1 e2 e3
    subst e1
    exact ⟨X,c9,rfl,hc9,hr,own_up HO9.out HX9.out,WAt.low HW9.out⟩
   clear HO9 HX9 HB9 HW9 hc9
   go_wp2_with fail
   go_ret
   exact HANS.out
end Tm
end Go.Proofs.YtbnpgakmhhfjkaaGreatDoor
namespace Go.Proofs.YtbnpgakmhhfjkaaGreatDoor
open Go.RowKit
namespace Tr
variable {t:T}
theorem count_two {α:Type} {p:α→Bool}:∀ {l:List α} {a b:α},a ∈ l→b ∈ l→a≠b→p a=true→p b=true→2≤l.countP p
 | c :: l,a,b,ha,hb,hne,hpa,hpb=>by
   rcases List.mem_cons.1 ha with rfl|ha1 <;> rcases List.mem_cons.1 hb with rfl|hb1
   ·exact absurd rfl hne
   ·rw [List.countP_cons_of_pos hpa]
    have:=List.countP_pos_iff.2 ⟨b,hb1,hpb⟩
    omega
   ·rw [List.countP_cons_of_pos hpb]
    have:=List.countP_pos_iff.2 ⟨a,ha1,hpa⟩
    omega
   ·have:=count_two ha1 hb1 hne hpa hpb
    rw [List.countP_cons]
    omega
theorem Good.one_name (h:Good t) {j:Int} (hk:kindOf t j=2) {e e':En} (he:e ∈ t) (he':e' ∈ t) {n n':Nm} (hn:n ∈ e.names) (hn':n' ∈ e'.names) (h1:n.2=j) (h2:n'.2=j):e=e'∧n=n':=by
 have key:(e.nd.id,n)=(e'.nd.id,n'):=by
  refine Decidable.byContradiction fun hne=>?_
  have hc:2≤count t j:=count_two (flat_mem.2 ⟨e,he,rfl,hn⟩) (flat_mem.2 ⟨e',he',rfl,hn'⟩) hne (by simp [h1]) (by simp [h2])
  obtain ⟨ej,hej⟩:=h.has hk
  obtain ⟨hm,hid⟩:=find_some hej
  have h3:=h.linked ej hm
  have h4:=h.dirs ej hm (by rw [← kindOf_of hej];exact hk)
  have h5:=(h.leads e he n hn).1
  rw [hid,if_neg (by rw [← h1];exact h5),h4] at h3
  omega
 obtain ⟨h3,h4⟩:=Prod.mk.inj key
 refine ⟨?_,h4⟩
 have:=h.ris.find he
 rw [h3,h.ris.find he'] at this
 injection this with this
 exact this.symm
theorem Good.look_on (h:Good t) {i:Int} {q:List Bs} {e:En} (he:e ∈ t) (hl:lookF t i q=(e.nd.id,0)) (hk:e.nd.kind=2) {n:Nm} (hn:n ∈ e.names):lookF t i (q++[n.1])=(n.2,0):=by
 have hf:=h.ris.find he
 rw [lookF_app,hl,if_neg (by simp),lookF_cons,kindOf_of hf,if_neg (by simp [hk]),kids_of hf,get_of_mem (h.each e he).rise hn]
 rfl
theorem Good.look_back (h:Good t) {i j:Int} {q:List Bs} {x:Bs} (hl:lookF t i (q++[x])=(j,0)):∃ e ∈ t,lookF t i q=(e.nd.id,0)∧e.nd.kind=2∧(x,j) ∈ e.names:=by
 rw [lookF_app] at hl
 split at hl
 ·rename_i h2
  rw [hl] at h2
  exact absurd rfl h2
 ·rename_i h2
  have h3:(lookF t i q).2=0:=Decidable.byContradiction h2
  obtain ⟨d,hd⟩:∃ d,d=(lookF t i q).1:=⟨_,rfl⟩
  rw [← hd,lookF_cons] at hl
  split at hl
  ·cases hl
  ·rename_i h4
   have hk:kindOf t d=2:=Decidable.byContradiction h4
   obtain ⟨en,hen⟩:=h.has hk
   rw [kids_of hen] at hl
   cases hg:get en.names x with
   | none=>rw [hg] at hl;cases hl
   | some k =>
     rw [hg] at hl
     have hkj:k=j:=congrArg Prod.fst (show (k,0)=(j,0) from hl)
     refine ⟨en,(find_some hen).1,Prod.ext ?_ h3,by rw [← kindOf_of hen];exact hk,hkj ▸ get_mem hg⟩
     rw [(find_some hen).2,hd]
theorem Good.one_path (h:Good t):∀ (n:Nat) (a b:List Bs) (j:Int),a.length≤n→lookF t 0 a=(j,0)→lookF t 0 b=(j,0)→kindOf t j=2→a=b
 | n,a,b,j,hn,ha,hb,hk=>by
   have zero:∀ (q:List Bs) (x:Bs),lookF t 0 (q++[x])=(0,0)→False:=fun q x hq=>by
    obtain ⟨e,he,_,_,hm⟩:=h.look_back hq
    exact (h.leads e he _ hm).1 rfl
   rcases List.eq_nil_or_concat a with rfl|⟨a1,x,rfl⟩
   ·have hj:(0:Int)=j:=congrArg Prod.fst (show ((0:Int),0)=(j,0) from ha)
    subst hj
    rcases List.eq_nil_or_concat b with rfl|⟨b1,y,rfl⟩
    ·rfl
    ·rw [List.concat_eq_append] at hb
     exact (zero _ _ hb).elim
   ·rw [List.concat_eq_append] at ha hn ⊢
    rcases List.eq_nil_or_concat b with rfl|⟨b1,y,rfl⟩
    ·have hj:(0:Int)=j:=congrArg Prod.fst (show ((0:Int),0)=(j,0) from hb)
     subst hj
     exact (zero _ _ ha).elim
    ·rw [List.concat_eq_append] at hb ⊢
     obtain ⟨e,he,h1,h2,h3⟩:=h.look_back ha
     obtain ⟨e',he',h4,h5,h6⟩:=h.look_back hb
     obtain ⟨rfl,h7⟩:=h.one_name hk he he' h3 h6 rfl rfl
     obtain ⟨rfl,_⟩:=Prod.mk.inj h7
     rw [List.length_append] at hn
     have:a1.length<n:=Nat.lt_of_lt_of_le (Nat.lt_succ_self _) hn
     rw [h.one_path (n-1) a1 b1 e.nd.id (by omega) h1 h4 (by rw [kindOf_of (h.ris.find he)];exact h2)]
termination_by n=>n
decreasing_by omega
def Reach (t:T) (i j:Int):Prop:=∃ q,lookF t i q=(j,0)∧kindOf t j=2
theorem Good.reach_on (h:Good t) {i:Int} {e:En} (he:e ∈ t) (hr:Reach t i e.nd.id) {n:Nm} (hn:n ∈ e.names) (hk:kindOf t n.2=2):Reach t i n.2:=by
 obtain ⟨q,h1,h2⟩:=hr
 exact ⟨q++[n.1],h.look_on he h1 (by rw [← kindOf_of (h.ris.find he)];exact h2) hn,hk⟩
theorem Good.reach_back (h:Good t) {i:Int} {e:En} (he:e ∈ t) {n:Nm} (hn:n ∈ e.names) (hr:Reach t i n.2):n.2=i∨Reach t i e.nd.id:=by
 obtain ⟨q,h1,h2⟩:=hr
 rcases List.eq_nil_or_concat q with rfl|⟨q1,x,rfl⟩
 ·exact .inl (congrArg Prod.fst (show (i,0)=(n.2,0) from h1)).symm
 ·rw [List.concat_eq_append] at h1
  obtain ⟨e',he',h3,h4,h5⟩:=h.look_back h1
  obtain ⟨rfl,_⟩:=h.one_name h2 he he' hn h5 rfl rfl
  exact .inr ⟨q1,h3,by rw [kindOf_of (h.ris.find he)];exact h4⟩
theorem fold_le (t:T) (n:Nat):∀ (l:List Nm) (m:Nat),m≤l.foldl (fun m k=>max m (1+high t n k.2)) m
 | [],m=>Nat.le_refl _
 | k :: l,m=>by
   rw [List.foldl_cons]
   exact Nat.le_trans (Nat.le_max_left _ _) (fold_le t n l _)
theorem fold_mem (t:T) (n:Nat):∀ (l:List Nm) (m:Nat) (k:Nm),k ∈ l→1+high t n k.2≤l.foldl (fun m k=>max m (1+high t n k.2)) m
 | c :: l,m,k,hk=>by
   rw [List.foldl_cons]
   rcases List.mem_cons.1 hk with rfl|hk
   ·exact Nat.le_trans (Nat.le_max_right _ _) (fold_le t n l _)
   ·exact fold_mem t n l _ k hk
theorem look_high (t:T):∀ (n:Nat) (q:List Bs) (i j:Int),lookF t i q=(j,0)→q.length≤n→q.length≤high t n i
 | _,[],_,_,_,_=>Nat.zero_le _
 | n+1,x :: q,i,j,h,hl=>by
   rw [lookF_cons] at h
   split at h
   ·cases h
   ·cases hg:get (kids t i) x with
    | none=>rw [hg] at h;cases h
    | some k =>
      rw [hg] at h
      have h1:=look_high t n q k j h (by simpa using hl)
      have h2:=fold_mem t n (kids t i) 0 (x,k) (get_mem hg)
      rw [high]
      simp only [List.length_cons]
      simp only at h2
      omega
end Tr
end Go.Proofs.YtbnpgakmhhfjkaaGreatDoor
namespace Go.Proofs.YtbnpgakmhhfjkaaGreatDoor
open Go.RowKit
namespace Tr
variable {t:T}
theorem inj_le {α β:Type} [DecidableEq β] (R:α→β→Prop) (hi:∀ x x' y,R x y→R x' y→x=x'):∀ (l:List α) (m:List β),l.Nodup→(∀ x ∈ l,∃ y ∈ m,R x y)→l.length≤m.length
 | [],_,_,_=>Nat.zero_le _
 | x :: l,m,hn,he=>by
   obtain ⟨y,hy,hr⟩:=he x (.head _)
   rw [List.nodup_cons] at hn
   have:=inj_le R hi l (m.erase y) hn.2 fun z hz=>by
    obtain ⟨u,hu,hr2⟩:=he z (.tail _ hz)
    refine ⟨u,(List.mem_erase_of_ne fun e=>?_).2 hu,hr2⟩
    subst e
    have:=hi _ _ _ hr hr2
    subst this
    exact hn.1 hz
   rw [List.length_erase_of_mem hy] at this
   have h1:0<m.length:=List.length_pos_of_mem hy
   rw [List.length_cons]
   omega
theorem Good.path_deep (h:Good t) {dep:Int→Nat} (hd0:dep 0=0) (hd:∀ e ∈ t,∀ n ∈ e.names,dep e.nd.id+1≤8∧(kindOf t n.2=2→dep n.2=dep e.nd.id+1)):∀ (n:Nat) (q:List Bs) (j:Int),q.length=n→lookF t 0 q=(j,0)→q.length≤8∧(kindOf t j=2→dep j=q.length)
 | 0,q,j,hn,hl=>by
   obtain rfl:q=[]:=List.eq_nil_of_length_eq_zero hn
   have h1:(0,0)=(j,0):=hl
   injection h1 with h1
   subst h1
   exact ⟨Nat.zero_le _,fun _=>hd0⟩
 | n+1,q,j,hn,hl=>by
   rcases List.eq_nil_or_concat q with rfl|⟨r,x,rfl⟩
   ·cases hn
   ·rw [List.concat_eq_append] at hn hl ⊢
    obtain ⟨e,he,h1,h2,h3⟩:=h.look_back hl
    rw [List.length_append] at hn
    have hn1:r.length=n:=by simpa using hn
    obtain ⟨k1,k2⟩:=h.path_deep hd0 hd n r e.nd.id hn1 h1
    have k3:=k2 (by rw [kindOf_of (h.ris.find he)];exact h2)
    obtain ⟨k4,k5⟩:=hd e he _ h3
    rw [List.length_append]
    refine ⟨by simp;omega,fun hk=>?_⟩
    rw [k5 hk]
    simp
    omega
theorem Good.path_le (h:Good t) {q:List Bs} {j:Int} (hl:lookF t 0 q=(j,0)):q.length≤8:=by
 obtain ⟨dep,hd0,hd⟩:=h.deep
 exact (h.path_deep hd0 hd _ q j rfl hl).1
theorem Good.walk_mem (h:Good t):∀ (n:Nat) (i:Int) (p q:List Bs) (k:Int),(q,k) ∈ walk t n i p↔∃ r,q=p++r∧r≠[]∧r.length≤n∧lookF t i r=(k,0)
 | 0,i,p,q,k=>by
   constructor
   ·intro h1;cases h1
   ·rintro ⟨r,_,h1,h2,_⟩
    exact absurd (List.eq_nil_of_length_eq_zero (by omega)) h1
 | n+1,i,p,q,k=>by
   show (q,k) ∈ (kids t i).flatMap _↔_
   rw [List.mem_flatMap]
   constructor
   ·rintro ⟨⟨x,m⟩,hm,h1⟩
    obtain ⟨en,hen,hmem⟩:=kids_mem hm
    have hk2:kindOf t i=2:=Decidable.byContradiction fun hne=>by rw [h.file_kids hne] at hm;cases hm
    have hstep:∀ r,lookF t i (x :: r)=lookF t m r:=fun r=>by
     rw [lookF_cons,if_neg (by simp [hk2]),get_of_mem (h.rises i) hm]
    rcases List.mem_cons.1 h1 with h1|h1
    ·injection h1 with h2 h3
     subst h2 h3
     exact ⟨[x],rfl,by simp,by simp,by rw [hstep];rfl⟩
    ·obtain ⟨r,h2,h3,h4,h5⟩:=(h.walk_mem n m (p++[x]) q k).1 h1
     exact ⟨x :: r,by rw [h2];simp,by simp,by simp;omega,by rw [hstep];exact h5⟩
   ·rintro ⟨r,h2,h3,h4,h5⟩
    cases r with
    | nil=>exact absurd rfl h3
    | cons x r =>
      rw [lookF_cons] at h5
      split at h5
      ·cases h5
      ·cases hg:get (kids t i) x with
       | none=>rw [hg] at h5;cases h5
       | some m =>
         rw [hg] at h5
         replace h5:lookF t m r=(k,0):=h5
         refine ⟨(x,m),get_mem hg,?_⟩
         by_cases hr:r=[]
         ·subst hr
          have h6:(m,0)=(k,0):=h5
          injection h6 with h6
          subst h6 h2
          exact .head _
         ·refine .tail _ ((h.walk_mem n m (p++[x]) q k).2 ⟨r,by rw [h2];simp,hr,by simp at h4;omega,h5⟩)
theorem Good.dir_path (h:Good t) {dep:Int→Nat} (hd:∀ e ∈ t,∀ n ∈ e.names,dep e.nd.id+1≤8∧(kindOf t n.2=2→dep n.2=dep e.nd.id+1)):∀ (n:Nat) (e:En),e ∈ t→e.nd.kind=2→dep e.nd.id≤n→∃ r,lookF t 0 r=(e.nd.id,0)
 | n,e,he,hk,hn=>by
   by_cases h0:e.nd.id=0
   ·exact ⟨[],by rw [h0];rfl⟩
   ·have h1:=h.linked e he
    rw [h.dirs e he hk,if_neg h0] at h1
    have h2:0<count t e.nd.id:=by omega
    unfold count at h2
    obtain ⟨x,hx,hx2⟩:=List.countP_pos_iff.1 h2
    have hx2:x.2.2=e.nd.id:=by simpa using hx2
    obtain ⟨e2,he2,h3,h4⟩:=flat_mem.1 hx
    have hk2:e2.nd.kind=2:=by
     rcases h.kind he2 with h5|h5
     ·rw [(h.each e2 he2).file h5] at h4;cases h4
     ·exact h5
    obtain ⟨_,h6⟩:=hd e2 he2 _ h4
    have h7:=h6 (by rw [hx2,kindOf_of (h.ris.find he)];exact hk)
    rw [hx2] at h7
    cases n with
    | zero=>omega
    | succ n =>
      obtain ⟨r,hr⟩:=h.dir_path hd n e2 he2 hk2 (by omega)
      have:=h.look_on he2 hr hk2 h4
      rw [hx2] at this
      exact ⟨_,this⟩
theorem Good.path_of (h:Good t) {e:En} (he:e ∈ t) (hk:e.nd.kind=2):∃ r,lookF t 0 r=(e.nd.id,0):=by
 obtain ⟨dep,_,hd⟩:=h.deep
 exact h.dir_path hd _ e he hk (Nat.le_refl _)
def paths (t:T):List (List Bs × Int):=walk t 64 0 []
theorem Good.paths_mem (h:Good t) (q:List Bs) (k:Int):(q,k) ∈ paths t↔q≠[]∧lookF t 0 q=(k,0):=by
 unfold paths
 rw [h.walk_mem]
 constructor
 ·rintro ⟨r,h1,h2,h3,h4⟩
  rw [List.nil_append] at h1
  subst h1
  exact ⟨h2,h4⟩
 ·rintro ⟨h1,h2⟩
  exact ⟨q,rfl,h1,by have:=h.path_le h2;omega,h2⟩
def EndsIn (t:T) (a:List Bs × Int) (x:Int × Nm):Prop:=∃ r,a.1=r++[x.2.1]∧lookF t 0 r=(x.1,0)∧a.2=x.2.2∧kindOf t x.1=2
/-! Nodes ahead of a number. -/
def below (t:T) (i:Int):Nat:=t.countP fun e=>decide (e.nd.id<i)
end Tr
end Go.Proofs.YtbnpgakmhhfjkaaGreatDoor
namespace Go.Proofs.YtbnpgakmhhfjkaaGreatDoor
open Go.RowKit
namespace Tr
/-! Reading. -/
def ldNames:Nat→Bs→Co.Rs→Option (List Nm × Co.Rs)
 | 0,_,s=>some ([],s)
 | n+1,last,s =>
   if Pa.good (Co.bytes s).1=true∧less last (Co.bytes s).1=true then
    (ldNames n (Co.bytes s).1 (Co.num 2 (Co.bytes s).2).2).map fun r=>(((Co.bytes s).1,((Co.num 2 (Co.bytes s).2).1:Int)) :: r.1,r.2)
   else none
def ldEn (s:Co.Rs):Option (En × Co.Rs) :=
 if (ndDec (Co.bytes s).1).2≠0 then none
 else (ldNames (Co.num 2 (Co.bytes (Co.bytes s).2).2).1 [] (Co.num 2 (Co.bytes (Co.bytes s).2).2).2).bind fun r =>
  if ((Co.bytes (Co.bytes s).2).1.length:Int)=(ndDec (Co.bytes s).1).1.size then some (⟨(ndDec (Co.bytes s).1).1,(Co.bytes (Co.bytes s).2).1,r.1⟩,r.2) else none
def ldEns:Nat→Co.Rs→Option (T × Co.Rs)
 | 0,s=>some ([],s)
 | n+1,s=>(ldEn s).bind fun r=>(ldEns n r.2).map fun q=>(r.1 :: q.1,q.2)
/-! What is written is read. -/
theorem ldNames_back:∀ (l:List Nm) (last r:Bs),l.length≤65535→(∀ n ∈ l,Pa.good n.1=true∧∃ k:Nat,n.2=k∧k≤65535)→(∀ n ∈ l,less last n.1=true)→Rise l→ldNames l.length last ⟨l.flatMap nameBytes++r,0⟩=some (l,⟨r,0⟩)
 | [],_,_,_,_,_,_=>rfl
 | n :: l,last,r,hl,hg,hlast,hr=>by
   obtain ⟨x,m⟩:=n
   obtain ⟨h1,k,h2,h3⟩:=hg (x,m) (.head _)
   dsimp only at h1 h2
   subst h2
   have hx:x.length≤65535:=by
    simp only [Pa.good,Bool.and_eq_true,decide_eq_true_eq] at h1
    omega
   have e0:(((x,((k:Nat):Int)) :: l:List Nm).flatMap nameBytes)++r=Co.wBytes x++(Co.wShort k++(l.flatMap nameBytes++r)):=by
    rw [List.flatMap_cons]
    unfold nameBytes
    rw [show Nd.lo16 ((x,((k:Nat):Int)):Nm).2=k by unfold Nd.lo16;show ((k:Int) % 65536).toNat=k;omega]
    simp only [List.append_assoc]
   obtain ⟨hr1,hr2⟩:=List.pairwise_cons.1 hr
   have ih:=ldNames_back l x r (by simp at hl;omega) (fun n hn=>hg n (.tail _ hn)) (fun n hn=>hr1 n hn) hr2
   rw [List.length_cons,e0]
   unfold ldNames
   rw [Co.bytes_app x _ hx]
   dsimp only
   rw [Co.num_short,if_pos ⟨h1,hlast (x,_) (.head _)⟩]
   dsimp only
   rw [ih,Nat.mod_eq_of_lt (by omega)]
   rfl
def Slim (t:T):Prop:=∀ e ∈ t,e.names.length≤65535
theorem less_nil {x:Bs} (h:Pa.good x=true):less [] x=true:=by
 cases x with
 | nil=>exact absurd h (by decide)
 | cons a x=>rfl
theorem Good.ids {t:T} (h:Good t) {e:En} (he:e ∈ t):∀ n ∈ e.names,∃ k:Nat,n.2=k∧k≤65535:=fun n hn=>by
 obtain ⟨_,h1⟩:=h.leads e he n hn
 obtain ⟨e2,h2,h3⟩:=find_isSome.1 h1
 have h4:=(h.each e2 h2).nd
 exact ⟨n.2.toNat,by have:=h4.1;omega,by have:=h4.1;have:=h4.2.1;omega⟩
theorem ldEn_back {e:En} (h:EnOk e) (hs:e.names.length≤65535) (hi:∀ n ∈ e.names,∃ k:Nat,n.2=k∧k≤65535) (r:Bs):ldEn ⟨enBytes e++r,0⟩=some (e,⟨r,0⟩):=by
 have e0:enBytes e++r=Co.wBytes e.nd.bytes++(Co.wBytes e.data++(Co.wShort e.names.length++(e.names.flatMap nameBytes++r))):=by
  unfold enBytes
  simp only [List.append_assoc]
 have hd:e.data.length≤65535:=by
  have h1:=h.size
  have h2:=h.nd.2.2.2.2.2.1
  omega
 unfold ldEn
 rw [e0,Co.bytes_app _ _ (by rw [Nd.bytes_length];omega)]
 dsimp only
 rw [ndDec_bytes _ h.nd]
 dsimp only
 rw [if_neg (by simp),Co.bytes_app _ _ hd]
 dsimp only
 rw [Co.num_short,Nat.mod_eq_of_lt (show e.names.length<65536 by omega)]
 dsimp only
 rw [ldNames_back e.names [] r hs (fun n hn=>⟨h.good n hn,hi n hn⟩) (fun n hn=>less_nil (h.good n hn)) h.rise]
 show (if (e.data.length:Int)=e.nd.size then _ else _)=_
 rw [if_pos h.size.symm]
theorem ldEns_back:∀ (t:T) (r:Bs),(∀ e ∈ t,EnOk e∧e.names.length≤65535∧∀ n ∈ e.names,∃ k:Nat,n.2=k∧k≤65535)→ldEns t.length ⟨t.flatMap enBytes++r,0⟩=some (t,⟨r,0⟩)
 | [],_,_=>rfl
 | e :: t,r,h=>by
   obtain ⟨h1,h2,h3⟩:=h e (.head _)
   rw [List.flatMap_cons,List.append_assoc,List.length_cons]
   unfold ldEns
   rw [ldEn_back h1 h2 h3]
   show ((ldEns t.length ⟨t.flatMap enBytes++r,0⟩).map _)=_
   rw [ldEns_back t r fun e he=>h e (.tail _ he)]
   rfl
/-! What is read is what is written. -/
theorem bytes_inv (s:Co.Rs) (h:(Co.bytes s).2.why=0):s.why=0∧(Co.bytes s).1.length≤65535∧s.rem=Co.wBytes (Co.bytes s).1++(Co.bytes s).2.rem:=by
 unfold Co.bytes at h ⊢
 by_cases h0:(Co.num 2 s).1=0
 ·have e:Co.raw ((Co.num 2 s).1:Nat) (Co.num 2 s).2=([],(Co.num 2 s).2):=by unfold Co.raw;rw [if_pos (.inr (by omega))]
  rw [e] at h ⊢
  obtain ⟨h1,h2,h3⟩:=Co.short_inv s h
  refine ⟨h1,Nat.zero_le _,?_⟩
  rw [h0] at h3
  exact h3
 ·obtain ⟨h1,h2,h3⟩:=Co.raw_inv (Co.num 2 s).1 (Co.num 2 s).2 (by omega) h
  obtain ⟨k1,k2,k3⟩:=Co.short_inv s h1
  refine ⟨k1,by omega,?_⟩
  have e:Co.wBytes (Co.raw ((Co.num 2 s).1:Nat) (Co.num 2 s).2).1=Co.wShort (Co.num 2 s).1++(Co.raw ((Co.num 2 s).1:Nat) (Co.num 2 s).2).1:=by
   unfold Co.wBytes
   rw [List.take_of_length_le (by omega),h2]
  rw [e,List.append_assoc,← h3]
  exact k3
theorem ldNames_inv:∀ (n:Nat) (last:Bs) (s:Co.Rs) (l:List Nm) (s':Co.Rs),ldNames n last s=some (l,s')→s'.why=0→s.why=0∧l.length=n∧s.rem=l.flatMap nameBytes++s'.rem∧(∀ m ∈ l,Pa.good m.1=true∧∃ k:Nat,m.2=k∧k≤65535)∧(∀ m ∈ l,less last m.1=true)∧Rise l
 | 0,_,s,l,s',h,hw=>by
   unfold ldNames at h
   simp only [Option.some.injEq,Prod.mk.injEq] at h
   obtain ⟨h1,h2⟩:=h
   subst h1 h2
   exact ⟨hw,rfl,rfl,(fun _ hm=>by cases hm),(fun _ hm=>by cases hm),List.Pairwise.nil⟩
 | n+1,last,s,l,s',h,hw=>by
   unfold ldNames at h
   split at h
   ·rename_i hg
    cases hr:ldNames n (Co.bytes s).1 (Co.num 2 (Co.bytes s).2).2 with
    | none=>rw [hr] at h;cases h
    | some r =>
      rw [hr] at h
      simp only [Option.map_some,Option.some.injEq,Prod.mk.injEq] at h
      obtain ⟨h1,h2⟩:=h
      subst h1 h2
      obtain ⟨l1,s1⟩:=r
      obtain ⟨i1,i2,i3,i4,i5,i6⟩:=ldNames_inv n _ _ _ _ hr hw
      obtain ⟨k1,k2,k3⟩:=Co.short_inv _ i1
      obtain ⟨b1,b2,b3⟩:=bytes_inv s k1
      refine ⟨b1,by rw [List.length_cons,i2],?_,fun m hm=>?_,fun m hm=>?_,List.pairwise_cons.2 ⟨i5,i6⟩⟩
      ·have hnb:nameBytes ((Co.bytes s).1,((Co.num 2 (Co.bytes s).2).1:Int))=Co.wBytes (Co.bytes s).1++Co.wShort (Co.num 2 (Co.bytes s).2).1:=by
        unfold nameBytes
        rw [show Nd.lo16 (((Co.bytes s).1,((Co.num 2 (Co.bytes s).2).1:Int)):Nm).2=(Co.num 2 (Co.bytes s).2).1 by unfold Nd.lo16;show (((Co.num 2 (Co.bytes s).2).1:Int) % 65536).toNat=_;omega]
       rw [List.flatMap_cons,hnb,b3,k3,i3]
       simp only [List.append_assoc]
      ·rcases List.mem_cons.1 hm with rfl|hm
       ·exact ⟨hg.1,_,rfl,by omega⟩
       ·exact i4 m hm
      ·rcases List.mem_cons.1 hm with rfl|hm
       ·exact hg.2
       ·exact less_trans hg.2 (i5 m hm)
   ·cases h
theorem ldEn_inv {s s':Co.Rs} {e:En} (h:ldEn s=some (e,s')) (hw:s'.why=0):s.why=0∧s.rem=enBytes e++s'.rem∧e.nd.Right∧e.nd.size=(e.data.length:Nat)∧e.names.length≤65535∧Rise e.names∧∀ m ∈ e.names,Pa.good m.1=true∧∃ k:Nat,m.2=k∧k≤65535:=by
 unfold ldEn at h
 have hb:=bytes_inv s
 generalize Co.bytes s=B at h hb
 have hd:=bytes_inv B.2
 generalize Co.bytes B.2=D at h hd
 have hc:=Co.short_inv D.2
 generalize Co.num 2 D.2=C at h hc
 have hn:=ndDec_inv B.1
 generalize ndDec B.1=N at h hn
 split at h
 ·cases h
 ·rename_i hn0
  obtain ⟨n1,n2⟩:=hn (Decidable.byContradiction hn0)
  cases hr:ldNames C.1 [] C.2 with
  | none=>rw [hr] at h;cases h
  | some r =>
    obtain ⟨l,s1⟩:=r
    rw [hr] at h
    simp only [Option.bind_some] at h
    split at h
    ·rename_i hs
     simp only [Option.some.injEq,Prod.mk.injEq] at h
     obtain ⟨h1,h2⟩:=h
     subst h1 h2
     obtain ⟨i1,i2,i3,i4,_,i6⟩:=ldNames_inv _ _ _ _ _ hr hw
     obtain ⟨k1,k2,k3⟩:=hc i1
     obtain ⟨d1,d2,d3⟩:=hd k1
     obtain ⟨b1,b2,b3⟩:=hb d1
     refine ⟨b1,?_,n1,hs.symm,by show l.length≤_;omega,i6,i4⟩
     unfold enBytes
     dsimp only
     rw [n2,i2,b3,d3,k3,i3]
     simp only [List.append_assoc]
    ·cases h
theorem ldEns_inv:∀ (n:Nat) (s:Co.Rs) (t:T) (s':Co.Rs),ldEns n s=some (t,s')→s'.why=0→s.why=0∧t.length=n∧s.rem=t.flatMap enBytes++s'.rem∧∀ e ∈ t,e.nd.Right∧e.nd.size=(e.data.length:Nat)∧e.names.length≤65535∧Rise e.names∧∀ m ∈ e.names,Pa.good m.1=true∧∃ k:Nat,m.2=k∧k≤65535:=by
 intro n
 induction n with
 | zero =>
   intro s t s' h hw
   unfold ldEns at h
   simp only [Option.some.injEq,Prod.mk.injEq] at h
   obtain ⟨h1,h2⟩:=h
   subst h1 h2
   exact ⟨hw,rfl,rfl,(fun _ hm=>by cases hm)⟩
 | succ n ih =>
   intro s t s' h hw
   unfold ldEns at h
   have hE:=@ldEn_inv s
   generalize ldEn s=E at h hE
   cases E with
   | none=>cases h
   | some r =>
     obtain ⟨e,s1⟩:=r
     simp only [Option.bind_some] at h
     have hI:=ih s1
     generalize ldEns n s1=q at h hI
     cases q with
     | none=>cases h
     | some q =>
       obtain ⟨t1,s2⟩:=q
       simp only [Option.map_some,Option.some.injEq,Prod.mk.injEq] at h
       obtain ⟨h1,h2⟩:=h
       subst h1 h2
       obtain ⟨i1,i2,i3,i4⟩:=hI t1 s2 rfl hw
       obtain ⟨b1,b2,b3⟩:=hE rfl i1
       refine ⟨b1,by rw [List.length_cons,i2],by rw [List.flatMap_cons,b2,i3,List.append_assoc],fun m hm=>?_⟩
       rcases List.mem_cons.1 hm with rfl|hm
       ·exact b3
       ·exact i4 m hm
end Tr
end Go.Proofs.YtbnpgakmhhfjkaaGreatDoor
namespace Go.Proofs.YtbnpgakmhhfjkaaGreatDoor
open Go.RowKit
namespace Tr
variable {t:T}
def opens (t:T):List Int:=(t.filter fun e=>!e.nd.shut).map (·.nd.id)
def dropAll (t:T) (l:List Int):T:=l.foldl (fun c i=>(drop c i).2) t
def committed (t:T):T:=dropAll t (opens t)
def upTo (t:T) (i:Int):T:=dropAll t ((opens t).filter fun j=>decide (j<i))
theorem drop_nd {c:T} {i j:Int} (h:j≠i):(find (drop c i).2 j).map (·.nd)=(find c j).map (·.nd):=by
 unfold drop
 split
 ·rfl
 ·split
  ·rfl
  ·rw [find_remove,if_neg h,find_map (f:=fun e:En=>{ e with names:=strike e.names i }) (fun _=>rfl),Option.map_map]
   rfl
theorem drop_slim {c:T} (h:Slim c) (i:Int):Slim (drop c i).2:=by
 unfold drop
 split
 ·exact h
 ·split
  ·exact h
  ·intro e he
   obtain ⟨e0,h0,rfl⟩:=List.mem_map.1 (List.mem_filter.1 he).1
   exact Nat.le_trans (List.length_filter_le _ _) (h e0 h0)
theorem dropAll_good:∀ (l:List Int) {c:T},Good c→Good (dropAll c l)
 | [],_,h=>h
 | i :: l,_,h=>dropAll_good l (drop_good h i)
theorem dropAll_slim:∀ (l:List Int) {c:T},Slim c→Slim (dropAll c l)
 | [],_,h=>h
 | i :: l,_,h=>dropAll_slim l (drop_slim h i)
theorem dropAll_nd:∀ (l:List Int) {c:T} {j:Int},j ∉ l→(find (dropAll c l) j).map (·.nd)=(find c j).map (·.nd)
 | [],_,_,_=>rfl
 | i :: l,c,j,h=>by
   have h1:j≠i:=fun e=>h (e ▸ .head _)
   have h2:j ∉ l:=fun e=>h (.tail _ e)
   show (find (dropAll (drop c i).2 l) j).map (·.nd)=_
   rw [dropAll_nd l h2,drop_nd h1]
theorem dropAll_app (c:T) (a b:List Int):dropAll c (a++b)=dropAll (dropAll c a) b:=List.foldl_append
theorem upTo_good (h:Good t) (i:Int):Good (upTo t i):=dropAll_good _ h
theorem committed_good (h:Good t):Good (committed t):=dropAll_good _ h
theorem committed_slim (h:Slim t):Slim (committed t):=dropAll_slim _ h
theorem upTo_nd (i:Int):(find (upTo t i) i).map (·.nd)=(find t i).map (·.nd):=dropAll_nd _ fun h=>by
 have:=(List.mem_filter.1 h).2
 simp at this
theorem opens_nonneg (h:Good t):∀ i ∈ opens t,0≤i:=fun i hi=>by
 obtain ⟨e,he,rfl⟩:=List.mem_map.1 hi
 exact (h.each e (List.mem_filter.1 he).1).nd.1
theorem upTo_zero (h:Good t):upTo t 0=t:=by
 unfold upTo
 rw [List.filter_eq_nil_iff.2 fun i hi=>by have:=opens_nonneg h i hi;simp;omega]
 rfl
theorem opens_rise (h:Good t):(opens t).Pairwise (· < ·):=List.pairwise_map.2 (h.rise.filter _)
theorem ids_next:∀ (l:List Int),l.Pairwise (· < ·)→∀ i,l.filter (fun j=>decide (j<i+1))=l.filter (fun j=>decide (j<i))++(if i ∈ l then [i] else [])
 | [],_,_=>rfl
 | a :: l,h,i=>by
   obtain ⟨h1,h2⟩:=List.pairwise_cons.1 h
   have ih:=ids_next l h2 i
   rcases Int.lt_trichotomy a i with h3|h3|h3
   ·rw [List.filter_cons_of_pos (by simp;omega),List.filter_cons_of_pos (by simp;omega),ih]
    have h4:i≠a:=by omega
    simp only [List.mem_cons,h4,false_or,List.cons_append]
   ·subst h3
    have h4:l.filter (fun j=>decide (j<a+1))=[]:=List.filter_eq_nil_iff.2 fun j hj=>by have:=h1 j hj;simp;omega
    have h5:l.filter (fun j=>decide (j<a))=[]:=List.filter_eq_nil_iff.2 fun j hj=>by have:=h1 j hj;simp;omega
    rw [List.filter_cons_of_pos (by simp;omega),List.filter_cons_of_neg (by simp),h4,h5]
    simp
   ·have h4:l.filter (fun j=>decide (j<i+1))=[]:=List.filter_eq_nil_iff.2 fun j hj=>by have:=h1 j hj;simp;omega
    have h5:l.filter (fun j=>decide (j<i))=[]:=List.filter_eq_nil_iff.2 fun j hj=>by have:=h1 j hj;simp;omega
    have h6:¬ i ∈ a :: l:=fun h9=>by
     rcases List.mem_cons.1 h9 with h9|h9
     ·omega
     ·have:=h1 i h9;omega
    rw [List.filter_cons_of_neg (by simp;omega),List.filter_cons_of_neg (by simp;omega),h4,h5,if_neg h6]
    rfl
theorem opens_mem {i:Int} (h:Good t):i ∈ opens t↔∃ e,find t i=some e∧e.nd.shut=false:=by
 constructor
 ·intro hi
  obtain ⟨e,he,rfl⟩:=List.mem_map.1 hi
  obtain ⟨h1,h2⟩:=List.mem_filter.1 he
  exact ⟨e,h.ris.find h1,by simpa using h2⟩
 ·rintro ⟨e,he,hs⟩
  obtain ⟨h1,h2⟩:=find_some he
  exact List.mem_map.2 ⟨e,List.mem_filter.2 ⟨h1,by simp [hs]⟩,h2⟩
theorem upTo_next (h:Good t) (i:Int):upTo t (i+1)=if (find t i).isSome=true∧(ndOf t i).shut=false then (drop (upTo t i) i).2 else upTo t i:=by
 unfold upTo
 rw [ids_next _ (opens_rise h),dropAll_app]
 by_cases hm:i ∈ opens t
 ·obtain ⟨e,he,hs⟩:=(opens_mem h).1 hm
  rw [if_pos hm,if_pos ⟨by rw [he];rfl,by rw [ndOf_of he];exact hs⟩]
  rfl
 ·rw [if_neg hm,if_neg]
  ·rfl
  ·rintro ⟨h1,h2⟩
   obtain ⟨e,he⟩:=Option.isSome_iff_exists.1 h1
   exact hm ((opens_mem h).2 ⟨e,he,by rw [ndOf_of he] at h2;exact h2⟩)
def leftOf (t:T) (i:Int):Nat:=t.countP fun e=>decide (i≤e.nd.id)
theorem leftOf_zero (h:Good t):leftOf t 0=t.length:=by
 unfold leftOf
 rw [List.countP_eq_length]
 intro e he
 simpa using (h.each e he).nd.1
theorem leftOf_next (h:Good t) (i:Int):leftOf t i=leftOf t (i+1)+(if (find t i).isSome=true then 1 else 0):=by
 have key:∀ u:T,u.Pairwise (fun a b=>a.nd.id<b.nd.id)→leftOf u i=leftOf u (i+1)+(if (find u i).isSome=true then 1 else 0):=by
  intro u
  induction u with
  | nil=>intro _;rfl
  | cons e u ih =>
    intro hu
    obtain ⟨h1,h2⟩:=List.pairwise_cons.1 hu
    have ih:=ih h2
    unfold leftOf at ih ⊢
    rw [List.countP_cons,List.countP_cons,find_cons]
    by_cases h3:e.nd.id=i
    ·have h4:(find u i).isSome=false:=by
      rw [Bool.eq_false_iff]
      intro h9
      obtain ⟨m,hm,hi⟩:=find_isSome.1 h9
      have:=h1 m hm
      omega
     rw [h4,if_neg (by simp)] at ih
     rw [if_pos h3,if_pos (decide_eq_true (by omega)),if_neg (by simp;omega),ih]
     rfl
    ·rw [if_neg h3]
     by_cases h5:i≤e.nd.id
     ·have h6:i+1≤e.nd.id:=by omega
      rw [if_pos (decide_eq_true h5),if_pos (decide_eq_true h6),ih]
      omega
     ·have h6:¬ i+1≤e.nd.id:=by omega
      rw [if_neg (by simpa using h5),if_neg (by simpa using h6),ih]
      omega
 exact key t h.rise
theorem leftOf_none (h:Good t) {i:Int} (h0:leftOf t i=0):upTo t i=committed t:=by
 unfold upTo committed
 rw [List.filter_eq_self.2 fun j hj=>by
  obtain ⟨e,he,rfl⟩:=List.mem_map.1 hj
  have h1:=List.countP_eq_zero.1 h0 e (List.mem_filter.1 he).1
  simp at h1 ⊢
  omega]
theorem leftOf_far (h:Good t) {i:Int} (hi:65535<i):leftOf t i=0:=by
 unfold leftOf
 rw [List.countP_eq_zero]
 intro e he
 have:=(h.each e he).nd.2.1
 simp
 omega
end Tr
end Go.Proofs.YtbnpgakmhhfjkaaGreatDoor
namespace Go.Proofs.YtbnpgakmhhfjkaaGreatDoor
open Go.RowKit
namespace Tr
variable {t:T}
theorem look_dir {i j:Int} {q:List Bs} (h:lookF t i q=(j,0)) (hk:kindOf t j=2):kindOf t i=2:=by
 cases q with
 | nil =>
   have:i=j:=congrArg Prod.fst (show (i,0)=(j,0) from h)
   rw [this];exact hk
 | cons x q =>
   rw [lookF_cons] at h
   split at h
   ·cases h
   ·rename_i h1
    exact Decidable.byContradiction h1
theorem moved_mem {d0 d i:Int} {x0 x:Bs} {e:En} (h:e ∈ put (cut t d0 x0) d x i):∃ e0 ∈ t,e.nd=e0.nd∧∀ n ∈ e.names,(n=(x,i)∧e0.nd.id=d)∨(n ∈ e0.names∧¬ (e0.nd.id=d0∧n.1=x0)):=by
 obtain ⟨e1,he1,h1⟩:=upd_mem h
 obtain ⟨e0,he0,h2⟩:=upd_mem he1
 have h0:e1.nd=e0.nd∧∀ n ∈ e1.names,n ∈ e0.names∧¬ (e0.nd.id=d0∧n.1=x0):=by
  by_cases h3:e0.nd.id=d0
  ·rw [if_pos h3] at h2
   subst h2
   refine ⟨rfl,fun n hn=>?_⟩
   have h4:=List.mem_filter.1 hn
   refine ⟨h4.1,fun h5=>?_⟩
   have:=h4.2
   simp [h5.2] at this
  ·rw [if_neg h3] at h2
   subst h2
   exact ⟨rfl,fun n hn=>⟨hn,fun h5=>h3 h5.1⟩⟩
 refine ⟨e0,he0,?_⟩
 by_cases h3:e1.nd.id=d
 ·rw [if_pos h3] at h1
  subst h1
  refine ⟨h0.1,fun n hn=>?_⟩
  rcases ins_mem.1 hn with h4|h4
  ·exact .inl ⟨h4,by rw [← h0.1];exact h3⟩
  ·exact .inr (h0.2 n h4)
 ·rw [if_neg h3] at h1
  subst h1
  exact ⟨h0.1,fun n hn=>.inr (h0.2 n hn)⟩
open Classical in
theorem rename_good (h:Good t) (q r:List Bs):Good (rename t q r).2:=by
 unfold rename
 split
 ·exact h
 split
 ·exact h
 rename_i hfr
 split
 ·exact h
 rename_i hl0
 split
 ·exact h
 rename_i hq0
 split
 ·exact h
 rename_i hp0
 split
 ·exact h
 rename_i hwi
 split
 ·exact h
 split
 ·exact h
 rename_i hno
 split
 ·exact h
 rename_i h8
 have hl:(lookF t 0 q).2=0:=Decidable.byContradiction hl0
 have hp:(place t r).2.2=0:=Decidable.byContradiction hp0
 have hfo:=formed_ok (show formed r=0 from Decidable.byContradiction hfr)
 obtain ⟨i,hi⟩:∃ i,i=(lookF t 0 q).1:=⟨_,rfl⟩
 have hlk:lookF t 0 q=(i,0):=Prod.ext hi.symm hl
 obtain ⟨q1,x0,d0,en0,hqe,hlr0,hfd0,hkd0,hg0,hpl0⟩:=h.looked hlk hq0
 obtain ⟨r1,x,en,d,hre,hlr,hpl,hfd,hkd,hid⟩:=h.placed hp
 rw [hpl] at hno
 rw [← hi] at h8 hwi ⊢
 rw [hpl0,hpl]
 simp only at hno ⊢
 rw [kids_of hfd] at hno
 have hgn:get en.names x=none:=get_no hno
 obtain ⟨hm0,hid0⟩:=find_some hfd0
 obtain ⟨hi0,hsi⟩:=h.leads en0 hm0 _ (get_mem hg0)
 simp only at hi0 hsi
 have pre1:=h.cut hfd0 hg0
 have hf':∃ en',find (cut t d0 x0) d=some en'∧en'.nd.kind=2∧get en'.names x=none:=by
  unfold cut
  rw [find_upd (cut_id x0),hfd]
  refine ⟨_,rfl,?_,?_⟩
  ·dsimp only
   split <;> exact hkd
  ·dsimp only
   split
   ·show get (del en.names x0) x=none
    rw [get_del]
    split
    ·rfl
    ·exact hgn
   ·exact hgn
 obtain ⟨en',hf1,hk1,hg1⟩:=hf'
 have hxg:Pa.good x=true:=hfo.2 x (by rw [hre];simp)
 have hs1:(find (cut t d0 x0) i).isSome=true:=by unfold cut;rw [some_upd (cut_id x0)];exact hsi
 have pre2:=pre1.put hf1 hk1 hxg hg1 hi0 hs1
 have hkinds:∀ j,kindOf (put (cut t d0 x0) d x i) j=kindOf t j:=fun j=>by
  unfold put cut
  rw [kindOf_upd (put_id x i) (fun _=>rfl),kindOf_upd (cut_id x0) (fun _=>rfl)]
 obtain ⟨dep,hd0,hd⟩:=h.deep
 have hkd2:kindOf t d=2:=by rw [kindOf_of hfd];exact hkd
 obtain ⟨hd8,hdr⟩:=h.place_dep ⟨hd0,hd⟩ hre hlr hkd2 hfo.1
 have hrlen:r.length=r1.length+1:=by rw [hre,List.length_append];rfl
 have hnr:¬ Reach t i d:=by
  rintro ⟨q2,h1,h2⟩
  have h3:lookF t 0 (q++q2)=(d,0):=by rw [lookF_app,hlk,if_neg (by simp)];exact h1
  have h4:=h.one_path r1.length r1 (q++q2) d (Nat.le_refl _) hlr h3 h2
  refine hwi ⟨look_dir h1 h2,?_⟩
  unfold within
  rw [List.isPrefixOf_iff_prefix,hre,h4,List.append_assoc]
  exact List.prefix_append _ _
 have hn0:¬ Reach t i 0:=by
  rintro ⟨q2,h1,h2⟩
  rcases List.eq_nil_or_concat q2 with rfl|⟨q3,y,rfl⟩
  ·exact hi0 (congrArg Prod.fst (show (i,0)=((0:Int),0) from h1))
  ·rw [List.concat_eq_append] at h1
   obtain ⟨e,he,_,_,hm⟩:=h.look_back h1
   exact (h.leads e he _ hm).1 rfl
 obtain ⟨dep',hin,hout⟩:∃ dep':Int→Nat,(∀ j,Reach t i j→dep' j=dep j-dep i+dep d+1)∧(∀ j,¬ Reach t i j→dep' j=dep j):=⟨fun j=>if Reach t i j then dep j-dep i+dep d+1 else dep j,fun j h=>if_pos h,fun j h=>if_neg h⟩
 refine pre2.good (dep:=dep') ⟨by rw [hout 0 hn0];exact hd0,fun e he n hn=>?_⟩ fun e he hei=>?_
 ·obtain ⟨e0,he0,hnd,hnm⟩:=moved_mem he
  rw [hnd,hkinds]
  rcases hnm n hn with ⟨rfl,h1⟩|⟨h1,h2⟩
  ·rw [h1,hout d hnr]
   refine ⟨hd8,fun h3=>?_⟩
   rw [hin i ⟨[],rfl,h3⟩]
   omega
  ·obtain ⟨h3,h4⟩:=hd e0 he0 n h1
   by_cases hr:Reach t i e0.nd.id
   ·obtain ⟨q2,hq2,hk2⟩:=hr
    have hki:=look_dir hq2 hk2
    have h5:=h.look_dep ⟨hd0,hd⟩ q2 i hki (by rw [hq2]) (by rw [hq2];exact hk2)
    rw [hq2] at h5
    simp only at h5
    have h6:=h.look_on he0 hq2 (by rw [← kindOf_of (h.ris.find he0)];exact hk2) h1
    have h7:=look_high t 64 _ i n.2 h6 (by rw [List.length_append];show _+1≤_;omega)
    rw [List.length_append] at h7
    have h9:q2.length+1≤high t 64 i:=h7
    rw [hin e0.nd.id ⟨q2,hq2,hk2⟩]
    refine ⟨by omega,fun hkn=>?_⟩
    rw [hin n.2 (h.reach_on he0 ⟨q2,hq2,hk2⟩ h1 hkn)]
    have:=h4 hkn
    omega
   ·rw [hout _ hr]
    refine ⟨h3,fun hkn=>?_⟩
    rw [hout n.2 fun hrn=>?_]
    ·exact h4 hkn
    ·rcases h.reach_back he0 h1 hrn with h5|h5
     ·obtain ⟨h6,h7⟩:=h.one_name (by rw [← h5];exact hkn) he0 hm0 h1 (get_mem hg0) h5 rfl
      exact h2 ⟨by rw [h6];exact hid0,by rw [h7]⟩
     ·exact hr h5
 ·obtain ⟨e0,he0,hnd,_⟩:=moved_mem he
  rw [hnd] at hei ⊢
  have h1:count (put (cut t d0 x0) d x i) i=count (cut t d0 x0) i+1:=by
   rw [count_put pre1.rise hf1,if_pos rfl]
  have h2:count t i=count (cut t d0 x0) i+1:=by
   rw [count_cut h.ris hfd0 (h.each en0 hm0).rise hg0 i,if_pos rfl]
  refine ⟨?_,h.dirs e0 he0,h.shut e0 he0⟩
  have h3:=h.linked e0 he0
  rw [hei] at h3 ⊢
  rw [h1,← h2]
  exact h3
end Tr
end Go.Proofs.YtbnpgakmhhfjkaaGreatDoor
namespace Go.Proofs.YtbnpgakmhhfjkaaGreatDoor
open Go.RowKit
namespace Tr
variable {t:T}
structure Half (t:T):Prop where
 root:∃ r rest,t=r :: rest∧r.nd.id=0∧r.nd.kind=2
 rise:t.Pairwise fun a b=>a.nd.id<b.nd.id
 few:t.length≤64
 each:∀ e ∈ t,EnOk e
 leads:∀ e ∈ t,∀ n ∈ e.names,n.2≠0∧(find t n.2).isSome=true
 linked:∀ e ∈ t,(count t e.nd.id:Int)+(if e.nd.id=0 then 1 else 0)=e.nd.links
 dirs:∀ e ∈ t,e.nd.kind=2→e.nd.links=1
 shut:∀ e ∈ t,e.nd.shut=true→e.nd.links≠0
theorem Good.half (h:Good t):Half t:=⟨h.root,h.rise,h.few,h.each,h.leads,h.linked,h.dirs,h.shut⟩
theorem Half.ris (h:Half t):Ris t:=h.rise
theorem Half.zero (h:Half t):∃ r,find t 0=some r∧r.nd.kind=2∧r.nd.id=0:=by
 obtain ⟨r,rest,rfl,h1,h2⟩:=h.root
 exact ⟨r,by rw [find_cons,if_pos h1],h2,h1⟩
theorem Half.kind (h:Half t) {e:En} (he:e ∈ t):e.nd.kind=1∨e.nd.kind=2:=by
 have:=(h.each e he).nd
 exact this.2.2.2.2.2.2.2.imp id fun k=>k.1
theorem Half.has (h:Half t) {i:Int} (hk:kindOf t i=2):∃ e,find t i=some e:=by
 cases hf:find t i with
 | none=>rw [kindOf_no hf] at hk;omega
 | some e=>exact ⟨e,rfl⟩
theorem Half.rises (h:Half t) (i:Int):Rise (kids t i):=by
 cases hf:find t i with
 | none=>rw [kids_no hf];exact List.Pairwise.nil
 | some e=>rw [kids_of hf];exact (h.each e (find_some hf).1).rise
theorem Half.file_kids (h:Half t) {i:Int} (hk:kindOf t i≠2):kids t i=[]:=by
 cases hf:find t i with
 | none=>exact kids_no hf
 | some e =>
   rw [kids_of hf]
   rw [kindOf_of hf] at hk
   refine (h.each e (find_some hf).1).file ?_
   rcases h.kind (find_some hf).1 with h1|h1
   ·exact h1
   ·exact absurd h1 hk
theorem Half.flat_le (h:Half t):(flat t).length≤4194240:=by
 have h1:=countP_sum (fun x:Int × Nm=>x.2.2) (t.map fun e=>e.nd.id) (flat t) fun x hx=>by
  obtain ⟨e,he,_,h2⟩:=flat_mem.1 hx
  obtain ⟨_,h3⟩:=h.leads e he x.2 h2
  obtain ⟨e',h4,h5⟩:=find_isSome.1 h3
  exact List.mem_map.2 ⟨e',h4,h5⟩
 have h2:((t.map fun e=>e.nd.id).map fun i=>(flat t).countP fun x=>x.2.2==i).sum≤t.length*65535:=by
  have key:∀ u:T,(∀ e ∈ u,e ∈ t)→((u.map fun e=>e.nd.id).map fun i=>(flat t).countP fun x=>x.2.2==i).sum≤u.length*65535:=by
   intro u
   induction u with
   | nil=>intro _;simp
   | cons e u ih =>
     intro hu
     have h3:=ih fun m hm=>hu m (.tail _ hm)
     have he:=hu e (.head _)
     have h4:=h.linked e he
     have h5:=(h.each e he).nd.2.2.2.1
     unfold count at h4
     have h6:(flat t).countP (fun x=>x.2.2==e.nd.id)≤65535:=by
      split at h4 <;> omega
     simp only [List.map_cons,List.sum_cons,List.length_cons] at h3 ⊢
     omega
  exact key t fun e he=>he
 have:=h.few
 omega
theorem Half.names_le (h:Half t) {e:En} (he:e ∈ t):e.names.length≤4194240:=Nat.le_trans (names_le_flat he) h.flat_le
theorem Half.one_name (h:Half t) {j:Int} (hk:kindOf t j=2) {e e':En} (he:e ∈ t) (he':e' ∈ t) {n n':Nm} (hn:n ∈ e.names) (hn':n' ∈ e'.names) (h1:n.2=j) (h2:n'.2=j):e=e'∧n=n':=by
 have key:(e.nd.id,n)=(e'.nd.id,n'):=by
  refine Decidable.byContradiction fun hne=>?_
  have hc:2≤count t j:=count_two (flat_mem.2 ⟨e,he,rfl,hn⟩) (flat_mem.2 ⟨e',he',rfl,hn'⟩) hne (by simp [h1]) (by simp [h2])
  obtain ⟨ej,hej⟩:=h.has hk
  obtain ⟨hm,hid⟩:=find_some hej
  have h3:=h.linked ej hm
  have h4:=h.dirs ej hm (by rw [← kindOf_of hej];exact hk)
  have h5:=(h.leads e he n hn).1
  rw [hid,if_neg (by rw [← h1];exact h5),h4] at h3
  omega
 obtain ⟨h3,h4⟩:=Prod.mk.inj key
 refine ⟨?_,h4⟩
 have:=h.ris.find he
 rw [h3,h.ris.find he'] at this
 injection this with this
 exact this.symm
theorem Half.look_on (h:Half t) {i:Int} {q:List Bs} {e:En} (he:e ∈ t) (hl:lookF t i q=(e.nd.id,0)) (hk:e.nd.kind=2) {n:Nm} (hn:n ∈ e.names):lookF t i (q++[n.1])=(n.2,0):=by
 have hf:=h.ris.find he
 rw [lookF_app,hl,if_neg (by simp),lookF_cons,kindOf_of hf,if_neg (by simp [hk]),kids_of hf,get_of_mem (h.each e he).rise hn]
 rfl
theorem Half.look_back (h:Half t) {i j:Int} {q:List Bs} {x:Bs} (hl:lookF t i (q++[x])=(j,0)):∃ e ∈ t,lookF t i q=(e.nd.id,0)∧e.nd.kind=2∧(x,j) ∈ e.names:=by
 rw [lookF_app] at hl
 split at hl
 ·rename_i h2
  rw [hl] at h2
  exact absurd rfl h2
 ·rename_i h2
  have h3:(lookF t i q).2=0:=Decidable.byContradiction h2
  obtain ⟨d,hd⟩:∃ d,d=(lookF t i q).1:=⟨_,rfl⟩
  rw [← hd,lookF_cons] at hl
  split at hl
  ·cases hl
  ·rename_i h4
   have hk:kindOf t d=2:=Decidable.byContradiction h4
   obtain ⟨en,hen⟩:=h.has hk
   rw [kids_of hen] at hl
   cases hg:get en.names x with
   | none=>rw [hg] at hl;cases hl
   | some k =>
     rw [hg] at hl
     have hkj:k=j:=congrArg Prod.fst (show (k,0)=(j,0) from hl)
     refine ⟨en,(find_some hen).1,Prod.ext ?_ h3,by rw [← kindOf_of hen];exact hk,hkj ▸ get_mem hg⟩
     rw [(find_some hen).2,hd]
theorem Half.one_path (h:Half t):∀ (n:Nat) (a b:List Bs) (j:Int),a.length≤n→lookF t 0 a=(j,0)→lookF t 0 b=(j,0)→kindOf t j=2→a=b
 | n,a,b,j,hn,ha,hb,hk=>by
   have zero:∀ (q:List Bs) (x:Bs),lookF t 0 (q++[x])=(0,0)→False:=fun q x hq=>by
    obtain ⟨e,he,_,_,hm⟩:=h.look_back hq
    exact (h.leads e he _ hm).1 rfl
   rcases List.eq_nil_or_concat a with rfl|⟨a1,x,rfl⟩
   ·have hj:(0:Int)=j:=congrArg Prod.fst (show ((0:Int),0)=(j,0) from ha)
    subst hj
    rcases List.eq_nil_or_concat b with rfl|⟨b1,y,rfl⟩
    ·rfl
    ·rw [List.concat_eq_append] at hb
     exact (zero _ _ hb).elim
   ·rw [List.concat_eq_append] at ha hn ⊢
    rcases List.eq_nil_or_concat b with rfl|⟨b1,y,rfl⟩
    ·have hj:(0:Int)=j:=congrArg Prod.fst (show ((0:Int),0)=(j,0) from hb)
     subst hj
     exact (zero _ _ ha).elim
    ·rw [List.concat_eq_append] at hb ⊢
     obtain ⟨e,he,h1,h2,h3⟩:=h.look_back ha
     obtain ⟨e',he',h4,h5,h6⟩:=h.look_back hb
     obtain ⟨rfl,h7⟩:=h.one_name hk he he' h3 h6 rfl rfl
     obtain ⟨rfl,_⟩:=Prod.mk.inj h7
     rw [List.length_append] at hn
     have:a1.length<n:=Nat.lt_of_lt_of_le (Nat.lt_succ_self _) hn
     rw [h.one_path (n-1) a1 b1 e.nd.id (by omega) h1 h4 (by rw [kindOf_of (h.ris.find he)];exact h2)]
termination_by n=>n
decreasing_by omega
theorem Half.walk_mem (h:Half t):∀ (n:Nat) (i:Int) (p q:List Bs) (k:Int),(q,k) ∈ walk t n i p↔∃ r,q=p++r∧r≠[]∧r.length≤n∧lookF t i r=(k,0)
 | 0,i,p,q,k=>by
   constructor
   ·intro h1;cases h1
   ·rintro ⟨r,_,h1,h2,_⟩
    exact absurd (List.eq_nil_of_length_eq_zero (by omega)) h1
 | n+1,i,p,q,k=>by
   show (q,k) ∈ (kids t i).flatMap _↔_
   rw [List.mem_flatMap]
   constructor
   ·rintro ⟨⟨x,m⟩,hm,h1⟩
    obtain ⟨en,hen,hmem⟩:=kids_mem hm
    have hk2:kindOf t i=2:=Decidable.byContradiction fun hne=>by rw [h.file_kids hne] at hm;cases hm
    have hstep:∀ r,lookF t i (x :: r)=lookF t m r:=fun r=>by
     rw [lookF_cons,if_neg (by simp [hk2]),get_of_mem (h.rises i) hm]
    rcases List.mem_cons.1 h1 with h1|h1
    ·injection h1 with h2 h3
     subst h2 h3
     exact ⟨[x],rfl,by simp,by simp,by rw [hstep];rfl⟩
    ·obtain ⟨r,h2,h3,h4,h5⟩:=(h.walk_mem n m (p++[x]) q k).1 h1
     exact ⟨x :: r,by rw [h2];simp,by simp,by simp;omega,by rw [hstep];exact h5⟩
   ·rintro ⟨r,h2,h3,h4,h5⟩
    cases r with
    | nil=>exact absurd rfl h3
    | cons x r =>
      rw [lookF_cons] at h5
      split at h5
      ·cases h5
      ·cases hg:get (kids t i) x with
       | none=>rw [hg] at h5;cases h5
       | some m =>
         rw [hg] at h5
         replace h5:lookF t m r=(k,0):=h5
         refine ⟨(x,m),get_mem hg,?_⟩
         by_cases hr:r=[]
         ·subst hr
          have h6:(m,0)=(k,0):=h5
          injection h6 with h6
          subst h6 h2
          exact .head _
         ·refine .tail _ ((h.walk_mem n m (p++[x]) q k).2 ⟨r,by rw [h2];simp,hr,by simp at h4;omega,h5⟩)
theorem Half.walk_nodup (h:Half t):∀ (n:Nat) (i:Int) (p:List Bs),(walk t n i p).Pairwise fun a b=>a.1≠b.1
 | 0,_,_=>List.Pairwise.nil
 | n+1,i,p=>by
   show ((kids t i).flatMap _).Pairwise _
   have key:∀ l:List Nm,Rise l→(∀ m ∈ l,m ∈ kids t i)→(l.flatMap fun k=>(p++[k.1],k.2) :: walk t n k.2 (p++[k.1])).Pairwise fun a b=>a.1≠b.1:=by
    intro l
    induction l with
    | nil=>intro _ _;exact List.Pairwise.nil
    | cons m l ih =>
      intro hr hm
      obtain ⟨hr1,hr2⟩:=List.pairwise_cons.1 hr
      rw [List.flatMap_cons,List.pairwise_append]
      refine ⟨List.pairwise_cons.2 ⟨fun b hb=>?_,h.walk_nodup n m.2 _⟩,ih hr2 fun x hx=>hm x (.tail _ hx),fun a ha b hb=>?_⟩
      ·obtain ⟨r,h2,h3,_⟩:=(h.walk_mem n m.2 (p++[m.1]) b.1 b.2).1 hb
       show p++[m.1]≠b.1
       rw [h2]
       intro e
       have:=congrArg List.length e
       simp only [List.length_append] at this
       exact h3 (List.eq_nil_of_length_eq_zero (by omega))
      ·have ha1:∃ r,a.1=p++(m.1 :: r):=by
        rcases List.mem_cons.1 ha with ha|ha
        ·exact ⟨[],by rw [ha]⟩
        ·obtain ⟨r,h2,_⟩:=(h.walk_mem n m.2 (p++[m.1]) a.1 a.2).1 ha
         exact ⟨r,by rw [h2];simp⟩
       obtain ⟨m2,hm2,hb⟩:=List.mem_flatMap.1 hb
       have hb1:∃ r,b.1=p++(m2.1 :: r):=by
        rcases List.mem_cons.1 hb with hb|hb
        ·exact ⟨[],by rw [hb]⟩
        ·obtain ⟨r,h2,_⟩:=(h.walk_mem n m2.2 (p++[m2.1]) b.1 b.2).1 hb
         exact ⟨r,by rw [h2];simp⟩
       obtain ⟨ra,ha1⟩:=ha1
       obtain ⟨rb,hb1⟩:=hb1
       rw [ha1,hb1]
       intro e
       have:=List.append_cancel_left e
       injection this with this _
       have hl:=hr1 m2 hm2
       exact less_ne hl this
   exact key _ (h.rises i) fun m hm=>hm
theorem Half.ends_one (h:Half t) (a b:List Bs × Int) (x:Int × Nm) (ha:EndsIn t a x) (hb:EndsIn t b x):a=b:=by
 obtain ⟨r,h1,h2,h3,h4⟩:=ha
 obtain ⟨s,k1,k2,k3,_⟩:=hb
 have:=h.one_path _ r s x.1 (Nat.le_refl _) h2 k2 h4
 subst this
 exact Prod.ext (h1.trans k1.symm) (h3.trans k3.symm)
theorem Half.paths_nodup (h:Half t):(paths t).Nodup:=by
 have:=h.walk_nodup 64 0 []
 exact this.imp (S:=fun a b=>a≠b) fun {a b} (hne:a.1≠b.1) (e:a=b)=>hne (congrArg Prod.fst e)
end Tr
end Go.Proofs.YtbnpgakmhhfjkaaGreatDoor
namespace Go.Proofs.YtbnpgakmhhfjkaaGreatDoor
open Go.RowKit
namespace Tr
variable {t:T}
theorem all_in {α:Type} [DecidableEq α] {l m:List α} (hn:l.Nodup) (hs:∀ x ∈ l,x ∈ m) (hl:m.length≤l.length):∀ y ∈ m,y ∈ l:=fun y hy=>by
 by_cases h:y ∈ l
 ·exact h
 ·exfalso
  have h1:=inj_le (fun a b:α=>a=b) (fun x x' y h1 h2=>h1.trans h2.symm) l (m.erase y) hn fun x hx=>⟨x,(List.mem_erase_of_ne fun e=>h (by rw [← e];exact hx)).2 (hs x hx),rfl⟩
  rw [List.length_erase_of_mem hy] at h1
  have h2:0<m.length:=List.length_pos_of_mem hy
  omega
def dirCount (t:T):Nat:=t.countP fun e=>e.nd.kind==2
def found (t:T):Nat:=1+(paths t).countP fun q=>kindOf t q.2==2
def most (l:List (List Bs × Int)) (m:Nat):Nat:=l.foldl (fun k q=>max k q.1.length) m
theorem most_le:∀ (l:List (List Bs × Int)) (m:Nat),m≤most l m∧∀ q ∈ l,q.1.length≤most l m
 | [],m=>⟨Nat.le_refl _,fun _ h=>by cases h⟩
 | q :: l,m=>by
   obtain ⟨h1,h2⟩:=most_le l (max m q.1.length)
   refine ⟨Nat.le_trans (Nat.le_max_left _ _) h1,fun x hx=>?_⟩
   rcases List.mem_cons.1 hx with rfl|hx
   ·exact Nat.le_trans (Nat.le_max_right _ _) h1
   ·exact h2 x hx
theorem most_bound:∀ (l:List (List Bs × Int)) (m b:Nat),m≤b→(∀ q ∈ l,q.1.length≤b)→most l m≤b
 | [],_,_,h,_=>h
 | q :: l,m,b,h,hq=>most_bound l _ b (Nat.max_le.2 ⟨h,hq q (.head _)⟩) fun x hx=>hq x (.tail _ hx)
def dirIds (t:T):List Int:=(t.filter fun e=>e.nd.kind==2).map (·.nd.id)
def foundIds (t:T):List Int:=0 :: ((paths t).filter fun q=>kindOf t q.2==2).map (·.2)
theorem dirIds_length (t:T):(dirIds t).length=dirCount t:=by
 unfold dirIds dirCount
 rw [List.length_map,List.countP_eq_length_filter]
theorem foundIds_length (t:T):(foundIds t).length=found t:=by
 unfold foundIds found
 rw [List.length_cons,List.length_map,List.countP_eq_length_filter]
 omega
theorem Half.no_root (h:Half t) {q:List Bs} (hq:q≠[]) (hl:lookF t 0 q=(0,0)):False:=by
 rcases List.eq_nil_or_concat q with rfl|⟨r,x,rfl⟩
 ·exact hq rfl
 ·rw [List.concat_eq_append] at hl
  obtain ⟨e,he,_,_,h3⟩:=h.look_back hl
  exact (h.leads e he _ h3).1 rfl
theorem Half.foundIds_nodup (h:Half t):(foundIds t).Nodup:=by
 unfold foundIds
 rw [List.nodup_cons]
 have hp:∀ q ∈ paths t,q.1≠[]∧lookF t 0 q.1=(q.2,0):=fun q hq=>by
  obtain ⟨r,h1,h2,_,h4⟩:=(h.walk_mem 64 0 [] q.1 q.2).1 hq
  rw [List.nil_append] at h1
  rw [h1]
  exact ⟨h2,h4⟩
 constructor
 ·intro h0
  obtain ⟨q,hq,h1⟩:=List.mem_map.1 h0
  obtain ⟨h2,h3⟩:=hp q (List.mem_filter.1 hq).1
  rw [h1] at h3
  exact h.no_root h2 h3
 ·rw [List.Nodup,List.pairwise_map]
  have hw:=(h.walk_nodup 64 0 []).filter fun q=>kindOf t q.2==2
  refine List.Pairwise.imp_of_mem ?_ hw
  intro a b ha hb hne e
  obtain ⟨ha1,ha2⟩:=List.mem_filter.1 ha
  obtain ⟨hb1,hb2⟩:=List.mem_filter.1 hb
  have ka:kindOf t a.2=2:=by simpa using ha2
  have e1:=(hp a ha1).2
  have e2:=(hp b hb1).2
  rw [← e] at e2
  exact hne (h.one_path _ a.1 b.1 a.2 (Nat.le_refl _) e1 e2 ka)
theorem Half.dirIds_nodup (h:Half t):(dirIds t).Nodup:=by
 unfold dirIds
 rw [List.Nodup,List.pairwise_map]
 exact (List.Pairwise.filter _ h.rise).imp fun {a b} (hl:a.nd.id<b.nd.id)=>by omega
theorem Half.found_dirs (h:Half t):∀ x ∈ foundIds t,x ∈ dirIds t:=fun x hx=>by
 have key:kindOf t x=2→x ∈ dirIds t:=fun hk=>by
  obtain ⟨e,he⟩:=h.has hk
  obtain ⟨h1,h2⟩:=find_some he
  rw [kindOf_of he] at hk
  exact List.mem_map.2 ⟨e,List.mem_filter.2 ⟨h1,by simp [hk]⟩,h2⟩
 unfold foundIds at hx
 rcases List.mem_cons.1 hx with rfl|hx
 ·obtain ⟨r,h1,h2,_⟩:=h.zero
  exact key (by rw [kindOf_of h1,h2])
 ·obtain ⟨q,hq,rfl⟩:=List.mem_map.1 hx
  exact key (by simpa using (List.mem_filter.1 hq).2)
open Classical in
theorem Half.good (h:Half t) (hf:found t=dirCount t) (h8:most (paths t) 0≤8):Good t:=by
 have hall:=all_in h.foundIds_nodup h.found_dirs (by rw [dirIds_length,foundIds_length];omega)
 have hlen:∀ q ∈ paths t,q.1.length≤8:=fun q hq=>Nat.le_trans ((most_le (paths t) 0).2 q hq) h8
 have hpath:∀ e ∈ t,e.nd.kind=2→∃ q,lookF t 0 q=(e.nd.id,0)∧q.length≤8:=fun e he hk=>by
  have h1:=hall e.nd.id (List.mem_map.2 ⟨e,List.mem_filter.2 ⟨he,by simp [hk]⟩,rfl⟩)
  unfold foundIds at h1
  rcases List.mem_cons.1 h1 with h1|h1
  ·exact ⟨[],by rw [h1];rfl,Nat.zero_le _⟩
  ·obtain ⟨q,hq,h2⟩:=List.mem_map.1 h1
   have hq1:=(List.mem_filter.1 hq).1
   obtain ⟨r,h3,_,_,h4⟩:=(h.walk_mem 64 0 [] q.1 q.2).1 hq1
   rw [List.nil_append] at h3
   refine ⟨q.1,?_,hlen q hq1⟩
   rw [h3,h4,h2]
 obtain ⟨dep,hdep⟩:∃ dep:Int→Nat,∀ q d,lookF t 0 q=(d,0)→kindOf t d=2→dep d=q.length:=by
  refine ⟨fun d=>if hx:∃ q,lookF t 0 q=(d,0) then hx.choose.length else 0,fun q d hq hk=>?_⟩
  have hx:∃ q,lookF t 0 q=(d,0):=⟨q,hq⟩
  simp only [dif_pos hx]
  exact congrArg List.length (h.one_path _ _ q d (Nat.le_refl _) hx.choose_spec hq hk)
 refine ⟨h.root,h.rise,h.few,h.each,h.leads,h.linked,h.dirs,h.shut,dep,?_,fun e he n hn=>?_⟩
 ·obtain ⟨r,h1,h2,_⟩:=h.zero
  exact hdep [] 0 rfl (by rw [kindOf_of h1,h2])
 ·have hk:e.nd.kind=2:=by
   rcases h.kind he with h5|h5
   ·rw [(h.each e he).file h5] at hn;cases hn
   ·exact h5
  obtain ⟨q,hq,hq8⟩:=hpath e he hk
  have hke:kindOf t e.nd.id=2:=by rw [kindOf_of (h.ris.find he)];exact hk
  have hon:=h.look_on he hq hk hn
  have hin:(q++[n.1],n.2) ∈ paths t:=(h.walk_mem 64 0 [] _ _).2 ⟨q++[n.1],rfl,by simp,by simp;omega,hon⟩
  have hl:=hlen _ hin
  rw [List.length_append] at hl
  rw [hdep q _ hq hke]
  refine ⟨hl,fun hkn=>?_⟩
  rw [hdep _ _ hon hkn,List.length_append]
  rfl
theorem Good.joined (h:Good t):found t=dirCount t∧most (paths t) 0≤8:=by
 refine ⟨?_,most_bound _ _ _ (Nat.zero_le _) fun q hq=>?_⟩
 ·have h1:=inj_le (fun a b:Int=>a=b) (fun x x' y h1 h2=>h1.trans h2.symm) (foundIds t) (dirIds t) h.half.foundIds_nodup fun x hx=>⟨x,h.half.found_dirs x hx,rfl⟩
  have h2:=inj_le (fun a b:Int=>a=b) (fun x x' y h1 h2=>h1.trans h2.symm) (dirIds t) (foundIds t) h.half.dirIds_nodup fun x hx=>⟨x,?_,rfl⟩
  ·rw [dirIds_length,foundIds_length] at h1 h2
   omega
  ·obtain ⟨e,he,rfl⟩:=List.mem_map.1 hx
   obtain ⟨he1,he2⟩:=List.mem_filter.1 he
   have hk:e.nd.kind=2:=by simpa using he2
   unfold foundIds
   by_cases h0:e.nd.id=0
   ·rw [h0];exact .head _
   ·refine .tail _ ?_
    obtain ⟨q,hq⟩:=h.path_of he1 hk
    have hne:q≠[]:=by
     rintro rfl
     injection (show ((0:Int),0)=(e.nd.id,0) from hq) with h1
     exact h0 h1.symm
    exact List.mem_map.2 ⟨(q,e.nd.id),List.mem_filter.2 ⟨(h.paths_mem q e.nd.id).2 ⟨hne,hq⟩,by simp [kindOf_of (h.ris.find he1),hk]⟩,rfl⟩
 ·exact h.path_le ((h.paths_mem q.1 q.2).1 hq).2
end Tr
end Go.Proofs.YtbnpgakmhhfjkaaGreatDoor
namespace Go.Proofs.YtbnpgakmhhfjkaaGreatDoor
open Go.RowKit Rc
open Tr (Nm En T)
namespace Tm
def SOwn (w:World) (v:Value) (l:List Bs):Prop:=w.ownsRow 0 9 1 v l.length (txtCells l)
theorem SOwn.nil (w:World):SOwn w (.slice none 0 0) []:=⟨rfl,.inl ⟨rfl,rfl⟩⟩
theorem SOwn.keep {w w':World} {v:Value} {l:List Bs} (h:SOwn w v l) (hb:∀ b,v.ownBlock=some b→w'.heap[b]?=w.heap[b]?):SOwn w' v l:=own_keep h hb
theorem SOwn.lt {w:World} {v:Value} {l:List Bs} (h:SOwn w v l) {b:Nat} (hb:v.ownBlock=some b):b<w.heap.size:=(own_blk h hb).2.1
theorem SOwn.form {w:World} {v:Value} {l:List Bs} (h:SOwn w v l):∃ A c,v=.slice A l.length c∧l.length≤c∧RdS w A l∧∀ b,0<l.length→A.map (·.block)=some b→v.ownBlock=some b:=by
 obtain ⟨A,c,h1,h2,h3⟩:=own_form h
 refine ⟨A,c,h1,h2,fun hl=>?_,fun b hl hb=>?_⟩
 ·obtain ⟨g,h4,h5,h6,h7,h8⟩:=h3 hl
  exact ⟨g,0,h4,h7,fun j x hx=>by rw [Nat.zero_add];exact h8 j _ (by simp [txtCells,hx])⟩
 ·obtain ⟨g,h4,h5,h6,h7,h8⟩:=h3 hl
  rw [h4] at hb
  simp only [Option.map_some,Option.some.injEq] at hb
  rw [h5,hb]
theorem txt_take (l:List Bs) (x:Bs) {c:List Value} (h:c.take ((l++[x]).length*1)=txtCells (l++[x])):c.take (l.length*1)=txtCells l:=by
 have h1:(c.take ((l++[x]).length*1)).take (l.length*1)=c.take (l.length*1):=by
  rw [List.take_take]
  congr 1
  rw [List.length_append]
  omega
 rw [← h1,h,txtCells_append,Nat.mul_one]
 have:l.length=(txtCells l).length:=(txtCells_length l).symm
 rw [this]
 exact List.take_left
theorem run_append_kept (w:World) (v:Value) (a:List Bs) (hown:SOwn w v a) (A:Option Addr) (x:Bs) (c:Nat) (hr:RdS w A [x]) (hn:a.length≤1000000) (ty:TypeId) :
    ∃ v' w',(Builtin.append_ #[29,29] ty #[v,.slice A 1 c]).run Tryz.prog w=.ok v' w'∧SOwn w' v' (a++[x])∧w.grownBy w' v.ownBlock∧(v'.ownBlock=v.ownBlock∨v'.ownBlock=some w.heap.size) ∧
    ∀ W,SOwn W v' (a++[x])→(∀ b,v.ownBlock=some b→v'.ownBlock≠some b→W.heap[b]?=w'.heap[b]?)→SOwn W v a:=by
 obtain ⟨i,hi,hz,hsize,hby⟩:=info_parts Tryz.infoStr
 obtain ⟨b0,off,rfl,hb0,hcell⟩:=hr (by simp)
 have hnews:∀ j u,([.string (strOf x)]:List Value)[j]?=some u→w.cell? ((⟨b0,off,none⟩:Addr).add j)=some u:=by
  intro j u hu
  have hj:j=0:=by
   have:=(List.getElem?_eq_some_iff.1 hu).1
   simpa using this
  subst hj
  obtain rfl:Value.string (strOf x)=u:=by simpa using hu
  rw [add_plain]
  exact hcell 0 x rfl
 have h1c:∀ u ∈ ([.string (strOf x)]:List Value),u.oneCell'=true:=fun u hu=>by
  obtain rfl:=List.mem_singleton.1 hu
  rfl
 obtain ⟨v',w',h1,h2,h3,_,h5⟩:=run_append_own_at (P:=Tryz.prog) w 0 29 ty 9 i (.string .empty) 1 16 Tryz.underlying29 hi hz hsize hby rfl (by decide) v a.length (txtCells a) hown ⟨b0,off,none⟩ 1 c [.string (strOf x)] rfl hnews h1c (by unfold maxLen;omega) (by omega) (Nat.zero_le _)
 have hown2:SOwn w' v' (a++[x]):=by
  unfold SOwn
  rw [List.length_append,txtCells_append]
  exact h2
 refine ⟨v',w',h1,hown2,h3,h5,fun W hW hb=>?_⟩
 rcases hown.2 with ⟨rfl,h0⟩|⟨g,cap,cur,rfl,hbg,hg,hnc,hcm,hcs,htake⟩
 ·exact ⟨hown.1,.inl ⟨rfl,h0⟩⟩
 ·have hgl:g<w.heap.size:=(Array.getElem?_eq_some_iff.1 hg).1
  by_cases hroom:a.length+1≤cap
  ·have hr2:=run_append_room (P:=Tryz.prog) w 29 ty 9 i Tryz.underlying29 hi g a.length cap cur hg ⟨b0,off,none⟩ 1 c [.string (strOf x)] (by rw [hsize];rfl) hnews h1c hroom (by rw [hsize,hcs];simp;omega)
   rw [h1] at hr2
   injection hr2 with e1 e2
   subst e1
   rcases hW.2 with ⟨hcon,_⟩|⟨g',cap',cur',e,hbg',hg',hnc',hcm',hcs',htake'⟩
   ·cases hcon
   ·injection e with e3 e4 e5
    injection e3 with e3
    injection e3 with e3
    subst e3 e5
    exact ⟨hown.1,.inr ⟨g,cap,cur',rfl,hbg,hg',hnc,hcm,hcs',txt_take a x htake'⟩⟩
  ·have holds:∀ j u,(txtCells a)[j]?=some u→w.cell? ((⟨g,0,none⟩:Addr).add j)=some u:=World.ownsRow.cells (g:=g) hown rfl
   have hr2:=run_append_grow (P:=Tryz.prog) w 29 ty 9 i (.string .empty) Tryz.underlying29 hi hz ⟨g,0,none⟩ a.length cap (txtCells a) (by rw [hsize];exact hown.1) holds ⟨b0,off,none⟩ 1 c [.string (strOf x)] (by rw [hsize];rfl) hnews (by omega) (by omega) (growslice_fits (by omega) (by rw [hby];omega))
   rw [h1] at hr2
   injection hr2 with e1 e2
   have h9:v'.ownBlock≠some g:=by
    rw [e1]
    simp only [Value.ownBlock,ne_eq,Option.some.injEq]
    omega
   refine SOwn.keep hown fun b hb2=>?_
   simp only [Value.ownBlock,Option.some.injEq] at hb2
   subst hb2
   rw [hb _ rfl h9,e2]
   exact (below_new w.drew _).block _ hgl
end Tm
end Go.Proofs.YtbnpgakmhhfjkaaGreatDoor
