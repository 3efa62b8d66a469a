/-
  OWN WORK. TsSave, TsPure, TsRightP
-/
import Derived.Test.YtjoedamiilgajaaGreatQ04
import Derived.Test.YtjoedamiilgajaaGreatQ17
import Derived.Test.YtjoedamiilgajaaGreatQCpWCode
import Derived.Lib.ConvBytes
import Derived.Test.YtjoedamiilgajaaGreatQ14
import Derived.Test.YtjoedamiilgajaaGreatQTsLinked
import Derived.Test.YtjoedamiilgajaaGreatQ02
namespace Go.Proofs.YtjoedamiilgajaaGreat
open Go.RowKit Rc
open Tr (Nm En T)
namespace Tr
theorem wBytes_length (x:Bs):(Co.wBytes x).length≤65537:=by
 unfold Co.wBytes Co.wS
 simp only [List.length_append,List.length_cons,List.length_nil,List.length_take]
 omega
theorem nameBytes_length (n:Nm):(nameBytes n).length≤65539:=by
 have:=wBytes_length n.1
 unfold nameBytes
 rw [List.length_append]
 unfold Co.wS
 simp only [List.length_cons,List.length_nil]
 omega
theorem names_bytes:∀ l:List Nm,(l.flatMap nameBytes).length≤l.length*65539
 | []=>Nat.zero_le _
 | n :: l=>by
   have h1:=names_bytes l
   have h2:=nameBytes_length n
   rw [List.flatMap_cons,List.length_append,List.length_cons]
   omega
theorem enBytes_length (e:En):(enBytes e).length≤140000+e.names.length*65539:=by
 have h1:=wBytes_length e.nd.bytes
 have h2:=wBytes_length e.data
 have h3:=names_bytes e.names
 unfold enBytes
 simp only [List.length_append]
 have:(Co.wS e.names.length).length=2:=rfl
 omega
theorem ens_length:∀ t:T,(t.flatMap enBytes).length≤t.length*140000+(flat t).length*65539
 | []=>Nat.zero_le _
 | e :: t=>by
   have h1:=ens_length t
   have h2:=enBytes_length e
   have h3:(flat (e :: t)).length=e.names.length+(flat t).length:=by simp [flat]
   rw [List.flatMap_cons,List.length_append,List.length_cons,h3]
   omega
theorem flat_take (t:T) (j:Nat):(flat (t.take j)).length≤(flat t).length:=by
 conv=>rhs;rw [← List.take_append_drop j t]
 unfold flat
 rw [List.flatMap_append,List.length_append]
 omega
theorem take_bytes {t:T} {j:Nat} {e:En} (he:t[j]?=some e):(t.take (j+1)).flatMap enBytes=(t.take j).flatMap enBytes++enBytes e:=by
 obtain ⟨h,rfl⟩:=List.getElem?_eq_some_iff.1 he
 rw [List.take_succ_eq_append_getElem h,List.flatMap_append,List.flatMap_cons,List.flatMap_nil,List.append_nil]
theorem take_names {l:List Nm} {j:Nat} {n:Nm} (he:l[j]?=some n):(l.take (j+1)).flatMap nameBytes=(l.take j).flatMap nameBytes++Co.wBytes n.1++Co.wS (Nd.lo16 n.2):=by
 obtain ⟨h,rfl⟩:=List.getElem?_eq_some_iff.1 he
 rw [List.take_succ_eq_append_getElem h,List.flatMap_append,List.flatMap_cons,List.flatMap_nil,List.append_nil,List.append_assoc]
 rfl
theorem Good.save_few {t:T} (h:Good t) (j:Nat) {e:En} (he:e ∈ t) (k:Nat):(Co.wS t.length++(t.take j).flatMap enBytes++Co.wBytes e.nd.bytes++Co.wBytes e.data++Co.wS e.names.length++(e.names.take k).flatMap nameBytes).length≤1099511400000:=by
 have h1:=ens_length (t.take j)
 have h2:=flat_take t j
 have h3:=h.flat_le
 have h4:=h.few
 have h5:(t.take j).length≤t.length:=by rw [List.length_take];omega
 have h6:=wBytes_length e.nd.bytes
 have h7:=wBytes_length e.data
 have h8:=names_bytes (e.names.take k)
 have h9:(e.names.take k).length≤e.names.length:=by rw [List.length_take];omega
 have h10:=h.names_le he
 have h11:(Co.wS t.length).length=2:=rfl
 have h12:(Co.wS e.names.length).length=2:=rfl
 simp only [List.length_append]
 omega
end Tr
namespace Tm
variable {p:Nat} {av:Value} {gs:List Nat} {S:Nat→Prop} {t:T} {w:World}
theorem strOf_size (l:Bs):(strOf l).size=l.length:=rfl
theorem conv_any (x:Bs) (w:World):∃ (c:Nat) (w':World),(convert 9 39 (.string (strOf x))).run Tryz.prog w=.ok (.slice (some ⟨w.heap.size,0,none⟩) x.length c) w'∧x.length≤c∧Rd w' (some ⟨w.heap.size,0,none⟩) x∧Below w.heap.size w w':=by
 have h:=Lib.run_convert_string_bytes w 9 39 5 (strOf x) Tryz.underlying9 Tryz.underlying39 Tryz.underlying5
 rw [strOf_size] at h
 refine ⟨_,_,h,by rw [← strOf_size x];exact grownCap_ge _ _ _ _,fun hl=>⟨w.heap.size,0,rfl,by rw [Lib.bytesWorld_size];omega,fun j y hj=>?_⟩,?_⟩
 ·obtain ⟨hj1,rfl⟩:=List.getElem?_eq_some_iff.1 hj
  rw [Nat.zero_add,Lib.bytesWorld_cell w _ (strOf x) j hj1]
  simp [strOf,List.getD,hj]
 ·exact ⟨rfl,rfl,rfl,by rw [Lib.bytesWorld_size];omega,fun b hb=>Lib.bytesWorld_at_old w _ _ b hb⟩
theorem conv_any2 (x:Bs) (w:World):∃ (c:Nat) (w':World),(convert 9 39 (.string (strOf x))).run Tryz.prog w=.ok (.slice (some ⟨w.heap.size,0,none⟩) x.length c) w'∧x.length≤c∧Rd w' (some ⟨w.heap.size,0,none⟩) x∧Below w.heap.size w w'∧w.heap.size<w'.heap.size:=by
 have h:=Lib.run_convert_string_bytes w 9 39 5 (strOf x) Tryz.underlying9 Tryz.underlying39 Tryz.underlying5
 obtain ⟨c,w',h1,h2,h3,h4⟩:=conv_any x w
 have h5:=h.symm.trans h1
 injection h5 with _ h5
 exact ⟨c,w',h1,h2,h3,h4,by rw [← h5,Lib.bytesWorld_size];omega⟩
def SvAns (b:Bs) (w:World) (e:Ending) (w':World):Prop:=∃ X c,e=.returned (.slice X b.length c)∧b.length≤c∧Rd w' X b∧w'.ownsRow w.heap.size 5 1 (.slice X b.length c) b.length (Lib.byteCells b)∧Below w.heap.size w w'
theorem bytes3 {C:WSaid} {v:Value} {w0 w w2:World} {l:Bs} (h:WAt C v w0 l w) (hl:l.length≤1099511500000) (hb2:Below w.heap.size w w2) (A:Option Addr) (x:Bs) (c:Nat) (hr:Rd w2 A x) (hA:∀ b,A.map (·.block)=some b→w.heap.size≤b) (hc:x.length≤c) (hx:x.length≤1000000) :
    Calls Tryz.prog 76 #[v,.slice A x.length c] w2 fun e w'=>(∃ x,e=.returned x)∧Hid (WAt C v w0 (l++Co.wBytes x) w')∧Hid (∀ b,w.heap.size≤b→b<w2.heap.size→w'.heap[b]?=w2.heap[b]?):=by
 obtain ⟨S,hat,hb,hS⟩:=h
 refine (C.bytes (C.keep hat hb2.size (fun b hB=>hb2.block b (C.lt hat b hB))) hl A x c hr hc hx fun h0 b hA2 hB=>?_).mono fun e w' h=>?_
 ·have:=hA b hA2
  have:=C.lt hat b hB
  omega
 ·obtain ⟨k1,k2⟩:=WAt.out (v:=v) (C:=C) (hb.trans (hb2.mono hb.size)) hS h
  obtain ⟨_,S',_,hm,_⟩:=h
  exact ⟨k1,k2,fun b h1 h2=>hm.block b h2 fun h3=>by have:=C.lt hat b h3;omega⟩
theorem wat_eq {C:WSaid} {v:Value} {w0 w:World} {l l':Bs} (h:WAt C v w0 l w) (e:l=l'):WAt C v w0 l' w:=e ▸ h
set_option maxHeartbeats 4000000 in
set_option maxRecDepth 100000 in
theorem save_any (h:TIn p av gs S t w) (hG:Tr.Good t):Calls Tryz.prog 28 #[.pointer (some ⟨p,0,none⟩)] w (SvAns (Tr.save t) w):=by
 have H:=Lib.hid h
 have HG:=Lib.hid hG
 have hgl:=h.each.len
 obtain ⟨A,c,rfl,hc,hA⟩:=oF h.row
 have HA:=Lib.hid hA
 obtain ⟨n,hn⟩:∃ n,n=gs.length:=⟨_,rfl⟩
 have HGN:Hid (n=gs.length):=hn
 have HN:Hid (n=t.length):=hn.trans hgl
 have hn64:n≤64:=by have:=hG.few;have:=HN.out;omega
 have HEN:Hid (∀ (e:En),e ∈ t→∀ j k,(Co.wS n++(t.take j).flatMap Tr.enBytes++Co.wBytes e.nd.bytes++Co.wBytes e.data++Co.wS e.names.length++(e.names.take k).flatMap Tr.nameBytes).length≤1099511400000):=fun e he j k=>by rw [HN.out];exact hG.save_few j he k
 have HBX:∀ W,Below w.heap.size w W→W.cell? ⟨p,0,none⟩=some (.slice A n c):=fun W hW=>by rw [HGN.out];exact (H.out.below hW).box.cell 0
 have HBX:=Lib.hid HBX
 clear h hG hA hgl hn
 go_enter Tryz.func28,Tryz.ntmps28
 go_wp2_with fail
 refine (WAt.new wsaid w).mono ?_
 rintro e w1 ⟨a,rfl,HW1⟩
 have c0:w1.cell? ⟨p,0,none⟩=some (.slice A n c):=HBX.out _ (WAt.low HW1.out)
 go_wp2_with fail
 refine (WAt.short HW1.out (by simp) n (by omega)).mono ?_
 rintro e w2 ⟨⟨x2,rfl⟩,HW2⟩
 clear c0
 have c0:w2.cell? ⟨p,0,none⟩=some (.slice A n c):=HBX.out _ (WAt.low HW2.out)
 have HST:Hid (WAt wsaid (.pointer (some a)) w (Co.wS n++(t.take 0).flatMap Tr.enBytes) w2):=wat_eq HW2.out (by simp)
 clear HW1 HW2
 go_wp2_with fail
 go_loopw [23] (fun t23 wr=>∃ j:Nat,t23=.int .i64 j∧j≤n∧Hid (WAt wsaid (.pointer (some a)) w (Co.wS n++(t.take j).flatMap Tr.enBytes) wr)) (fun t23 _=>n-(match t23 with|.int _ k=>k.toNat|_=>0))
 case atStart=>exact ⟨0,rfl,Nat.zero_le _,HST⟩
 case round =>
  clear HST c0
  obtain ⟨j,rfl,hj,HW⟩:=hrel
  by_cases hk:j<n
  ·obtain ⟨e,he⟩:∃ e,t[j]?=some e:=⟨_,List.getElem?_eq_getElem (by rw [← HN.out];exact hk)⟩
   have hem:e ∈ t:=List.mem_of_getElem? he
   obtain ⟨g,S1,hg,hE,_⟩:=(H.out.below (WAt.low HW.out)).each.get he
   obtain ⟨g0,_,hg0,hE0,_⟩:=H.out.each.get he
   obtain rfl:g=g0:=by rw [hg] at hg0;injection hg0
   obtain ⟨q,rfl,_,_,hql,hcell⟩:=HA.out (by rw [← HGN.out];omega)
   have c1:wr.cell? ⟨q,j,none⟩=some (.pointer (some ⟨g,0,none⟩)):=((WAt.low HW.out).cell (p:=⟨q,j,none⟩) hql).trans (hcell j _ (by simp [ptrCells,hg]))
   have hlt2:(j:Int)<(n:Int):=by omega
   have HR:Hid (e.nd.Right):=(HG.out.each e hem).nd
   have HLEN:=Lib.hid (HEN.out e hem j)
   have HNX:Hid ((t.take (j+1)).flatMap Tr.enBytes=(t.take j).flatMap Tr.enBytes++Tr.enBytes e):=Tr.take_bytes he
   have HEB:Hid (Tr.enBytes e=Co.wBytes e.nd.bytes++(Co.wBytes e.data++(Co.wS e.names.length++e.names.flatMap Tr.nameBytes))):=rfl
   have hdl:e.data.length≤4096:=by
    have h1:=(HG.out.each e hem).size
    have h2:=(HG.out.each e hem).nd.2.2.2.2.2.1
    omega
   have hnl:e.names.length≤4194240:=HG.out.names_le hem
   have HID:Hid (∀ m ∈ e.names,∃ k:Nat,m.2=k∧k≤65535∧m.1.length≤16):=fun m hm=>by
    obtain ⟨_,h1⟩:=HG.out.leads e hem m hm
    obtain ⟨e2,h2,h3⟩:=Tr.find_isSome.1 h1
    have h4:=(HG.out.each e2 h2).nd
    have h5:=(HG.out.each e hem).good m hm
    refine ⟨m.2.toNat,?_,?_,?_⟩
    ·have:=h4.1;omega
    ·have:=h4.1;have:=h4.2.1;omega
    ·simp only [Pa.good,Bool.and_eq_true,decide_eq_true_eq] at h5
     omega
   obtain ⟨dv,nv,hE0,rfl⟩:=hE0
   obtain ⟨dv2,nv2,hE,rfl⟩:=hE
   have hsame:dv2=dv∧nv2=nv:=by
    have k1:=((WAt.low HW.out).cell (p:=⟨g,6,none⟩) hE0.box.lt).trans (hE0.box.cell 6)
    have k2:=((WAt.low HW.out).cell (p:=⟨g,7,none⟩) hE0.box.lt).trans (hE0.box.cell 7)
    have k3:=hE.box.cell 6
    have k4:=hE.box.cell 7
    rw [k1] at k3
    rw [k2] at k4
    injection k3 with k3
    injection k4 with k4
    exact ⟨k3.symm,k4.symm⟩
   obtain ⟨rfl,rfl⟩:=hsame
   clear hE
   obtain ⟨XD,cd,hdv,hcd,hrd⟩:=Go.Proofs.YtjoedamiilgajaaGreat.oF hE0.data
   obtain ⟨XN,cn,hnv,hcn,hNA⟩:=hE0.names.form
   subst hdv hnv
   have HD:=Lib.hid hrd
   have HNA:=Lib.hid hNA
   have HEB0:=Lib.hid hE0.box
   have HCD:=Lib.hid hcd
   clear he hem hg hg0 hcell hE0 hrd hNA hcd hcn
   obtain ⟨⟨id,kind,links,size,till,shut⟩,data,names⟩:=e
   dsimp only at HR HLEN HNX HEB hdl hnl HID HD HNA HCD HEB0
   have hcells:=HEB0.out.below (WAt.low HW.out) HEB0.out.lt
   have d0:wr.cell? ⟨g,0,none⟩=some (.int .i64 id):=hcells.cell 0
   have d1:wr.cell? ⟨g,1,none⟩=some (.int .i64 kind):=hcells.cell 1
   have d2:wr.cell? ⟨g,2,none⟩=some (.int .i64 links):=hcells.cell 2
   have d3:wr.cell? ⟨g,3,none⟩=some (.int .i64 size):=hcells.cell 3
   have d4:wr.cell? ⟨g,4,none⟩=some (.int .u64 (till:Nat)):=hcells.cell 4
   have d5:wr.cell? ⟨g,5,none⟩=some (.bool shut):=hcells.cell 5
   clear hcells
   go_wp2_with fail
   refine (enc_yes_as wsaid wr HR.out).mono ?_
   rintro e w3 ⟨X3,k3,rfl,hk3,HO3,HR3,HB3⟩
   clear d0 d1 d2 d3 d4 d5 c1
   have h16:(Nd.bytes ⟨id,kind,links,size,till,shut⟩).length=16:=Nd.bytes_length _
   have HP0:Hid ((Co.wS n++(t.take j).flatMap Tr.enBytes++Co.wBytes (Nd.bytes ⟨id,kind,links,size,till,shut⟩)++Co.wBytes data++Co.wS names.length++(names.take 0).flatMap Tr.nameBytes).length≤1099511400000):=HLEN.out 0
   have HC4:Hid (Calls Tryz.prog 76 #[.pointer (some a),.slice X3 16 k3] w3 (WRet wsaid (.pointer (some a)) w (Co.wS n++(t.take j).flatMap Tr.enBytes++Co.wBytes (Nd.bytes ⟨id,kind,links,size,till,shut⟩)))):=by
    have:=WAt.bytes2 HW.out (by have:=HP0.out;simp only [List.length_append] at this ⊢;omega) HB3.out X3 (Nd.bytes ⟨id,kind,links,size,till,shut⟩) k3 HR3.out (fun b hb=>by
     have h1:=HO3.out
     rcases h1.2 with ⟨e1,e2⟩|⟨g9,cap,cur,e1,h2,_⟩
     ·injection e1 with e1;subst e1;cases hb
     ·injection e1 with e1;subst e1;injection hb with hb;have hb:g9=b:=hb;omega) (by rw [h16];exact hk3) (by rw [h16];omega)
    rw [h16] at this
    exact this
   clear hk3 HO3 HR3 h16
   go_wp2_with fail
   refine HC4.out.mono ?_
   rintro e w4 ⟨⟨x4,rfl⟩,HW4⟩
   clear HC4 HB3
   have d6:w4.cell? ⟨g,6,none⟩=some (.slice XD data.length cd):=(HEB0.out.below (WAt.low HW4.out) HEB0.out.lt).cell 6
   go_wp2_with fail
   refine (WAt.bytes HW4.out (by have:=HP0.out;simp only [List.length_append] at this ⊢;omega) XD data cd HD.out HCD.out (by omega)).mono ?_
   rintro e w5 ⟨⟨x5,rfl⟩,HW5⟩
   clear HW4 d6
   have d7:w5.cell? ⟨g,7,none⟩=some (.slice XN names.length cn):=(HEB0.out.below (WAt.low HW5.out) HEB0.out.lt).cell 7
   go_wp2_with fail
   refine (WAt.short HW5.out (by have:=HP0.out;simp only [List.length_append] at this ⊢;omega) names.length (by omega)).mono ?_
   rintro e w6 ⟨⟨x6,rfl⟩,HW6⟩
   clear HW5 d7
   have d7:w6.cell? ⟨g,7,none⟩=some (.slice XN names.length cn):=(HEB0.out.below (WAt.low HW6.out) HEB0.out.lt).cell 7
   have HST:Hid (WAt wsaid (.pointer (some a)) w (Co.wS n++(t.take j).flatMap Tr.enBytes++Co.wBytes (Nd.bytes ⟨id,kind,links,size,till,shut⟩)++Co.wBytes data++Co.wS names.length++(names.take 0).flatMap Tr.nameBytes) w6):=wat_eq HW6.out (by simp)
   clear HW6 HP0 HW
   go_wp2_with fail
   clear d7
   go_loopw [56] (fun t56 wr=>∃ i:Nat,t56=.int .i64 i∧i≤names.length∧Hid (WAt wsaid (.pointer (some a)) w (Co.wS n++(t.take j).flatMap Tr.enBytes++Co.wBytes (Nd.bytes ⟨id,kind,links,size,till,shut⟩)++Co.wBytes data++Co.wS names.length++(names.take i).flatMap Tr.nameBytes) wr)) (fun t56 _=>names.length-(match t56 with|.int _ k=>k.toNat|_=>0))
   case atStart=>exact ⟨0,rfl,Nat.zero_le _,HST⟩
   case round =>
    clear HST
    obtain ⟨i,rfl,hi,HV⟩:=hrel
    by_cases hk2:i<names.length
    ·obtain ⟨⟨x,xi⟩,hm⟩:∃ m,names[i]?=some m:=⟨_,List.getElem?_eq_getElem hk2⟩
     obtain ⟨k,hxk,hk65,hx16⟩:=HID.out (x,xi) (List.mem_of_getElem? hm)
     dsimp only at hxk hx16
     subst hxk
     obtain ⟨q2,rfl,_,_,hql2,hcell2⟩:=HNA.out (by omega)
     have hlow:=WAt.low HV.out
     have c1:wr.cell? ⟨q2,i*2,none⟩=some (.string (strOf x)):=(hlow.cell (p:=⟨q2,i*2,none⟩) hql2).trans (hcell2 i _ hm).1
     have c2:wr.cell? ⟨q2,i*2+1,none⟩=some (.int .i64 (k:Nat)):=(hlow.cell (p:=⟨q2,i*2+1,none⟩) hql2).trans (hcell2 i _ hm).2
     have hlt3:(i:Int)<(names.length:Int):=by omega
     have HTK:Hid ((names.take (i+1)).flatMap Tr.nameBytes=(names.take i).flatMap Tr.nameBytes++Co.wBytes x++Co.wS k):=by
      have:=Tr.take_names hm
      rw [show Nd.lo16 ((x,((k:Nat):Int)):Nm).2=k by unfold Nd.lo16;show ((k:Int) % 65536).toNat=k;omega] at this
      exact this
     have hP1:=HLEN.out (i+1)
     rw [HTK.out] at hP1
     have HP1:=Lib.hid hP1
     obtain ⟨ca,wb,hcv,hca,hrb,hbb⟩:=conv_any x (wr.alloc (.cells #[.string (strOf x),.int .i64 (k:Nat)] 116))
     rw [World.size_alloc] at hcv hrb
     have HBB:Hid (Below wr.heap.size wr wb):=(bN wr _).trans (hbb.mono (by rw [World.size_alloc];omega))
     have HNB:Hid (Blk wb wr.heap.size 116 [.string (strOf x),.int .i64 (k:Nat)]):=(Blk.new wr _ _).below hbb (by rw [World.size_alloc];omega)
     have HCB:Hid (Calls Tryz.prog 76 #[.pointer (some a),.slice (some ⟨wr.heap.size+1,0,none⟩) x.length ca] wb fun e w'=>(∃ x,e=.returned x)∧Hid (WAt wsaid (.pointer (some a)) w (Co.wS n++(t.take j).flatMap Tr.enBytes++Co.wBytes (Nd.bytes ⟨id,kind,links,size,till,shut⟩)++Co.wBytes data++Co.wS names.length++(names.take i).flatMap Tr.nameBytes++Co.wBytes x) w')∧Hid (∀ b,wr.heap.size≤b→b<wb.heap.size→w'.heap[b]?=wb.heap[b]?)) :=
      bytes3 HV.out (by have:=HP1.out;simp only [List.length_append] at this ⊢;omega) HBB.out (some ⟨wr.heap.size+1,0,none⟩) x ca hrb (fun b hb=>by injection hb with hb;have hb:wr.heap.size+1=b:=hb;omega) hca (by omega)
     clear hm hcell2 hlow hP1 hrb hbb hca
     go_wp2_with fail
     refine HCB.out.mono ?_
     rintro e wc ⟨⟨xc,rfl⟩,HWC,HKC⟩
     clear HCB hcv c1 c2
     have HNC:Hid (Blk wc wr.heap.size 116 [.string (strOf x),.int .i64 (k:Nat)]):=(HKC.out _ (Nat.le_refl _) HNB.out.lt).trans HNB.out
     have c3:wc.cell? ⟨wr.heap.size,1,none⟩=some (.int .i64 (k:Nat)):=HNC.out.cell 1
     go_wp2_with fail
     refine (WAt.short HWC.out (by have:=HP1.out;simp only [List.length_append] at this ⊢;omega) k (by omega)).mono ?_
     rintro e wd ⟨⟨xd,rfl⟩,HWD⟩
     have HNEXT:Hid (WAt wsaid (.pointer (some a)) w (Co.wS n++(t.take j).flatMap Tr.enBytes++Co.wBytes (Nd.bytes ⟨id,kind,links,size,till,shut⟩)++Co.wBytes data++Co.wS names.length++(names.take (i+1)).flatMap Tr.nameBytes) wd):=wat_eq HWD.out (by rw [HTK.out];simp only [List.append_assoc])
     clear HWC HWD HTK HP1 HNC HBB HNB c3
     go_wp2_with fail
     go_roundw
     case rel=>exact ⟨i+1,by go_num,by omega,HNEXT⟩
     case measure=>simp;omega
    ·obtain rfl:i=names.length:=by omega
     have HNEXT:Hid (WAt wsaid (.pointer (some a)) w (Co.wS n++(t.take (j+1)).flatMap Tr.enBytes) wr):=wat_eq HV.out (by rw [HNX.out,HEB.out,List.take_length];simp only [List.append_assoc])
     go_wp2_with fail
     go_roundw
     case rel=>exact ⟨j+1,by go_num,by omega,HNEXT⟩
     case measure=>simp;omega
  ·obtain rfl:j=n:=by omega
   have HEND:Hid (WAt wsaid (.pointer (some a)) w (Tr.save t) wr):=wat_eq HW.out (by rw [HN.out,List.take_length];rfl)
   go_wp2_with fail
   refine (WAt.done HEND.out).mono ?_
   rintro e w9 ⟨X,c9,rfl,hc9,HO9,HX9,HB9,HW9⟩
   have HANS:Hid (SvAns (Tr.save t) w (.returned (.slice X (Tr.save t).length c9)) w9):=by
    obtain ⟨X',c',e1,_,hr⟩:=Go.Proofs.YtjoedamiilgajaaGreat.oF HO9.out
    injection e1 with e1 e2 e3
    subst e1
    exact ⟨X,c9,rfl,hc9,hr,own_up HO9.out HX9.out,WAt.low HW9.out⟩
   clear HO9 HX9 HB9 HW9 hc9
   go_wp2_with fail
   go_ret
   exact HANS.out
end Tm
end Go.Proofs.YtjoedamiilgajaaGreat
namespace Go.Proofs.YtjoedamiilgajaaGreat
open Go.RowKit
namespace Tr
/-! Reading. -/
def ldNames:Nat→Bs→Co.Rs→Option (List Nm × Co.Rs)
 | 0,_,s=>some ([],s)
 | n+1,last,s =>
   if Pa.good (Co.bytes s).1=true∧less last (Co.bytes s).1=true then
    (ldNames n (Co.bytes s).1 (Co.num 2 (Co.bytes s).2).2).map fun r=>(((Co.bytes s).1,((Co.num 2 (Co.bytes s).2).1:Int)) :: r.1,r.2)
   else none
def ldEn (s:Co.Rs):Option (En × Co.Rs) :=
 if (ndDec (Co.bytes s).1).2≠0 then none
 else (ldNames (Co.num 2 (Co.bytes (Co.bytes s).2).2).1 [] (Co.num 2 (Co.bytes (Co.bytes s).2).2).2).bind fun r =>
  if ((Co.bytes (Co.bytes s).2).1.length:Int)=(ndDec (Co.bytes s).1).1.size then some (⟨(ndDec (Co.bytes s).1).1,(Co.bytes (Co.bytes s).2).1,r.1⟩,r.2) else none
def ldEns:Nat→Co.Rs→Option (T × Co.Rs)
 | 0,s=>some ([],s)
 | n+1,s=>(ldEn s).bind fun r=>(ldEns n r.2).map fun q=>(r.1 :: q.1,q.2)
/-! What is written is read. -/
theorem ldNames_back:∀ (l:List Nm) (last r:Bs),l.length≤65535→(∀ n ∈ l,Pa.good n.1=true∧∃ k:Nat,n.2=k∧k≤65535)→(∀ n ∈ l,less last n.1=true)→Rise l→ldNames l.length last ⟨l.flatMap nameBytes++r,0⟩=some (l,⟨r,0⟩)
 | [],_,_,_,_,_,_=>rfl
 | n :: l,last,r,hl,hg,hlast,hr=>by
   obtain ⟨x,m⟩:=n
   obtain ⟨h1,k,h2,h3⟩:=hg (x,m) (.head _)
   dsimp only at h1 h2
   subst h2
   have hx:x.length≤65535:=by
    simp only [Pa.good,Bool.and_eq_true,decide_eq_true_eq] at h1
    omega
   have e0:(((x,((k:Nat):Int)) :: l:List Nm).flatMap nameBytes)++r=Co.wBytes x++(Co.wS k++(l.flatMap nameBytes++r)):=by
    rw [List.flatMap_cons]
    unfold nameBytes
    rw [show Nd.lo16 ((x,((k:Nat):Int)):Nm).2=k by unfold Nd.lo16;show ((k:Int) % 65536).toNat=k;omega]
    simp only [List.append_assoc]
   obtain ⟨hr1,hr2⟩:=List.pairwise_cons.1 hr
   have ih:=ldNames_back l x r (by simp at hl;omega) (fun n hn=>hg n (.tail _ hn)) (fun n hn=>hr1 n hn) hr2
   rw [List.length_cons,e0]
   unfold ldNames
   rw [Co.bytes_app x _ hx]
   dsimp only
   rw [Co.num_short,if_pos ⟨h1,hlast (x,_) (.head _)⟩]
   dsimp only
   rw [ih,Nat.mod_eq_of_lt (by omega)]
   rfl
def Slim (t:T):Prop:=∀ e ∈ t,e.names.length≤65535
theorem less_nil {x:Bs} (h:Pa.good x=true):less [] x=true:=by
 cases x with
 | nil=>exact absurd h (by decide)
 | cons a x=>rfl
theorem Good.ids {t:T} (h:Good t) {e:En} (he:e ∈ t):∀ n ∈ e.names,∃ k:Nat,n.2=k∧k≤65535:=fun n hn=>by
 obtain ⟨_,h1⟩:=h.leads e he n hn
 obtain ⟨e2,h2,h3⟩:=find_isSome.1 h1
 have h4:=(h.each e2 h2).nd
 exact ⟨n.2.toNat,by have:=h4.1;omega,by have:=h4.1;have:=h4.2.1;omega⟩
theorem ldEn_back {e:En} (h:EnOk e) (hs:e.names.length≤65535) (hi:∀ n ∈ e.names,∃ k:Nat,n.2=k∧k≤65535) (r:Bs):ldEn ⟨enBytes e++r,0⟩=some (e,⟨r,0⟩):=by
 have e0:enBytes e++r=Co.wBytes e.nd.bytes++(Co.wBytes e.data++(Co.wS e.names.length++(e.names.flatMap nameBytes++r))):=by
  unfold enBytes
  simp only [List.append_assoc]
 have hd:e.data.length≤65535:=by
  have h1:=h.size
  have h2:=h.nd.2.2.2.2.2.1
  omega
 unfold ldEn
 rw [e0,Co.bytes_app _ _ (by rw [Nd.bytes_length];omega)]
 dsimp only
 rw [ndDec_bytes _ h.nd]
 dsimp only
 rw [if_neg (by simp),Co.bytes_app _ _ hd]
 dsimp only
 rw [Co.num_short,Nat.mod_eq_of_lt (show e.names.length<65536 by omega)]
 dsimp only
 rw [ldNames_back e.names [] r hs (fun n hn=>⟨h.good n hn,hi n hn⟩) (fun n hn=>less_nil (h.good n hn)) h.rise]
 show (if (e.data.length:Int)=e.nd.size then _ else _)=_
 rw [if_pos h.size.symm]
theorem ldEns_back:∀ (t:T) (r:Bs),(∀ e ∈ t,EnOk e∧e.names.length≤65535∧∀ n ∈ e.names,∃ k:Nat,n.2=k∧k≤65535)→ldEns t.length ⟨t.flatMap enBytes++r,0⟩=some (t,⟨r,0⟩)
 | [],_,_=>rfl
 | e :: t,r,h=>by
   obtain ⟨h1,h2,h3⟩:=h e (.head _)
   rw [List.flatMap_cons,List.append_assoc,List.length_cons]
   unfold ldEns
   rw [ldEn_back h1 h2 h3]
   show ((ldEns t.length ⟨t.flatMap enBytes++r,0⟩).map _)=_
   rw [ldEns_back t r fun e he=>h e (.tail _ he)]
   rfl
/-! What is read is what is written. -/
theorem bytes_inv (s:Co.Rs) (h:(Co.bytes s).2.why=0):s.why=0∧(Co.bytes s).1.length≤65535∧s.rem=Co.wBytes (Co.bytes s).1++(Co.bytes s).2.rem:=by
 unfold Co.bytes at h ⊢
 by_cases h0:(Co.num 2 s).1=0
 ·have e:Co.raw ((Co.num 2 s).1:Nat) (Co.num 2 s).2=([],(Co.num 2 s).2):=by unfold Co.raw;rw [if_pos (.inr (by omega))]
  rw [e] at h ⊢
  obtain ⟨h1,h2,h3⟩:=Co.short_inv s h
  refine ⟨h1,Nat.zero_le _,?_⟩
  rw [h0] at h3
  exact h3
 ·obtain ⟨h1,h2,h3⟩:=Co.raw_inv (Co.num 2 s).1 (Co.num 2 s).2 (by omega) h
  obtain ⟨k1,k2,k3⟩:=Co.short_inv s h1
  refine ⟨k1,by omega,?_⟩
  have e:Co.wBytes (Co.raw ((Co.num 2 s).1:Nat) (Co.num 2 s).2).1=Co.wS (Co.num 2 s).1++(Co.raw ((Co.num 2 s).1:Nat) (Co.num 2 s).2).1:=by
   unfold Co.wBytes
   rw [List.take_of_length_le (by omega),h2]
  rw [e,List.append_assoc,← h3]
  exact k3
theorem ldNames_inv:∀ (n:Nat) (last:Bs) (s:Co.Rs) (l:List Nm) (s':Co.Rs),ldNames n last s=some (l,s')→s'.why=0→s.why=0∧l.length=n∧s.rem=l.flatMap nameBytes++s'.rem∧(∀ m ∈ l,Pa.good m.1=true∧∃ k:Nat,m.2=k∧k≤65535)∧(∀ m ∈ l,less last m.1=true)∧Rise l
 | 0,_,s,l,s',h,hw=>by
   unfold ldNames at h
   simp only [Option.some.injEq,Prod.mk.injEq] at h
   obtain ⟨h1,h2⟩:=h
   subst h1 h2
   exact ⟨hw,rfl,rfl,(fun _ hm=>by cases hm),(fun _ hm=>by cases hm),List.Pairwise.nil⟩
 | n+1,last,s,l,s',h,hw=>by
   unfold ldNames at h
   split at h
   ·rename_i hg
    cases hr:ldNames n (Co.bytes s).1 (Co.num 2 (Co.bytes s).2).2 with
    | none=>rw [hr] at h;cases h
    | some r =>
      rw [hr] at h
      simp only [Option.map_some,Option.some.injEq,Prod.mk.injEq] at h
      obtain ⟨h1,h2⟩:=h
      subst h1 h2
      obtain ⟨l1,s1⟩:=r
      obtain ⟨i1,i2,i3,i4,i5,i6⟩:=ldNames_inv n _ _ _ _ hr hw
      obtain ⟨k1,k2,k3⟩:=Co.short_inv _ i1
      obtain ⟨b1,b2,b3⟩:=bytes_inv s k1
      refine ⟨b1,by rw [List.length_cons,i2],?_,fun m hm=>?_,fun m hm=>?_,List.pairwise_cons.2 ⟨i5,i6⟩⟩
      ·have hnb:nameBytes ((Co.bytes s).1,((Co.num 2 (Co.bytes s).2).1:Int))=Co.wBytes (Co.bytes s).1++Co.wS (Co.num 2 (Co.bytes s).2).1:=by
        unfold nameBytes
        rw [show Nd.lo16 (((Co.bytes s).1,((Co.num 2 (Co.bytes s).2).1:Int)):Nm).2=(Co.num 2 (Co.bytes s).2).1 by unfold Nd.lo16;show (((Co.num 2 (Co.bytes s).2).1:Int) % 65536).toNat=_;omega]
       rw [List.flatMap_cons,hnb,b3,k3,i3]
       simp only [List.append_assoc]
      ·rcases List.mem_cons.1 hm with rfl|hm
       ·exact ⟨hg.1,_,rfl,by omega⟩
       ·exact i4 m hm
      ·rcases List.mem_cons.1 hm with rfl|hm
       ·exact hg.2
       ·exact less_trans hg.2 (i5 m hm)
   ·cases h
theorem ldEn_inv {s s':Co.Rs} {e:En} (h:ldEn s=some (e,s')) (hw:s'.why=0):s.why=0∧s.rem=enBytes e++s'.rem∧e.nd.Right∧e.nd.size=(e.data.length:Nat)∧e.names.length≤65535∧Rise e.names∧∀ m ∈ e.names,Pa.good m.1=true∧∃ k:Nat,m.2=k∧k≤65535:=by
 unfold ldEn at h
 have hb:=bytes_inv s
 generalize Co.bytes s=B at h hb
 have hd:=bytes_inv B.2
 generalize Co.bytes B.2=D at h hd
 have hc:=Co.short_inv D.2
 generalize Co.num 2 D.2=C at h hc
 have hn:=ndDec_inv B.1
 generalize ndDec B.1=N at h hn
 split at h
 ·cases h
 ·rename_i hn0
  obtain ⟨n1,n2⟩:=hn (Decidable.byContradiction hn0)
  cases hr:ldNames C.1 [] C.2 with
  | none=>rw [hr] at h;cases h
  | some r =>
    obtain ⟨l,s1⟩:=r
    rw [hr] at h
    simp only [Option.bind_some] at h
    split at h
    ·rename_i hs
     simp only [Option.some.injEq,Prod.mk.injEq] at h
     obtain ⟨h1,h2⟩:=h
     subst h1 h2
     obtain ⟨i1,i2,i3,i4,_,i6⟩:=ldNames_inv _ _ _ _ _ hr hw
     obtain ⟨k1,k2,k3⟩:=hc i1
     obtain ⟨d1,d2,d3⟩:=hd k1
     obtain ⟨b1,b2,b3⟩:=hb d1
     refine ⟨b1,?_,n1,hs.symm,by show l.length≤_;omega,i6,i4⟩
     unfold enBytes
     dsimp only
     rw [n2,i2,b3,d3,k3,i3]
     simp only [List.append_assoc]
    ·cases h
theorem ldEns_inv:∀ (n:Nat) (s:Co.Rs) (t:T) (s':Co.Rs),ldEns n s=some (t,s')→s'.why=0→s.why=0∧t.length=n∧s.rem=t.flatMap enBytes++s'.rem∧∀ e ∈ t,e.nd.Right∧e.nd.size=(e.data.length:Nat)∧e.names.length≤65535∧Rise e.names∧∀ m ∈ e.names,Pa.good m.1=true∧∃ k:Nat,m.2=k∧k≤65535:=by
 intro n
 induction n with
 | zero =>
   intro s t s' h hw
   unfold ldEns at h
   simp only [Option.some.injEq,Prod.mk.injEq] at h
   obtain ⟨h1,h2⟩:=h
   subst h1 h2
   exact ⟨hw,rfl,rfl,(fun _ hm=>by cases hm)⟩
 | succ n ih =>
   intro s t s' h hw
   unfold ldEns at h
   have hE:=@ldEn_inv s
   generalize ldEn s=E at h hE
   cases E with
   | none=>cases h
   | some r =>
     obtain ⟨e,s1⟩:=r
     simp only [Option.bind_some] at h
     have hI:=ih s1
     generalize ldEns n s1=q at h hI
     cases q with
     | none=>cases h
     | some q =>
       obtain ⟨t1,s2⟩:=q
       simp only [Option.map_some,Option.some.injEq,Prod.mk.injEq] at h
       obtain ⟨h1,h2⟩:=h
       subst h1 h2
       obtain ⟨i1,i2,i3,i4⟩:=hI t1 s2 rfl hw
       obtain ⟨b1,b2,b3⟩:=hE rfl i1
       refine ⟨b1,by rw [List.length_cons,i2],by rw [List.flatMap_cons,b2,i3,List.append_assoc],fun m hm=>?_⟩
       rcases List.mem_cons.1 hm with rfl|hm
       ·exact b3
       ·exact i4 m hm
end Tr
end Go.Proofs.YtjoedamiilgajaaGreat
namespace Go.Proofs.YtjoedamiilgajaaGreat
open Go.RowKit
namespace Tr
variable {t:T}
def Raw (t:T):Prop:=∀ e ∈ t,e.nd.Right∧e.nd.size=(e.data.length:Nat)∧e.names.length≤65535∧Rise e.names∧∀ m ∈ e.names,Pa.good m.1=true∧∃ k:Nat,m.2=k∧k≤65535
def headB:T→Bool
 | []=>false
 | e :: _=>(e.nd.id==0)&&(e.nd.kind==2)
def UpTo (t:T) (j:Nat):Prop:=∀ i,i+1<j→∀ a b,t[i]?=some a→t[i+1]?=some b→a.nd.id<b.nd.id
theorem UpTo.zero (t:T):UpTo t 0:=fun i h=>by omega
theorem UpTo.one (t:T):UpTo t 1:=fun i h=>by omega
theorem UpTo.next {j:Nat} (h:UpTo t (j+1)) (h1:∀ a b,t[j]?=some a→t[j+1]?=some b→a.nd.id<b.nd.id):UpTo t (j+2):=fun i hi a b ha hb=>by
 by_cases hij:i=j
 ·subst hij;exact h1 a b ha hb
 ·exact h i (by omega) a b ha hb
theorem UpTo.far (h:UpTo t t.length):∀ (d i:Nat) (a b:En),t[i]?=some a→t[i+d+1]?=some b→a.nd.id<b.nd.id
 | 0,i,a,b,ha,hb=>by
   obtain ⟨h1,_⟩:=List.getElem?_eq_some_iff.1 hb
   exact h i (by omega) a b ha hb
 | d+1,i,a,b,ha,hb=>by
   obtain ⟨h1,_⟩:=List.getElem?_eq_some_iff.1 hb
   obtain ⟨c,hc⟩:∃ c,t[i+d+1]?=some c:=⟨_,List.getElem?_eq_getElem (by omega)⟩
   have h2:=UpTo.far h d i a c ha hc
   have h3:=h (i+d+1) (by omega) c b hc hb
   omega
theorem UpTo.rise (h:UpTo t t.length):t.Pairwise fun a b=>a.nd.id<b.nd.id:=by
 rw [List.pairwise_iff_getElem]
 intro i j hi hj hij
 exact UpTo.far h (j-i-1) i _ _ (List.getElem?_eq_getElem hi) (by rw [show i+(j-i-1)+1=j by omega];exact List.getElem?_eq_getElem hj)
theorem up_of (h:t.Pairwise fun a b=>a.nd.id<b.nd.id) (j:Nat):UpTo t j:=fun i _ a b ha hb=>by
 obtain ⟨h1,h2⟩:=List.getElem?_eq_some_iff.1 ha
 obtain ⟨h3,h4⟩:=List.getElem?_eq_some_iff.1 hb
 have:=List.pairwise_iff_getElem.1 h i (i+1) h1 h3 (by omega)
 rw [h2,h4] at this
 exact this
theorem fT_all (t:T) (x:Int):Tm.fT t [] x=((Tr.count t x:Nat):Int)+(if x=0 then 1 else 0):=by
 unfold Tm.fT Tm.upN
 simp
 omega
theorem half_of (hr:Raw t) (h64:t.length≤64) (hh:headB t=true) (hu:UpTo t t.length) (hl:t.all (Tm.leadsB t)=true) (hk:t.all (Tm.linkB t)=true):Half t:=by
 have hL:∀ e ∈ t,Tm.leadsB t e=true:=List.all_eq_true.1 hl
 have hK:∀ e ∈ t,Tm.linkB t e=true:=List.all_eq_true.1 hk
 have hfile:∀ e ∈ t,e.nd.kind=1→e.names=[]:=fun e he h1=>by
  have:=hL e he
  unfold Tm.leadsB at this
  rw [if_pos h1] at this
  exact List.isEmpty_iff.1 this
 refine ⟨?_,hu.rise,h64,fun e he=>?_,fun e he n hn=>?_,fun e he=>?_,fun e he h2=>?_,fun e he h2=>?_⟩
 ·cases t with
  | nil=>cases hh
  | cons r rest =>
    unfold headB at hh
    simp only [Bool.and_eq_true,beq_iff_eq] at hh
    exact ⟨r,rest,rfl,hh.1,hh.2⟩
 ·obtain ⟨h1,h2,_,h4,h5⟩:=hr e he
  exact ⟨h1,h2,h4,fun n hn=>(h5 n hn).1,hfile e he⟩
 ·have h1:=hL e he
  unfold Tm.leadsB at h1
  by_cases hk1:e.nd.kind=1
  ·rw [hfile e he hk1] at hn;cases hn
  ·rw [if_neg hk1] at h1
   have h2:=List.all_eq_true.1 h1 n hn
   unfold Tm.nameB at h2
   simp only [Bool.and_eq_true,Bool.not_eq_true',beq_eq_false_iff_ne] at h2
   exact ⟨h2.1,h2.2⟩
 ·have h1:=hK e he
  unfold Tm.linkB at h1
  simp only [Bool.and_eq_true,beq_iff_eq] at h1
  rw [← h1.1,fT_all]
 ·have h1:=hK e he
  unfold Tm.linkB at h1
  simp only [Bool.and_eq_true,beq_iff_eq,Bool.not_eq_true',Bool.or_eq_false_iff,h2] at h1
  simpa using h1.2.1
 ·have h1:=hK e he
  unfold Tm.linkB at h1
  simp only [Bool.and_eq_true,beq_iff_eq,Bool.not_eq_true',Bool.or_eq_false_iff,h2] at h1
  simpa using h1.2.2
theorem Good.head (h:Good t):headB t=true:=by
 obtain ⟨r,rest,rfl,h1,h2⟩:=h.root
 unfold headB
 simp [h1,h2]
theorem Good.lead (h:Good t):t.all (Tm.leadsB t)=true:=List.all_eq_true.2 fun e he=>by
 unfold Tm.leadsB
 split
 ·rename_i h1
  rw [(h.each e he).file h1];rfl
 ·refine List.all_eq_true.2 fun n hn=>?_
  obtain ⟨h1,h2⟩:=h.leads e he n hn
  unfold Tm.nameB
  simp [h1,h2]
theorem Good.link_ (h:Good t):t.all (Tm.linkB t)=true:=List.all_eq_true.2 fun e he=>by
 have h1:=h.linked e he
 have h2:=h.dirs e he
 have h3:=h.shut e he
 unfold Tm.linkB
 rw [fT_all,h1]
 simp only [beq_self_eq_true,Bool.true_and,Bool.not_eq_true',Bool.or_eq_false_iff,Bool.and_eq_false_iff,Bool.not_eq_false',beq_iff_eq,beq_eq_false_iff_ne]
 refine ⟨?_,?_⟩
 ·by_cases hk:e.nd.kind=2
  ·exact .inr (h2 hk)
  ·exact .inl hk
 ·by_cases hs:e.nd.shut=true
  ·exact .inr (h3 hs)
  ·exact .inl (by simpa using hs)
/-! Many nodes, one behind the other. -/
theorem ldEns_add:∀ (j k:Nat) (s:Co.Rs),ldEns (j+k) s=(ldEns j s).bind fun r=>(ldEns k r.2).map fun q=>(r.1++q.1,q.2)
 | 0,k,s=>by
   rw [Nat.zero_add]
   show _=(ldEns k s).map fun q=>([]++q.1,q.2)
   cases ldEns k s <;> rfl
 | j+1,k,s=>by
   rw [show j+1+k=(j+k)+1 by omega]
   show (ldEn s).bind (fun r=>(ldEns (j+k) r.2).map fun q=>(r.1 :: q.1,q.2))=((ldEn s).bind fun r=>(ldEns j r.2).map fun q=>(r.1 :: q.1,q.2)).bind _
   cases hE:ldEn s with
   | none=>rfl
   | some r =>
     show (ldEns (j+k) r.2).map _=((ldEns j r.2).map _).bind _
     rw [ldEns_add j k r.2]
     cases ldEns j r.2 with
     | none=>rfl
     | some q =>
       show ((ldEns k q.2).map _).map _=(ldEns k q.2).map _
       cases ldEns k q.2 <;> rfl
theorem ldEns_succ (n:Nat) (s:Co.Rs):ldEns (n+1) s=(ldEn s).bind fun r=>(ldEns n r.2).map fun q=>(r.1 :: q.1,q.2):=rfl
theorem ldEns_zero (s:Co.Rs):ldEns 0 s=some ([],s):=rfl
theorem ldEns_one {j:Nat} {s s1 s2:Co.Rs} {t:T} {e:En} (h:ldEns j s=some (t,s1)) (h1:ldEn s1=some (e,s2)):ldEns (j+1) s=some (t++[e],s2):=by
 rw [ldEns_add,h,Option.bind_some]
 dsimp only
 rw [show (1:Nat)=0+1 from rfl,ldEns_succ,h1,Option.bind_some]
 dsimp only
 rw [ldEns_zero,Option.map_some,Option.map_some]
theorem ldEns_no {j n:Nat} {s s1:Co.Rs} {t:T} (hj:j<n) (h:ldEns j s=some (t,s1)) (h1:ldEn s1=none):ldEns n s=none:=by
 obtain ⟨k,rfl⟩:∃ k,n=j+(k+1):=⟨n-j-1,by omega⟩
 rw [ldEns_add,h,Option.bind_some]
 dsimp only
 rw [ldEns_succ,h1,Option.bind_none,Option.map_none]
theorem save_reads (h:Good t) (hs:Slim t):Co.num 2 ⟨save t,0⟩=(t.length,⟨t.flatMap enBytes,0⟩)∧ldEns t.length ⟨t.flatMap enBytes,0⟩=some (t,⟨[],0⟩):=by
 have hf:=h.few
 constructor
 ·unfold save
  rw [Co.num_short,Nat.mod_eq_of_lt (by omega)]
 ·have:=ldEns_back t [] fun e he=>⟨h.each e he,hs e he,h.ids he⟩
  rw [List.append_nil] at this
  exact this
theorem fin_zero {s:Co.Rs} (h:Co.fin s=0):s.why=0∧s.rem=[]:=by
 unfold Co.fin at h
 by_cases h0:s.why=0
 ·rw [if_neg (by simpa using h0)] at h
  refine ⟨h0,?_⟩
  cases hr:s.rem with
  | nil=>rfl
  | cons a r=>rw [hr,if_pos (by simp)] at h;cases h
 ·rw [if_pos h0] at h
  exact absurd h h0
theorem reads_save {n:Nat} {b:Bs} {s s':Co.Rs} (hn:Co.num 2 ⟨b,0⟩=(n,s)) (hl:ldEns n s=some (t,s')) (hf:Co.fin s'=0):save t=b∧Slim t∧Raw t∧t.length=n:=by
 obtain ⟨f1,f2⟩:=fin_zero hf
 obtain ⟨h1,h2,h3,h4⟩:=ldEns_inv n s t s' hl f1
 obtain ⟨k1,k2,k3⟩:=Co.short_inv ⟨b,0⟩ (by rw [hn];exact h1)
 rw [hn] at k2 k3
 refine ⟨?_,fun e he=>(h4 e he).2.2.1,h4,h2⟩
 unfold save
 rw [h2]
 have k4:b=Co.wS n++s.rem:=k3
 rw [k4,h3,f2,List.append_nil]
end Tr
end Go.Proofs.YtjoedamiilgajaaGreat
