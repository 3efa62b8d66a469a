/- OWN WORK. The shelf, and what stands on it. -/
import Derived.Test.YtbnpgakmhhfjkaaGreatDoorO08
import Derived.Test.YtbnpgakmhhfjkaaGreatDoorO07
import Derived.RangeFuncBox
import Derived.Test.YtbnpgakmhhfjkaaGreatDoorO04
import Derived.Shelf.Strings.Builder1
import Derived.Shelf.Small.Bits
import Derived.Shelf.Small.Strs
import Derived.Shelf.Strconv.Itoa0
import Derived.Shelf.LaysM
import Derived.Shelf.Strconv.Clone
import Derived.Ground.SlsfProg
import Derived.Shelf.SlSortCmp.Insertion
import Derived.Shelf.SlSortCmp.SiftDown1
import Derived.Shelf.SlSortCmp.HeapSort1
import Derived.Shelf.SlSortCmp.Insertion1
import Derived.Shelf.SlSortCmp.Median1
import Derived.Shelf.SlSortCmp.Pivot1
import Derived.Shelf.SlSortCmp.ReverseRange1
import Derived.Shelf.SlSortCmp.PartialInsertion1
import Derived.Shelf.SlSortCmp.PartitionEqual1
import Derived.Shelf.SlSortCmp.Partition1
import Derived.Shelf.SlSortCmp.Pdq1
import Derived.Shelf.SlSortCmp.Whole1
import Derived.Shelf.SlSortCmp.NoneTotal
import Derived.Test.YtbnpgakmhhfjkaaGreatDoorProg
import Derived.Test.YtbnpgakmhhfjkaaGreatDoorO06
namespace Go.Proofs.YtbnpgakmhhfjkaaGreatDoor
open Go.Shelf Go.Proofs
def Tryz.laysM316_ren:Go.Shelf.Ren:=⟨fun|316=>182|n=>n,fun|9=>9|3=>3|4=>4|37=>23|0=>0|127=>215|5=>5|n=>n,fun|n=>n⟩
theorem Tryz.laysM316:Go.Proofs.LaysM.n316 Tryz.prog Tryz.laysM316_ren:={
 mixed:=by kernel_rfl
 f316:=Tryz.func182.trans (congrArg some (by kernel_rfl))
 t0:=Tryz.underlying0
 a0:=Tryz.isAgg0
 z0:=Tryz.sizeOf0
 v0:=Tryz.zeroValue0
 t3:=Tryz.underlying3
 a3:=Tryz.isAgg3
 z3:=Tryz.sizeOf3
 v3:=Tryz.zeroValue3
 t4:=Tryz.underlying4
 a4:=Tryz.isAgg4
 z4:=Tryz.sizeOf4
 v4:=Tryz.zeroValue4
 t9:=Tryz.underlying9
 a9:=Tryz.isAgg9
 z9:=Tryz.sizeOf9
 v9:=Tryz.zeroValue9
 t37:=Tryz.underlying23
 a37:=Tryz.isAgg23
 z37:=Tryz.sizeOf23
 v37:=Tryz.zeroValue23
 t127:=Tryz.underlying215
 a127:=Tryz.isAgg215
 z127:=Tryz.sizeOf215
 v127:=Tryz.zeroValue215
 t5:=Tryz.underlying5
 a5:=Tryz.isAgg5
 z5:=Tryz.sizeOf5
 v5:=Tryz.zeroValue5
 i0:=by kernel_rfl
 i3:=by kernel_rfl
 i4:=by kernel_rfl
 i5:=by kernel_rfl
 i9:=by kernel_rfl
 i37:=by kernel_rfl
 i127:=by kernel_rfl }
open Go.RowKit in
theorem Tryz.stringslite_Clone (s:ByteArray) (w:World) (hlim:s.size≤281474976710656) :
    Calls Tryz.prog 182 #[.string s] w fun e w'=>e=.returned (.string s)∧Below w.heap.size w w':=Any.stringslite_Clone Tryz.laysM316 s w hlim
end Go.Proofs.YtbnpgakmhhfjkaaGreatDoor
/- OWN WORK. The shelf, once. -/
namespace Go.Proofs.YtbnpgakmhhfjkaaGreatDoor
open Go.RowKit Rc
namespace Tm
set_option maxHeartbeats 1000000 in
set_option maxRecDepth 100000 in
theorem cloneSaid:CloneSaid:=by
 intro s w hs
 have h:=Tryz.stringslite_Clone (strOf s) w (by rw [strOf_size];omega)
 have H:=Lib.hid h
 clear h
 go_enter Tryz.func144,Tryz.ntmps144
 go_wp2_with fail
 refine H.out.mono ?_
 rintro e w1 ⟨rfl,hb⟩
 have HB:=Lib.hid hb
 clear hb
 go_wp2_with fail
 go_ret
 exact ⟨rfl,HB.out⟩
end Tm
end Go.Proofs.YtbnpgakmhhfjkaaGreatDoor
namespace Go.Proofs.YtbnpgakmhhfjkaaGreatDoor
open Go.RowKit Rc
open Tr (Nm En T)
namespace Tm
variable {p:Nat} {av:Value} {gs:List Nat} {S:Nat→Prop} {t:T} {w:World}
theorem insE_take {t:T} {n:En} {k:Nat} (hk:k≤t.length) (h1:∀ j e,j<k→t[j]?=some e→e.nd.id<n.nd.id) (h2:∀ e,t[k]?=some e→¬ e.nd.id<n.nd.id):Tr.insE t n=t.take k++n :: t.drop k:=by
 induction k generalizing t with
 | zero =>
   cases t with
   | nil=>rfl
   | cons e t =>
     unfold Tr.insE
     rw [if_neg (h2 e rfl)];rfl
 | succ k ih =>
   cases t with
   | nil=>simp at hk
   | cons e t =>
     unfold Tr.insE
     rw [if_pos (h1 0 e (by omega) rfl),ih (by simpa using hk) (fun j m hj hm=>h1 (j+1) m (by omega) (by simpa using hm)) (fun m hm=>h2 m (by simpa using hm))]
     rfl
theorem ptrOf_ins:∀ {ga gb:List Nat} {g:Nat} {A B:T} {e:En} {i:Int},ga.length=A.length→e.nd.id≠i→ptrOf (ga++g :: gb) (A++e :: B) i=ptrOf (ga++gb) (A++B) i
 | [],gb,g,[],B,e,i,_,he=>by
   show (if _ then _ else _)=_
   rw [if_neg he];rfl
 | x :: ga,gb,g,a :: A,B,e,i,hl,he=>by
   show (if _ then _ else _)=(if _ then _ else _)
   by_cases hi:a.nd.id=i
   ·rw [if_pos hi,if_pos hi]
   ·rw [if_neg hi,if_neg hi]
    exact ptrOf_ins (by simpa using hl) he
theorem TIn.insert (h:TIn p av gs S t w) {g:Nat} {e:En} {S1:Nat→Prop} {k:Nat} {av':Value} {w1:World} (he:EAt g e S1 w) (hk:k≤t.length) (hd:∀ b,TrS p av S b→¬ S1 b)
    (ho:w1.ownsRow 0 90 1 av' (gs.take k++g :: gs.drop k).length (ptrCells (gs.take k++g :: gs.drop k))) (hg:w.grownBy w1 av.ownBlock) (hb:∀ b,av'.ownBlock=some b→av.ownBlock=some b∨w.heap.size≤b) :
    ∃ S',TIn p av' (gs.take k++g :: gs.drop k) S' (t.take k++e :: t.drop k) (w1.setCell ⟨p,0,none⟩ av')∧Mod w (w1.setCell ⟨p,0,none⟩ av') (TrS p av S)∧∀ b,TrS p av' S' b→TrS p av S b∨S1 b∨w.heap.size≤b:=by
 have hap:=h.apart
 have hpn:some p≠av.ownBlock:=fun e2=>(hap.2 p e2.symm).2 rfl
 have hbox:Blk w1 p 113 [av]:=(hg.block p h.box.lt hpn).trans h.box
 have hes0:EsAt gs (t.take k++t.drop k) S w:=by rw [List.take_append_drop];exact h.each
 obtain ⟨ga,gb,S',h1,h2,h3,h4⟩:=hes0.into he fun b hb2=>hd b (.inr (.inr hb2))
 have hga:ga=gs.take k:=by
  have:ga.length=k:=by rw [h2,List.length_take];omega
  rw [h1,← this,List.take_left]
 have hgb:gb=gs.drop k:=by
  have:ga.length=k:=by rw [h2,List.length_take];omega
  rw [h1,← this,List.drop_left]
 rw [hga,hgb] at h3
 have hp1:¬ S1 p:=hd p (.inl rfl)
 have hnp:∀ b,av'.ownBlock=some b→b≠p:=fun b hb2 e2=>by
  rcases hb b hb2 with h5|h5
  ·exact (hap.2 b h5).2 e2
  ·have:=h.box.lt;omega
 refine ⟨S',⟨hbox.set_ 0 av',own_keep ho fun b hb2=>Below.heap_setCell _ _ _ _ (hnp b hb2),h3.keep fun b hb2=>?_⟩,⟨hg.os,hg.tape,hg.output,by simpa [World.setCell] using hg.size,fun j hj hn=>?_⟩,?_⟩
 ·have hbp:b≠p:=fun e2=>by
   rcases (h4 b).1 hb2 with h5|h5
   ·exact hap.1 (e2 ▸ h5)
   ·exact hp1 (e2 ▸ h5)
  rw [Below.heap_setCell _ _ _ _ hbp]
  rcases (h4 b).1 hb2 with h5|h5
  ·exact hg.block b (h.each.kind h5).1 fun e2=>(hap.2 b e2.symm).1 h5
  ·exact hg.block b (he.kind h5).1 fun e2=>hd b (.inr (.inl e2.symm)) h5
 ·rw [Below.heap_setCell _ _ _ _ (fun e2=>hn (.inl e2))]
  exact hg.block j hj fun e2=>hn (.inr (.inl e2.symm))
 ·rintro b (rfl|hb2|hb2)
  ·exact .inl (.inl rfl)
  ·exact (hb b hb2).elim (fun h5=>.inl (.inr (.inl h5))) (fun h5=>.inr (.inr h5))
  ·exact ((h4 b).1 hb2).elim (fun h5=>.inl (.inr (.inr h5))) (fun h5=>.inr (.inl h5))
theorem TTurn.trans {S0 S1:Nat→Prop} {w0 w1 w2:World} {t2:T} {x y:Value} (hm:Mod w0 w1 S0) (hs:∀ b,S1 b→S0 b∨w0.heap.size≤b) (h:TTurn p t2 x S1 w1 (.returned x) w2):TTurn p t2 y S0 w0 (.returned y) w2:=by
 obtain ⟨_,S3,n1,n2,n3⟩:=h
 refine ⟨rfl,S3,n1,?_,fun b hb=>?_⟩
 ·refine ⟨n2.os.trans hm.os,n2.tape.trans hm.tape,n2.output.trans hm.output,Nat.le_trans hm.size n2.size,fun k hk hn=>(n2.block k (Nat.lt_of_lt_of_le hk hm.size) fun h8=>?_).trans (hm.block k hk hn)⟩
  rcases hs k h8 with h9|h9
  ·exact hn h9
  ·omega
 ·rcases n3 b hb with h8|h8
  ·exact hs b h8
  ·exact .inr (Nat.le_trans hm.size h8)
theorem formed_one (w:World) (A:Option Addr) (q:List Bs) (cap:Nat) (hr:RdS w A q) (hc:q.length≤cap) (hl:q.length≤1000000) (hs:∀ s ∈ q,s.length≤1000000) :
    Calls Tryz.prog 84 #[.slice (some ⟨w.heap.size,0,none⟩) 1 1] (w.alloc (.cells #[.slice A q.length cap] 29)) fun e w'=>e=.returned (.int .i64 (Tr.formed q:Nat))∧w'=w.alloc (.cells #[.slice A q.length cap] 29):=by
 have h:=formed_any _ _ [q] 1 (rdP_one w q A cap 29 hc hr) (by simp) (fun p hp=>by
  obtain rfl:p=q:=by simpa using hp
  exact ⟨hl,fun s h=>by have:=hs s h;omega⟩)
 have e:formedL [q]=Tr.formed q:=by
  unfold formedL
  split
  ·rfl
  ·rename_i h1
   have h2:Tr.formed q=0:=Decidable.byContradiction h1
   rw [h2];rfl
 rw [e] at h
 exact h
theorem ptrOf_upd {f:En→En} (hf:∀ e,(f e).nd.id=e.nd.id) (d i:Int):∀ {gs:List Nat} {t:T},ptrOf gs (Tr.upd t d f) i=ptrOf gs t i
 | [],[]=>rfl
 | [],_ :: _=>rfl
 | _ :: _,[]=>rfl
 | g :: gs,e :: t=>by
   have h1:(if e.nd.id==d then f e else e).nd.id=e.nd.id:=by split <;> simp [hf]
   show (if (if e.nd.id==d then f e else e).nd.id=i then _ else _)=(if _ then _ else _)
   rw [h1]
   by_cases hi:e.nd.id=i
   ·rw [if_pos hi,if_pos hi]
   ·rw [if_neg hi,if_neg hi]
    exact ptrOf_upd hf d i (gs:=gs) (t:=t)
theorem ptr_inj {a b:Nat} (h:Value.pointer (some ⟨a,0,none⟩)=.pointer (some ⟨b,0,none⟩)):a=b:=by
 injection h with h;injection h with h;injection h
theorem make_put (h6:TIn p av gs S t w) (hr:Tr.Ris t) {g:Nat} {kn:Nat} {kind:Int} (hE:EIn g (.slice none 0 0) (.slice none 0 0) (Tr.fresh (kn:Int) kind) w) (hgS:∀ b,TrS p av S b→b≠g) (hk:kn≤t.length)
    (hins:Tr.insE t (Tr.fresh (kn:Int) kind)=t.take kn++Tr.fresh (kn:Int) kind :: t.drop kn) (hnew:∀ e ∈ t,e.nd.id≠(kn:Int)) {d:Int} {en:En} (hfd:Tr.find t d=some en) {gd:Nat} (hpd:ptrOf gs t d=.pointer (some ⟨gd,0,none⟩)) (x:Bs)
    {av':Value} {w7:World} (ho:w7.ownsRow 0 90 1 av' (gs.take kn++g :: gs.drop kn).length (ptrCells (gs.take kn++g :: gs.drop kn))) (hg:w.grownBy w7 av.ownBlock) (hb:∀ b,av'.ownBlock=some b→av.ownBlock=some b∨w.heap.size≤b) :
    (w7.setCell ⟨p,0,none⟩ av').cell? ⟨g,0,none⟩=some (.int .i64 (kn:Int))∧∃ S1,EAt gd en S1 (w7.setCell ⟨p,0,none⟩ av') ∧
     ∀ w9,ETurn gd { en with names:=Tr.ins en.names x (kn:Int) } S1 (w7.setCell ⟨p,0,none⟩ av') (.returned (.tuple #[])) w9→w9.cell? ⟨g,0,none⟩=some (.int .i64 (kn:Int)) ∧
      ∃ S2,TAt (.pointer (some ⟨p,0,none⟩)) (Tr.put (Tr.insE t (Tr.fresh (kn:Int) kind)) d x (kn:Int)) S2 w9∧Mod w w9 (fun b=>TrS p av S b∨b=g)∧∀ b,S2 b→TrS p av S b∨b=g∨w.heap.size≤b:=by
 have hS1:∀ b,EnS g (.slice none 0 0) (.slice none 0 0) b→b=g:=by
  rintro b (rfl|h|h)
  ·rfl
  ·cases h
  ·cases h
 obtain ⟨S',h8,hm8,hs8⟩:=h6.insert hE.at_ hk (fun b hb1 hb2=>hgS b hb1 (hS1 b hb2)) ho hg hb
 have hris:Tr.Ris (Tr.insE t (Tr.fresh (kn:Int) kind)):=Tr.insE_ris hr hnew
 have hfi:=Tr.find_insE hr (n:=Tr.fresh (kn:Int) kind) hnew
 rw [← hins] at h8
 have hl:(gs.take kn).length=(t.take kn).length:=by rw [List.length_take,List.length_take,h6.each.len]
 have hfk:Tr.find (Tr.insE t (Tr.fresh (kn:Int) kind)) (kn:Int)=some (Tr.fresh (kn:Int) kind):=by rw [hfi];exact if_pos rfl
 have hdk:d≠(kn:Int):=fun e=>hnew en (Tr.find_some hfd).1 (by rw [(Tr.find_some hfd).2,e])
 have hfdd:Tr.find (Tr.insE t (Tr.fresh (kn:Int) kind)) d=some en:=by rw [hfi];exact (if_neg hdk).trans hfd
 have hpk:ptrOf (gs.take kn++g :: gs.drop kn) (Tr.insE t (Tr.fresh (kn:Int) kind)) (kn:Int)=.pointer (some ⟨g,0,none⟩):=by
  rw [hins]
  exact ptrOf_mid hl (fun a ha=>hnew a (List.mem_of_mem_take ha)) rfl
 have hpd2:ptrOf (gs.take kn++g :: gs.drop kn) (Tr.insE t (Tr.fresh (kn:Int) kind)) d=.pointer (some ⟨gd,0,none⟩):=by
  rw [hins,ptrOf_ins hl (fun e=>hdk e.symm),List.take_append_drop,List.take_append_drop,hpd]
 obtain ⟨g1,_,hp1,hE1,_,_⟩:=h8.turnAt hris hfk
 obtain rfl:g1=g:=ptr_inj (hp1.symm.trans hpk)
 obtain ⟨gd1,Sd,hp2,hEd,_,hto⟩:=h8.turnAt hris hfdd
 obtain rfl:gd1=gd:=ptr_inj (hp2.symm.trans hpd2)
 refine ⟨hE1.cells.1,Sd,hEd,?_⟩
 rintro w9 ⟨_,Sd',k1,k2,k3⟩
 have hfid:∀ e:En,({ e with names:=Tr.ins e.names x (kn:Int) }:En).nd.id=e.nd.id:=fun _=>rfl
 obtain ⟨S'',m1,m2,m3⟩:=hto w9 (fun e=>{ e with names:=Tr.ins e.names x (kn:Int) }) Sd' k1 k2 k3
 have hfk9:Tr.find (Tr.upd (Tr.insE t (Tr.fresh (kn:Int) kind)) d fun e=>{ e with names:=Tr.ins e.names x (kn:Int) }) (kn:Int)=some (Tr.fresh (kn:Int) kind):=by
  rw [Tr.find_upd hfid,hfk]
  simp only [Option.map_some,if_neg (fun e:(kn:Int)=d=>hdk e.symm)]
 obtain ⟨g2,_,hp3,hE3,_,_⟩:=m1.turnAt (Tr.upd_ris hris hfid) hfk9
 obtain rfl:g2=g1:=by
  rw [ptrOf_upd hfid] at hp3
  exact ptr_inj (hp3.symm.trans hpk)
 refine ⟨hE3.cells.1,_,m1.at_,?_,fun b hb2=>?_⟩
 ·refine ⟨m2.os.trans hm8.os,m2.tape.trans hm8.tape,m2.output.trans hm8.output,Nat.le_trans hm8.size m2.size,fun k hk2 hn=>(m2.block k (Nat.lt_of_lt_of_le hk2 hm8.size) fun h9=>?_).trans (hm8.block k hk2 fun h9=>hn (.inl h9))⟩
  rcases hs8 k h9 with h10|h10|h10
  ·exact hn (.inl h10)
  ·exact hn (.inr (hS1 k h10))
  ·omega
 ·rcases m3 b hb2 with h9|h9
  ·rcases hs8 b h9 with h10|h10|h10
   ·exact .inl h10
   ·exact .inr (.inl (hS1 b h10))
   ·exact .inr (.inr h10)
  ·exact .inr (.inr (Nat.le_trans hm8.size h9))
set_option maxHeartbeats 4000000 in
set_option maxRecDepth 100000 in
theorem make_any (h:TIn p av gs S t w) (hG:Tr.Good t) (A:Option Addr) (q:List Bs) (cap:Nat) (kind:Int) (hr:RdS w A q) (hc:q.length≤cap) (hl:q.length≤1000000) (hs:∀ s ∈ q,s.length≤1000000) :
    Calls Tryz.prog 32 #[.pointer (some ⟨p,0,none⟩),.slice A q.length cap,.int .i64 kind] w (TTurn p (Tr.make t q kind).2 (.tuple #[.int .i64 (Tr.make t q kind).1.1,.int .i64 ((Tr.make t q kind).1.2:Nat)]) (TrS p av S) w):=by
 obtain ⟨wa,hwa⟩:∃ wa,wa=w.alloc (.cells #[.slice A q.length cap] 29):=⟨_,rfl⟩
 have hba:Below w.heap.size w wa:=by rw [hwa];exact below_new w _
 have HFM:=Lib.hid (formed_one w A q cap hr hc hl hs)
 rw [← hwa] at HFM
 have HS:Hid (∀ x W,Below w.heap.size w W→TTurn p t x (TrS p av S) w (.returned x) W):=fun x W hW=>TTurn.stay h hW
 have HPL:=Lib.hid (place_any (h.below hba) hG A q cap (hr.below hba) hc hl)
 have HBA:=Lib.hid hba
 have H:=Lib.hid h
 have HG:=Lib.hid hG
 have HWA:=Lib.hid hwa
 obtain ⟨fm,hfm⟩:∃ fm,fm=Tr.formed q:=⟨_,rfl⟩
 rw [← hfm] at HFM
 have HFMV:=Lib.hid hfm
 have HSM:=Lib.hid hs
 obtain ⟨R,hR⟩:∃ R,R=Tr.make t q kind:=⟨_,rfl⟩
 rw [← hR]
 have HR:=Lib.hid hR
 clear h hG hr hba hfm hs hR
 go_enter Tryz.func32,Tryz.ntmps32
 go_wp2_with fail
 rw [← hwa]
 clear hwa
 refine HFM.out.mono ?_
 rintro e w1 ⟨rfl,rfl⟩
 by_cases hf:fm=0
 case neg =>
  have hfi:((fm:Int)==0)=false:=by rw [beq_eq_false_iff_ne];omega
  have HN:Hid (R=((0,fm),t)):=by
   have:=HFMV.out
   show _=_
   rw [HR.out]
   unfold Tr.make
   rw [← this,if_pos hf]
  clear hf
  go_wp2_with fail
  go_ret2
  rw [HN.out]
  exact HS.out _ _ HBA.out
 subst hf
 by_cases hk:kind=1∨kind=2
 case neg =>
  have hk1:(kind != 1)=true:=by rw [bne_iff_ne];omega
  have hk2:(kind != 2)=true:=by rw [bne_iff_ne];omega
  have HN:Hid (R=((0,30),t)):=by
   have:=HFMV.out
   show _=_
   rw [HR.out]
   unfold Tr.make
   rw [← this,if_neg (by simp),if_pos (by omega)]
  clear hk
  go_wp2_with fail
  go_ret2
  rw [HN.out]
  exact HS.out _ _ HBA.out
 have hmake1:R=if (Tr.place t q).2.2≠0 then ((0,(Tr.place t q).2.2),t) else if (Tr.get (Tr.kids t (Tr.place t q).1) (Tr.place t q).2.1).isSome then ((0,21),t) else if 64≤t.length then ((0,4),t) else ((Tr.free t,0),Tr.put (Tr.insE t (Tr.fresh (Tr.free t) kind)) (Tr.place t q).1 (Tr.place t q).2.1 (Tr.free t)):=by
  have:=HFMV.out
  rw [HR.out]
  conv=>lhs;unfold Tr.make
  rw [← this,if_neg (by simp),if_neg (by omega)]
 have HK1:=Lib.hid hmake1
 clear hmake1 HR
 rcases hk with rfl|rfl
 all_goals
  go_wp2_with fail
  refine HPL.out.mono ?_
  rintro e w2 ⟨rfl,hb2⟩
  have HB2:Hid (Below w.heap.size w w2):=HBA.out.trans (hb2.mono HBA.out.size)
  clear hb2
  by_cases hp0:(Tr.place t q).2.2=0
  case neg =>
   obtain ⟨pn,hpn⟩:∃ pn,pn=(Tr.place t q).2.2:=⟨_,rfl⟩
   have HN:Hid (R=((0,pn),t)):=by
    have:=HK1.out
    rw [if_pos hp0,← hpn] at this
    exact this
   have hpi:((pn:Int)==0)=false:=by rw [beq_eq_false_iff_ne];omega
   unfold placeV
   rw [if_neg hp0,← hpn]
   obtain ⟨px,hpx⟩:∃ px,px=(Tr.place t q).2.1:=⟨_,rfl⟩
   rw [← hpx]
   clear hp0 hpn hpx
   go_wp2_with fail
   go_ret2
   rw [HN.out]
   exact HS.out _ _ HB2.out
  obtain ⟨r,x,en,hq,hlk,hx,hfd,hkd,hplace⟩:=Tr.place_is HG.out hp0
  obtain ⟨d,hd⟩:∃ d,d=en.nd.id:=⟨_,rfl⟩
  rw [hplace] at hfd
  rw [← hd] at hplace hfd
  simp only at hfd
  have H2:=Lib.hid (H.out.below HB2.out)
  obtain ⟨gd,Sd,hpd,hEd,_,hnl⟩:=H2.out.ptr HG.out hfd
  have HHAS:=Lib.hid (has_any hEd x (by omega))
  have HPV:Hid (placeV gs t q=.tuple #[.pointer (some ⟨gd,0,none⟩),.string (strOf x),.int .i64 0]):=by
   show _=_
   unfold placeV
   rw [hplace]
   simp only [if_true,hpd];rfl
  have hxl:x.length≤1000000:=HSM.out x (by rw [hq];simp)
  have hK2:=HK1.out
  rw [hplace] at hK2
  simp only [ne_eq,not_true_eq_false,if_false] at hK2
  rw [Tr.kids_of hfd] at hK2
  have HK2:=Lib.hid hK2
  have HFD:=Lib.hid hfd
  have HPD:=Lib.hid hpd
  have HNL:=Lib.hid hnl
  have HXL:=Lib.hid hxl
  rw [HPV.out]
  obtain ⟨o,ho⟩:∃ o,o=(Tr.get en.names x).isSome:=⟨_,rfl⟩
  rw [← ho] at HHAS HK2
  have HO:=Lib.hid ho
  clear hp0 hq hlk hx hfd hkd hplace hpd hEd hK2 hnl hxl ho hd
  go_wp2_with fail
  refine HHAS.out.mono ?_
  rintro e w3 ⟨rfl,hb3⟩
  have HB3:Hid (Below w.heap.size w w3):=HB2.out.trans (hb3.mono HB2.out.size)
  clear hb3
  cases o
  case true =>
   have HN:Hid (R=((0,21),t)):=HK2.out
   go_wp2_with fail
   go_ret2
   rw [HN.out]
   exact HS.out _ _ HB3.out
  have HCN:=Lib.hid (count_any (H.out.below HB3.out))
  go_wp2_with fail
  refine HCN.out.mono ?_
  rintro e w4 ⟨rfl,rfl⟩
  by_cases h64:(64:Int)≤(t.length:Int)
  case pos =>
   have HN:Hid (R=((0,4),t)):=by
    have:=HK2.out
    rw [if_neg (by simp),if_pos (by omega)] at this
    exact this
   go_wp2_with fail
   go_ret2
   rw [HN.out]
   exact HS.out _ _ HB3.out
  have hN:=HK2.out
  rw [if_neg (by simp),if_neg (by omega)] at hN
  obtain ⟨kn,hkn,hknl,hkfree,hklo,hkhi⟩:=Tr.freeFrom_spec t HG.out.ris 0 (fun e he=>(HG.out.each e he).nd.1)
  rw [Int.zero_add] at hkn
  have hfree:Tr.free t=(kn:Int):=hkn
  rw [hfree] at hN
  have HN:=Lib.hid hN
  have H3:=Lib.hid (H.out.below HB3.out)
  have HFR:=Lib.hid (free_any H3.out (by omega))
  rw [hfree] at HFR
  have HFS:=Lib.hid (fun W k=>fresh_any W (kn:Int) k)
  have HINS:Hid ((∀ kind,Tr.insE t (Tr.fresh (kn:Int) kind)=t.take kn++Tr.fresh (kn:Int) kind :: t.drop kn)∧kn≤t.length∧(∀ e ∈ t,e.nd.id≠(kn:Int))):=by
   refine ⟨fun kind=>insE_take hknl (fun j e hj he=>?_) (fun e he=>?_),hknl,fun e he=>by have:=hkfree e he;omega⟩
   ·have h1:=hklo j hj
    rw [he] at h1
    simp only [Option.map_some,Option.some.injEq,Int.zero_add] at h1
    show e.nd.id<(kn:Int)
    omega
   ·have h1:=hkhi kn (Nat.le_refl _) e he
    show ¬ e.nd.id<(kn:Int)
    omega
  clear hkn hknl hkfree hklo hkhi hfree hN
  go_wp2_with fail
  refine HFR.out.mono ?_
  rintro e w5 ⟨rfl,rfl⟩
  go_wp2_with fail
  refine (HFS.out w5 _).mono ?_
  rintro e w6 ⟨g,rfl,hE,hg,hb6⟩
  have HB6:Hid (Below w.heap.size w w6):=HB3.out.trans (hb6.mono HB3.out.size)
  have HE:=Lib.hid hE
  have HGN:Hid (w.heap.size≤g):=by show _≤_;have:=HB3.out.size;omega
  clear hE hb6 hg
  have H6:=H.out.below HB6.out
  have h6:=H6.box.cell 0
  have hap:=H6.apart
  obtain ⟨A0,c0,hav,hc0,_⟩:=own_form H6.row
  obtain ⟨gs',hgs'⟩:∃ gs',gs'=gs.take kn++g :: gs.drop kn:=⟨_,rfl⟩
  have hHI:∀ W,Below w6.heap.size w6 W→W.heap.size=w6.heap.size→Calls Tryz.prog 90 #[av,.int .i64 (kn:Nat),.slice (some ⟨w6.heap.size,0,none⟩) 1 1] (W.alloc (.cells #[.pointer (some ⟨g,0,none⟩)] 90)) fun r w'=>∃ v',r=.returned v'∧w'.ownsRow 0 90 1 v' gs'.length (ptrCells gs')∧w6.grownBy w' av.ownBlock∧∀ b,v'.ownBlock=some b→av.ownBlock=some b∨w6.heap.size≤b:=fun W hW hsz=>by
   have hb2:Below w6.heap.size w6 (W.alloc (.cells #[.pointer (some ⟨g,0,none⟩)] 90)):=hW.alloc hW.size _
   have hblk:Blk (W.alloc (.cells #[.pointer (some ⟨g,0,none⟩)] 90)) w6.heap.size 90 [.pointer (some ⟨g,0,none⟩)]:=by rw [← hsz];exact Blk.new W _ _
   have hlen:=H6.each.len
   refine (insPt_any _ 0 av gs.length kn (ptrCells gs) [.pointer (some ⟨g,0,none⟩)] (own_keep H6.row fun b hb3=>hb2.block b (own_blk H6.row hb3).2.1) (Nat.zero_le _) (by have:=HINS.out.2.1;omega) (by have:=HG.out.few;omega) (fun u hu=>by obtain ⟨y,_,rfl⟩:=List.mem_map.1 hu;rfl) w6.heap.size hblk (fun e2=>by have:=(own_blk H6.row e2).2.1;omega) rfl (fun u hu=>by simp at hu;rw [hu];rfl)).mono ?_
   rintro r w' ⟨v',rfl,h1,h2,h3⟩
   refine ⟨v',rfl,?_,⟨h2.os.trans hb2.os,h2.tape.trans hb2.tape,h2.output.trans hb2.output,Nat.le_trans hb2.size h2.size,fun b hlt hne=>(h2.block b (Nat.lt_of_lt_of_le hlt hb2.size) hne).trans (hb2.block b hlt)⟩,fun b hb3=>(h3 b hb3).imp id fun h4=>Nat.le_trans hb2.size h4⟩
   have e1:ptrCells (gs.take kn++g :: gs.drop kn)=(ptrCells gs).take kn++([.pointer (some ⟨g,0,none⟩)]++(ptrCells gs).drop kn):=by
    rw [ptrCells_append,ptrCells_take,← ptrCells_drop];rfl
   have e2:(gs.take kn++g :: gs.drop kn).length=gs.length+1:=by
    rw [List.length_append,List.length_cons,List.length_take,List.length_drop]
    have:=HINS.out.2.1;omega
   rw [hgs',e1,e2]
   simpa using h1
  have hfr:∀ w7,w6.grownBy w7 av.ownBlock→w7.cell? ⟨p,0,none⟩=some av∧w7.frozen? ⟨p,0,none⟩=false:=fun w7 hg7=>by
   have h7:Blk w7 p 113 [av]:=(hg7.block p H6.box.lt fun e2=>(hap.2 p e2.symm).2 rfl).trans H6.box
   exact ⟨h7.cell 0,h7.frozen 0⟩
  have hmp:=fun (av':Value) (w7:World) (ho:w7.ownsRow 0 90 1 av' gs'.length (ptrCells gs')) (hg:w6.grownBy w7 av.ownBlock) (hb:∀ b,av'.ownBlock=some b→av.ownBlock=some b∨w6.heap.size≤b)=>make_put H6 HG.out.ris HE.out (fun b hb2 e2=>by have:=H.out.lt hb2;have:=HGN.out;omega) HINS.out.2.1 (HINS.out.1 _) HINS.out.2.2 HFD.out HPD.out x (av':=av') (w7:=w7) (by rw [← hgs'];exact ho) hg hb
  have hHI2:∀ W,Below w6.heap.size w6 W→W.heap.size=w6.heap.size→Calls Tryz.prog 90 #[.slice A0 gs.length c0,.int .i64 (kn:Nat),.slice (some ⟨w6.heap.size,0,none⟩) 1 1] (W.alloc (.cells #[.pointer (some ⟨g,0,none⟩)] 90)) fun r w'=>∃ v',r=.returned v'∧w'.ownsRow 0 90 1 v' gs'.length (ptrCells gs')∧w6.grownBy w' av.ownBlock∧∀ b,v'.ownBlock=some b→av.ownBlock=some b∨w6.heap.size≤b:=by
   rw [← hav];exact hHI
  have HHI:=Lib.hid hHI2
  have HMP:=Lib.hid hmp
  rw [hav] at h6
  have e0:=HE.out.at_.cells.1
  have e0':w6.cell? ⟨g,0,none⟩=some (.int .i64 (kn:Int)):=e0
  have HAV:=Lib.hid hav
  have h6a:=fun o=>cell_alloc o h6
  have e0a:=fun o=>cell_alloc o e0'
  have hfr2:∀ w7,w6.grownBy w7 av.ownBlock→w7.cell? ⟨p,0,none⟩=some (.slice A0 gs.length c0)∧w7.frozen? ⟨p,0,none⟩=false:=by rw [← hav];exact hfr
  have HFRZ:=Lib.hid hfr2
  clear hHI hHI2 hfr hfr2 hmp hap H6 e0 hav hgs'
  go_wp2_with fail
  go_region_with (go_at_call 90;refine (HHI.out w6.drew (by exact ⟨rfl,rfl,rfl,Nat.le_refl _,fun _ _=>rfl⟩) (by rfl)).mono ?_;rintro e2 w7 ⟨v7,rfl,ho,hgr,hbl⟩;obtain ⟨A9,c9,hv9,_,_⟩:=own_form ho;subst hv9;have HO7:=Lib.hid ho;have HG7:=Lib.hid hgr;have HB7:=Lib.hid hbl;obtain ⟨hc7,hf7⟩:=HFRZ.out w7 hgr;clear ho hgr hbl)
  all_goals
   obtain ⟨k1,S1,k2,k3⟩:=HMP.out _ w7 HO7.out HG7.out HB7.out
   have HPUT:=Lib.hid (put_any cloneSaid k2 x (kn:Int) (by have:=HNL.out;omega) HXL.out)
   have K3:=Lib.hid k3
   clear k2 k3
   go_wp2_with fail
   refine HPUT.out.mono ?_
   rintro e w9 hT
   have hTe:=hT.1
   subst hTe
   obtain ⟨k4,S2,k5,k6,k7⟩:=K3.out w9 hT
   have K5:=Lib.hid k5
   have K6:=Lib.hid k6
   have K7:=Lib.hid k7
   clear k5 k6 k7 hT
   go_wp2_with fail
   go_ret2
   rw [HN.out]
   refine ⟨rfl,S2,K5.out,?_,fun b hb=>?_⟩
   ·have hb6:=HB6.out
    have hm:=K6.out
    refine ⟨hm.os.trans hb6.os,hm.tape.trans hb6.tape,hm.output.trans hb6.output,Nat.le_trans hb6.size hm.size,fun k hk hn=>(hm.block k (Nat.lt_of_lt_of_le hk hb6.size) fun h9=>?_).trans (hb6.block k hk)⟩
    rcases h9 with h9|h9
    ·exact hn h9
    ·have:=HGN.out;omega
   ·rcases K7.out b hb with h9|h9|h9
    ·exact .inl h9
    ·exact .inr (by rw [h9];exact HGN.out)
    ·exact .inr (Nat.le_trans HB6.out.size h9)
end Tm
end Go.Proofs.YtbnpgakmhhfjkaaGreatDoor
namespace Go.Proofs.YtbnpgakmhhfjkaaGreatDoor
open Go.RowKit Rc
open Tr (Nm En T)
namespace Tm
variable {p:Nat} {av:Value} {gs:List Nat} {S:Nat→Prop} {t t1:T} {w w1:World}
def Went (p:Nat) (av:Value) (gs:List Nat) (S:Nat→Prop) (w:World) (t':T) (w':World):Prop:=∃ S',TIn p av gs S' t' w'∧Mod w w' (TrS p av S)∧∀ b,TrS p av S' b→TrS p av S b∨w.heap.size≤b
theorem Went.start (h:TIn p av gs S t w) (hb:Below w.heap.size w w1):Went p av gs S w t w1:=⟨S,h.below hb,Mod.of_below hb _,fun _ h=>.inl h⟩
theorem Went.below {w2:World} (h:Went p av gs S w t w1) (hb:Below w1.heap.size w1 w2):Went p av gs S w t w2:=by
 obtain ⟨S',h1,h2,h3⟩:=h
 exact ⟨S',h1.below hb,⟨hb.os.trans h2.os,hb.tape.trans h2.tape,hb.output.trans h2.output,Nat.le_trans h2.size hb.size,fun k hk hn=>(hb.block k (Nat.lt_of_lt_of_le hk h2.size)).trans (h2.block k hk hn)⟩,h3⟩
theorem mod_trans {S0 S1:Nat→Prop} {a b c:World} (h:Mod a b S0) (hs:∀ k,S1 k→S0 k∨a.heap.size≤k) (h2:Mod b c S1):Mod a c S0 :=
 ⟨h2.os.trans h.os,h2.tape.trans h.tape,h2.output.trans h.output,Nat.le_trans h.size h2.size,fun k hk hn=>(h2.block k (Nat.lt_of_lt_of_le hk h.size) fun h8=>(hs k h8).elim hn fun h9=>absurd hk (Nat.not_lt.2 h9)).trans (h.block k hk hn)⟩
theorem Went.entry (h:Went p av gs S w t w1) (hr:Tr.Ris t) {i:Int} {e:En} (hf:Tr.find t i=some e):∃ g S1,ptrOf gs t i=.pointer (some ⟨g,0,none⟩)∧EAt g e S1 w1 ∧
    ∀ w2 (f:En→En) S1',EAt g (f e) S1' w2→Mod w1 w2 S1→(∀ b,S1' b→S1 b∨w1.heap.size≤b)→Went p av gs S w (Tr.upd t i f) w2:=by
 obtain ⟨S',h1,h2,h3⟩:=h
 obtain ⟨g,S1,k1,k2,k3,k4⟩:=h1.turnAt hr hf
 refine ⟨g,S1,k1,k2,fun w2 f S1' m1 m2 m3=>?_⟩
 obtain ⟨S'',n1,n2,n3⟩:=k4 w2 f S1' m1 m2 m3
 exact ⟨S'',n1,mod_trans h2 h3 n2,fun b hb=>(n3 b hb).elim (h3 b) fun h8=>.inr (Nat.le_trans h2.size h8)⟩
theorem Went.done (h:Went p av gs S w t w1) (x:Value):TTurn p t x (TrS p av S) w (.returned x) w1:=by
 obtain ⟨S',h1,h2,h3⟩:=h
 exact ⟨rfl,_,h1.at_,h2,h3⟩
theorem Went.remove (h:Went p av gs S w t w1) (hr:Tr.Ris t) (hlt:t.length≤1000000) {i:Int} {e:En} (hf:Tr.find t i=some e) (y:Value) :
    Calls Tryz.prog 106 #[.pointer (some ⟨p,0,none⟩),.int .i64 i] w1 fun r w2=>r=.returned (.tuple #[])∧TTurn p (Tr.remove t i) y (TrS p av S) w (.returned y) w2:=by
 obtain ⟨S',h1,h2,h3⟩:=h
 refine (remove_any h1 hr hlt hf).mono ?_
 rintro r w2 ⟨rfl,S2,n1,n2,n3⟩
 exact ⟨rfl,rfl,S2,n1,mod_trans h2 h3 n2,fun b hb=>(n3 b hb).elim (h3 b) fun h8=>.inr (Nat.le_trans h2.size h8)⟩
theorem Went.put (h:Went p av gs S w t w1) (hr:Tr.Ris t) {d:Int} {en:En} (hf:Tr.find t d=some en) {g:Nat} (hp:ptrOf gs t d=.pointer (some ⟨g,0,none⟩)) (x:Bs) (k:Int) (hlt:en.names.length≤900000000) (hx:x.length≤1000000) :
    Calls Tryz.prog 91 #[.pointer (some ⟨g,0,none⟩),.string (strOf x),.int .i64 k] w1 fun r w2=>r=.returned (.tuple #[])∧Went p av gs S w (Tr.put t d x k) w2:=by
 obtain ⟨g',S1,h1,h2,h3⟩:=h.entry hr hf
 obtain rfl:g'=g:=ptr_inj (h1.symm.trans hp)
 refine (put_any cloneSaid h2 x k hlt hx).mono ?_
 rintro r w2 ⟨rfl,S1',m1,m2,m3⟩
 exact ⟨rfl,h3 w2 (fun e=>{ e with names:=Tr.ins e.names x k }) S1' m1 m2 m3⟩
theorem Went.drop (h:Went p av gs S w t w1) (hr:Tr.Ris t) {d:Int} {en:En} (hf:Tr.find t d=some en) {g:Nat} (hp:ptrOf gs t d=.pointer (some ⟨g,0,none⟩)) (x:Bs) (hlt:en.names.length≤900000000) :
    Calls Tryz.prog 105 #[.pointer (some ⟨g,0,none⟩),.string (strOf x)] w1 fun r w2=>r=.returned (.tuple #[])∧Went p av gs S w (Tr.cut t d x) w2:=by
 obtain ⟨g',S1,h1,h2,h3⟩:=h.entry hr hf
 obtain rfl:g'=g:=ptr_inj (h1.symm.trans hp)
 refine (drop_any h2 x (by omega)).mono ?_
 rintro r w2 ⟨rfl,S1',m1,m2,m3⟩
 exact ⟨rfl,h3 w2 (fun e=>{ e with names:=Tr.del e.names x }) S1' m1 m2 m3⟩
theorem Went.links (h:Went p av gs S w t w1) (hr:Tr.Ris t) {i:Int} {e:En} (hf:Tr.find t i=some e) {g:Nat} (hp:ptrOf gs t i=.pointer (some ⟨g,0,none⟩)) :
    w1.cell? ⟨g,0,none⟩=some (.int .i64 e.nd.id)∧w1.cell? ⟨g,2,none⟩=some (.int .i64 e.nd.links)∧w1.cell? ⟨g,5,none⟩=some (.bool e.nd.shut)∧w1.frozen? ⟨g,2,none⟩=false∧∀ k:Int,Went p av gs S w (Tr.more t i k) (w1.setCell ⟨g,2,none⟩ (.int .i64 (e.nd.links+k))):=by
 obtain ⟨g',S1,h1,h2,h3⟩:=h.entry hr hf
 obtain rfl:g'=g:=ptr_inj (h1.symm.trans hp)
 obtain ⟨c0,_,c2,_,_,c5⟩:=h2.cells
 obtain ⟨dv,nv,hE,rfl⟩:=h2
 refine ⟨c0,c2,c5,hE.box.frozen 2,fun k=>?_⟩
 obtain ⟨m1,m2⟩:=hE.poke (e':={ e with nd:={ e.nd with links:=e.nd.links+k } }) (i:=2) (u:=.int .i64 (e.nd.links+k)) rfl rfl rfl
 exact h3 _ (fun e=>{ e with nd:={ e.nd with links:=e.nd.links+k } }) _ m1 m2 fun b hb=>.inl hb
theorem formed_two (w:World) (A B:Option Addr) (q r:List Bs) (cap cap2:Nat) (hr:RdS w A q) (hc:q.length≤cap) (hl:q.length≤1000000) (hs:∀ s ∈ q,s.length≤1000000) (hr2:RdS w B r) (hc2:r.length≤cap2) (hl2:r.length≤1000000) (hs2:∀ s ∈ r,s.length≤1000000) :
    Calls Tryz.prog 84 #[.slice (some ⟨w.heap.size,0,none⟩) 2 2] (w.alloc (.cells #[.slice A q.length cap,.slice B r.length cap2] 29)) fun e w'=>e=.returned (.int .i64 ((if Tr.formed q≠0 then Tr.formed q else Tr.formed r):Nat))∧w'=w.alloc (.cells #[.slice A q.length cap,.slice B r.length cap2] 29):=by
 have h:=formed_any _ _ [q,r] 2 (rdP_two w q r A B cap cap2 29 hc hr hc2 hr2) (by simp) (fun p hp=>by
  simp only [List.mem_cons,List.not_mem_nil,or_false] at hp
  rcases hp with rfl|rfl
  ·exact ⟨hl,fun s h=>by have:=hs s h;omega⟩
  ·exact ⟨hl2,fun s h=>by have:=hs2 s h;omega⟩)
 have e:formedL [q,r]=if Tr.formed q≠0 then Tr.formed q else Tr.formed r:=by
  unfold formedL
  split
  ·rfl
  ·unfold formedL
   split
   ·rfl
   ·rename_i h1
    rw [Decidable.byContradiction h1];rfl
 rw [e] at h
 exact h
def fileAtN (t:T) (q:List Bs):Nat:=if (Tr.lookF t 0 q).2≠0 then (Tr.lookF t 0 q).2 else if Tr.kindOf t (Tr.lookF t 0 q).1=2 then 22 else 0
def fileAtV (gs:List Nat) (t:T) (q:List Bs) (n:Nat):Value:=.tuple #[if n=0 then ptrOf gs t (Tr.lookF t 0 q).1 else .pointer none,.int .i64 (n:Nat)]
set_option maxHeartbeats 1000000 in
set_option maxRecDepth 100000 in
theorem fileAt_any (h:TIn p av gs S t w) (hG:Tr.Good t) (A:Option Addr) (q:List Bs) (cap:Nat) (hr:RdS w A q) (hl:q.length≤1000000) :
    Calls Tryz.prog 101 #[.pointer (some ⟨p,0,none⟩),.slice A q.length cap] w fun e w'=>e=.returned (fileAtV gs t q (fileAtN t q))∧Below w.heap.size w w':=by
 have HA:=Lib.hid (at_any h hG A q cap hr hl)
 by_cases h0:(Tr.lookF t 0 q).2=0
 ·obtain ⟨e,he⟩:=Option.isSome_iff_exists.1 (hG.look_is h0)
  have HV:Hid (fileAtV gs t q 0=.tuple #[ptrOf gs t (Tr.lookF t 0 q).1,.int .i64 0]):=by
   show _=_
   unfold fileAtV
   rw [if_pos rfl];rfl
  have hp:ptrAt gs t q=ptrOf gs t (Tr.lookF t 0 q).1:=by unfold ptrAt;rw [if_pos h0]
  rw [hp,h0] at HA
  have HW:=Lib.hid (fun W (hW:Below w.heap.size w W)=>(h.below hW).ptr hG he)
  obtain ⟨g,S1,hpp,_⟩:=h.ptr hG he
  rw [hpp] at HA HV
  have HPP:=Lib.hid hpp
  by_cases h2:e.nd.kind=2
  ·have HN:Hid (fileAtN t q=22):=by
    show _=_
    unfold fileAtN
    rw [if_neg (by rw [h0];simp),Tr.kindOf_of he,if_pos h2]
   have hk:(e.nd.kind==2)=true:=by simpa using h2
   rw [HN.out]
   clear h hG hr he hp hpp h0 h2
   go_enter Tryz.func101,Tryz.ntmps101
   go_wp2_with fail
   refine HA.out.mono ?_
   rintro e1 w1 ⟨rfl,hb⟩
   obtain ⟨g1,S2,hp1,hE,_,_⟩:=HW.out w1 hb
   obtain rfl:g1=g:=ptr_inj (hp1.symm.trans HPP.out)
   have c1:=hE.cells.2.1
   have HB:=Lib.hid hb
   clear hb hE hp1
   go_wp2_with fail
   go_ret2
   exact ⟨rfl,HB.out⟩
  ·have HN:Hid (fileAtN t q=0):=by
    show _=_
    unfold fileAtN
    rw [if_neg (by rw [h0];simp),Tr.kindOf_of he,if_neg h2]
   have hk:(e.nd.kind==2)=false:=by simpa using h2
   rw [HN.out]
   clear h hG hr he hp hpp h0 h2
   go_enter Tryz.func101,Tryz.ntmps101
   go_wp2_with fail
   refine HA.out.mono ?_
   rintro e1 w1 ⟨rfl,hb⟩
   obtain ⟨g1,S2,hp1,hE,_,_⟩:=HW.out w1 hb
   obtain rfl:g1=g:=ptr_inj (hp1.symm.trans HPP.out)
   have c1:=hE.cells.2.1
   have HB:=Lib.hid hb
   clear hb hE hp1
   go_wp2_with fail
   go_ret2
   exact ⟨(congrArg Ending.returned HV.out).symm,HB.out⟩
 ·have HN:Hid (fileAtN t q=(Tr.lookF t 0 q).2):=by
   show _=_
   unfold fileAtN
   rw [if_pos h0]
  have hp:ptrAt gs t q=.pointer none:=by unfold ptrAt;rw [if_neg h0]
  rw [hp] at HA
  rw [HN.out]
  obtain ⟨n,hn⟩:∃ n,n=(Tr.lookF t 0 q).2:=⟨_,rfl⟩
  rw [← hn] at HA h0 ⊢
  have HV:Hid (fileAtV gs t q n=.tuple #[.pointer none,.int .i64 (n:Nat)]):=by
   show _=_
   unfold fileAtV
   rw [if_neg h0]
  have hni:((n:Int)==0)=false:=by rw [beq_eq_false_iff_ne];omega
  clear h hG hr h0 hp hn
  go_enter Tryz.func101,Tryz.ntmps101
  go_wp2_with fail
  refine HA.out.mono ?_
  rintro e1 w1 ⟨rfl,hb⟩
  have HB:=Lib.hid hb
  clear hb
  go_wp2_with fail
  go_ret2
  exact ⟨(congrArg Ending.returned HV.out).symm,HB.out⟩
set_option maxHeartbeats 4000000 in
set_option maxRecDepth 100000 in
theorem link_any (h:TIn p av gs S t w) (hG:Tr.Good t) (A B:Option Addr) (q r:List Bs) (cap cap2:Nat) (hr:RdS w A q) (hc:q.length≤cap) (hl:q.length≤1000000) (hs:∀ s ∈ q,s.length≤1000000) (hr2:RdS w B r) (hc2:r.length≤cap2) (hl2:r.length≤1000000) (hs2:∀ s ∈ r,s.length≤1000000) :
    Calls Tryz.prog 44 #[.pointer (some ⟨p,0,none⟩),.slice A q.length cap,.slice B r.length cap2] w (TTurn p (Tr.link t q r).2 (.int .i64 ((Tr.link t q r).1:Nat)) (TrS p av S) w):=by
 obtain ⟨wa,hwa⟩:∃ wa,wa=w.alloc (.cells #[.slice A q.length cap,.slice B r.length cap2] 29):=⟨_,rfl⟩
 have hba:Below w.heap.size w wa:=by rw [hwa];exact below_new w _
 have HFM:=Lib.hid (formed_two w A B q r cap cap2 hr hc hl hs hr2 hc2 hl2 hs2)
 rw [← hwa] at HFM
 have HS:Hid (∀ x W,Below w.heap.size w W→TTurn p t x (TrS p av S) w (.returned x) W):=fun x W hW=>TTurn.stay h hW
 have HFA:=Lib.hid (fileAt_any (h.below hba) hG A q cap (hr.below hba) hl)
 have HPL:=Lib.hid (fun W (hW:Below w.heap.size w W)=>place_any (h.below hW) hG B r cap2 (hr2.below hW) hc2 hl2)
 have HBA:=Lib.hid hba
 have H:=Lib.hid h
 have HG:=Lib.hid hG
 obtain ⟨R,hR⟩:∃ R,R=Tr.link t q r:=⟨_,rfl⟩
 rw [← hR]
 obtain ⟨fm,hfm⟩:∃ fm,fm=if Tr.formed q≠0 then Tr.formed q else Tr.formed r:=⟨_,rfl⟩
 rw [← hfm] at HFM
 have hR1:R=if fm≠0 then (fm,t) else if (Tr.lookF t 0 q).2≠0 then ((Tr.lookF t 0 q).2,t)
     else if Tr.kindOf t (Tr.lookF t 0 q).1=2 then (22,t) else if (Tr.place t r).2.2≠0 then ((Tr.place t r).2.2,t)
     else if (Tr.get (Tr.kids t (Tr.place t r).1) (Tr.place t r).2.1).isSome then (21,t) else if 64≤(Tr.ndOf t (Tr.lookF t 0 q).1).links then (4,t)
     else (0,Tr.more (Tr.put t (Tr.place t r).1 (Tr.place t r).2.1 (Tr.lookF t 0 q).1) (Tr.lookF t 0 q).1 1):=by
  rw [hR,hfm]
  unfold Tr.link
  by_cases h1:Tr.formed q=0
  ·simp only [h1,ne_eq,not_true_eq_false,if_false]
  ·simp only [h1,ne_eq,not_false_eq_true,if_true]
 have HR1:=Lib.hid hR1
 have HSM:=Lib.hid hs2
 clear h hG hr hr2 hba hfm hs hs2 hR hR1
 go_enter Tryz.func44,Tryz.ntmps44
 go_wp2_with fail
 rw [← hwa]
 clear hwa
 refine HFM.out.mono ?_
 rintro e w1 ⟨rfl,rfl⟩
 by_cases hf:fm=0
 case neg =>
  have hfi:((fm:Int)==0)=false:=by rw [beq_eq_false_iff_ne];omega
  have HN:Hid (R=(fm,t)):=by
   have:=HR1.out
   rw [if_pos hf] at this
   exact this
  clear hf
  go_wp2_with fail
  go_ret
  rw [HN.out]
  exact HS.out _ _ HBA.out
 subst hf
 have hR2:=HR1.out
 rw [if_neg (by simp)] at hR2
 have HR2:=Lib.hid hR2
 clear hR2 HR1
 go_wp2_with fail
 refine HFA.out.mono ?_
 rintro e w2 ⟨rfl,hb2⟩
 have HB2:Hid (Below w.heap.size w w2):=HBA.out.trans (hb2.mono HBA.out.size)
 clear hb2
 by_cases hfa:fileAtN t q=0
 case neg =>
  obtain ⟨n,hn⟩:∃ n,n=fileAtN t q:=⟨_,rfl⟩
  have HN:Hid (R=(n,t)):=by
   have:=HR2.out
   unfold fileAtN at hn hfa
   by_cases h1:(Tr.lookF t 0 q).2=0
   ·rw [if_neg (by rw [h1];simp)] at hn hfa this
    split at hfa
    ·rename_i h2
     rw [if_pos h2] at hn this
     rw [hn];exact this
    ·exact absurd rfl hfa
   ·rw [if_pos h1] at hn this
    rw [hn];exact this
  unfold fileAtV
  rw [← hn] at hfa ⊢
  rw [if_neg hfa]
  have hni:((n:Int)==0)=false:=by rw [beq_eq_false_iff_ne];omega
  clear hfa hn
  go_wp2_with fail
  go_ret
  rw [HN.out]
  exact HS.out _ _ HB2.out
 obtain ⟨h1,h2⟩:(Tr.lookF t 0 q).2=0∧Tr.kindOf t (Tr.lookF t 0 q).1≠2:=by
  unfold fileAtN at hfa
  split at hfa
  ·rename_i h1;exact absurd hfa h1
  ·rename_i h1
   split at hfa
   ·cases hfa
   ·rename_i h2;exact ⟨Decidable.byContradiction h1,h2⟩
 obtain ⟨ef,hef⟩:=Option.isSome_iff_exists.1 (HG.out.look_is h1)
 obtain ⟨i,hi⟩:∃ i,i=(Tr.lookF t 0 q).1:=⟨_,rfl⟩
 obtain ⟨gf,Sf,hpf,hEf,_,_⟩:=(H.out.below HB2.out).ptr HG.out hef
 have hR3:=HR2.out
 rw [if_neg (by rw [h1];simp),if_neg h2] at hR3
 rw [← hi] at hef hpf hR3 h2
 rw [Tr.ndOf_of hef] at hR3
 have HV:Hid (fileAtV gs t q (fileAtN t q)=.tuple #[.pointer (some ⟨gf,0,none⟩),.int .i64 0]):=by
  show _=_
  unfold fileAtV
  rw [hfa,if_pos rfl,← hi,hpf];rfl
 rw [HV.out]
 rw [Tr.kindOf_of hef] at h2
 have HR3:=Lib.hid hR3
 have HEF:=Lib.hid hef
 have HPF:=Lib.hid hpf
 have HK2:=Lib.hid h2
 clear hfa h1 h2 hef hi hpf hEf hR3 HV HR2
 go_wp2_with fail
 refine (HPL.out w2 HB2.out).mono ?_
 rintro e w3 ⟨rfl,hb3⟩
 have HB3:Hid (Below w.heap.size w w3):=HB2.out.trans (hb3.mono HB2.out.size)
 clear hb3
 by_cases hp0:(Tr.place t r).2.2=0
 case neg =>
  obtain ⟨pn,hpn⟩:∃ pn,pn=(Tr.place t r).2.2:=⟨_,rfl⟩
  have HN:Hid (R=(pn,t)):=by
   have:=HR3.out
   rw [if_pos hp0,← hpn] at this
   exact this
  have hpi:((pn:Int)==0)=false:=by rw [beq_eq_false_iff_ne];omega
  unfold placeV
  rw [if_neg hp0,← hpn]
  obtain ⟨px,hpx⟩:∃ px,px=(Tr.place t r).2.1:=⟨_,rfl⟩
  rw [← hpx]
  clear hp0 hpn hpx
  go_wp2_with fail
  go_ret
  rw [HN.out]
  exact HS.out _ _ HB3.out
 obtain ⟨r1,x,en,hq,hlk,hx,hfd,hkd,hplace⟩:=Tr.place_is HG.out hp0
 obtain ⟨d,hd⟩:∃ d,d=en.nd.id:=⟨_,rfl⟩
 rw [hplace] at hfd
 rw [← hd] at hplace hfd
 simp only at hfd
 obtain ⟨gd,Sd,hpd,hEd,_,hnl⟩:=(H.out.below HB3.out).ptr HG.out hfd
 have HHAS:=Lib.hid (has_any hEd x (by omega))
 have HPV:Hid (placeV gs t r=.tuple #[.pointer (some ⟨gd,0,none⟩),.string (strOf x),.int .i64 0]):=by
  show _=_
  unfold placeV
  rw [hplace]
  simp only [if_true,hpd];rfl
 have hxl:x.length≤1000000:=HSM.out x (by rw [hq];simp)
 have hR4:=HR3.out
 rw [hplace] at hR4
 simp only [ne_eq,not_true_eq_false,if_false] at hR4
 rw [Tr.kids_of hfd] at hR4
 have HFD:=Lib.hid hfd
 have HPD:=Lib.hid hpd
 have HNL:=Lib.hid hnl
 have HXL:=Lib.hid hxl
 have HKD:=Lib.hid hkd
 rw [HPV.out]
 obtain ⟨o,ho⟩:∃ o,o=(Tr.get en.names x).isSome:=⟨_,rfl⟩
 rw [← ho] at HHAS hR4
 have HR4:=Lib.hid hR4
 clear hp0 hq hlk hx hfd hkd hplace hpd hEd hR4 hnl hxl ho hd HR3
 go_wp2_with fail
 refine HHAS.out.mono ?_
 rintro e w4 ⟨rfl,hb4⟩
 have HB4:Hid (Below w.heap.size w w4):=HB3.out.trans (hb4.mono HB3.out.size)
 clear hb4
 cases o
 case true =>
  have HN:Hid (R=(21,t)):=HR4.out
  go_wp2_with fail
  go_ret
  rw [HN.out]
  exact HS.out _ _ HB4.out
 have hW:=Went.start H.out HB4.out
 obtain ⟨c0,c2,_⟩:=hW.links HG.out.ris HEF.out HPF.out
 have hid:ef.nd.id=i:=(Tr.find_some HEF.out).2
 rw [hid] at c0
 by_cases h64:(64:Int)≤ef.nd.links
 case pos =>
  have HN:Hid (R=(4,t)):=by
   have:=HR4.out
   rw [if_neg (by simp),if_pos h64] at this
   exact this
  clear hW hid
  go_wp2_with fail
  go_ret
  rw [HN.out]
  exact HS.out _ _ HB4.out
 have hN:=HR4.out
 rw [if_neg (by simp),if_neg h64] at hN
 have HN:=Lib.hid hN
 have HPUT:=Lib.hid (hW.put HG.out.ris HFD.out HPD.out x i (by have:=HNL.out;omega) HXL.out)
 have hdi:i≠d:=fun e=>by
  have h1:=HFD.out
  rw [← e,show Tr.find t i=_ from HEF.out] at h1
  injection h1 with h1
  exact HK2.out (by rw [h1];exact HKD.out)
 have HDI:=Lib.hid hdi
 have hlk:=(HG.out.each ef (Tr.find_some HEF.out).1).nd
 have hl0:0≤ef.nd.links∧ef.nd.links≤65535:=⟨hlk.2.2.1,hlk.2.2.2.1⟩
 obtain ⟨lk,hlk2⟩:∃ lk,lk=ef.nd.links:=⟨_,rfl⟩
 have HLK:=Lib.hid hlk2
 rw [← hlk2] at c2 h64 hl0
 have wl:IntKind.i64.wrap (lk+1)=lk+1:=by rw [IntKind.wrap_i64];omega
 clear hW hid hN hdi hlk hlk2
 go_wp2_with fail
 refine HPUT.out.mono ?_
 rintro e w5 ⟨rfl,hW5⟩
 have hfid:∀ e:En,({ e with names:=Tr.ins e.names x i }:En).nd.id=e.nd.id:=fun _=>rfl
 have hr5:Tr.Ris (Tr.put t d x i):=Tr.upd_ris HG.out.ris hfid
 have hf5:Tr.find (Tr.put t d x i) i=some ef:=by
  unfold Tr.put
  rw [Tr.find_upd hfid,HEF.out]
  simp only [Option.map_some,if_neg HDI.out]
 have hp5:ptrOf gs (Tr.put t d x i) i=.pointer (some ⟨gf,0,none⟩):=by
  unfold Tr.put
  rw [ptrOf_upd hfid];exact HPF.out
 obtain ⟨_,c2',_,f2',hmore⟩:=hW5.links hr5 hf5 hp5
 have HMO:=Lib.hid (hmore 1)
 rw [show ef.nd.links=lk from HLK.out.symm] at c2' HMO
 clear hW5 hr5 hf5 hp5 hmore hfid c0 c2
 go_wp2_with fail
 go_ret
 rw [HN.out]
 exact HMO.out.done _
end Tm
end Go.Proofs.YtbnpgakmhhfjkaaGreatDoor
namespace Go.Proofs.YtbnpgakmhhfjkaaGreatDoor
open Go.RowKit Rc
open Tr (Nm En T)
namespace Tm
theorem step_append_kept {ops:Array Oper} {o:Oper} {a:Act} {w:World} {K:Act→World→Prop} {Q:Exit→Act→World→Prop} {E:Prop} (hgd:o.guard=none) (s x:Operand)
    (ho:o.op=.call { callee:=.builtin .append,args:=#[s,x],argTypes:=#[29,29] })
    {v:Value} {l:List Bs} (hs:a.eval s=v) (hown:SOwn w v l) (A:Option Addr) (y:Bs) (c:Nat) (hx:a.eval x=.slice A 1 c) (hr:RdS w A [y]) (hn:l.length≤1000000)
    (h:∀ v' w',Hid (SOwn w' v' (l++[y]))→Hid (w.grownBy w' v.ownBlock)→Hid (v'.ownBlock=v.ownBlock∨v'.ownBlock=some w.heap.size)→Hid (∀ W,SOwn W v' (l++[y])→(∀ b,v.ownBlock=some b→v'.ownBlock≠some b→W.heap[b]?=w'.heap[b]?)→SOwn W v l)→K (a.put o.dst v') w') :
    if Region.wanted o (yielded ops a.tmps)=true then Oper.wp Tryz.prog o a w K Q else E:=by
 rw [if_pos (show Region.wanted o (yielded ops a.tmps)=true by simp [Region.wanted,hgd])]
 obtain ⟨v',w',hrun,h1,h2,h3,h4⟩:=run_append_kept w v l hown A y c hr hn o.type
 unfold Oper.wp
 simp [execOp,ho,resolve,invoke,builtin,hs,hx,hrun,Result.andThen]
 exact h v' w' h1 h2 h3 h4
abbrev Shown:=List (List Bs × Int)
structure Eye where
 At:Shown→(Nat→Prop)→World→Prop
 keep:∀ {s:Shown} {S:Nat→Prop} {w w':World},At s S w→w.heap.size≤w'.heap.size→(∀ b,S b→w'.heap[b]?=w.heap[b]?)→At s S w'
 lt:∀ {s:Shown} {S:Nat→Prop} {w:World},At s S w→∀ b,S b→b<w.heap.size
structure Shows (O:Eye) (f:FuncId) (cb:Array Value) (lim:Nat):Prop where
 ent:∀ (args:Array Value) (w:World),(callFunc f args).run Tryz.prog w=.ok (.enter f args) w
 call:∀ (w:World) (seen:Shown) (B:Nat→Prop) (A:Option Addr) (q:List Bs) (cap g:Nat) (e:En) (S1:Nat→Prop),O.At seen B w→seen.length<lim→RdS w A q→q.length≤cap→q.length≤1000→(∀ b,0<q.length→A.map (·.block)=some b→¬ B b)→EAt g e S1 w→(∀ b,S1 b→¬ B b) →
  Calls Tryz.prog f (#[.slice A q.length cap,.pointer (some ⟨g,0,none⟩)]++cb) w fun r w'=>r=.returned (.tuple #[])∧∃ B',O.At (seen++[(q,e.nd.id)]) B' w'∧Mod w w' B∧∀ b,B' b→B b∨w.heap.size≤b
structure WMid (O:Eye) (row:Value) (a:List Bs) (seen:Shown) (B:Nat→Prop) (w:World) (more:Shown) (B':Nat→Prop) (w':World):Prop where
 at_:O.At (seen++more) B' w'
 mod:Mod w w' (fun b=>B b∨row.ownBlock=some b)
 sub:∀ b,B' b→B b∨w.heap.size≤b
 own:SOwn w' row a
structure WPre (O:Eye) (p:Nat) (av:Value) (gs:List Nat) (S:Nat→Prop) (t:T) (row:Value) (a:List Bs) (seen:Shown) (B:Nat→Prop) (w:World):Prop where
 tin:TIn p av gs S t w
 own:SOwn w row a
 at_:O.At seen B w
 apT:∀ b,B b→¬ TrS p av S b
 apR:∀ b,row.ownBlock=some b→¬ B b∧¬ TrS p av S b
def Walked (O:Eye) (row:Value) (a:List Bs) (seen:Shown) (B:Nat→Prop) (w:World) (more:Shown) (r:Ending) (w':World):Prop :=
 r=.returned (.tuple #[])∧∃ B',WMid O row a seen B w more B' w'
section
variable {O:Eye} {p:Nat} {av:Value} {gs:List Nat} {S:Nat→Prop} {t:T} {row:Value} {a:List Bs} {seen:Shown} {B:Nat→Prop} {w:World}
theorem WPre.start (h:WPre O p av gs S t row a seen B w):WMid O row a seen B w [] B w:=⟨by rw [List.append_nil];exact h.at_,Mod.refl _ _,fun _ h=>.inl h,h.own⟩
theorem WMid.pre {more:Shown} {B':Nat→Prop} {w':World} (h:WPre O p av gs S t row a seen B w) (k:WMid O row a seen B w more B' w'):WPre O p av gs S t row a (seen++more) B' w':=by
 refine ⟨h.tin.keep fun b hb=>k.mod.block b (h.tin.lt hb) (fun hx=>hx.elim (fun h1=>h.apT b h1 hb) fun h1=>(h.apR b h1).2 hb),k.own,k.at_,fun b hb ht=>?_,fun b hb=>⟨fun h1=>?_,(h.apR b hb).2⟩⟩
 ·rcases k.sub b hb with h1|h1
  ·exact h.apT b h1 ht
  ·have:=h.tin.lt ht;omega
 ·rcases k.sub b h1 with h2|h2
  ·exact (h.apR b hb).1 h2
  ·have:=h.own.lt hb;omega
theorem WMid.trans {more more2:Shown} {B1 B2:Nat→Prop} {w1 w2:World} (k:WMid O row a seen B w more B1 w1) (m:WMid O row a (seen++more) B1 w1 more2 B2 w2):WMid O row a seen B w (more++more2) B2 w2 :=
 ⟨by rw [← List.append_assoc];exact m.at_,mod_trans k.mod (fun b hb=>hb.elim (fun h1=>(k.sub b h1).imp .inl id) fun h1=>.inl (.inr h1)) m.mod,fun b hb=>(m.sub b hb).elim (k.sub b) fun h1=>.inr (Nat.le_trans k.mod.size h1),m.own⟩
theorem WPre.hung {x:Bs} {v2:Value} {wa w2:World} (h:WPre O p av gs S t row a seen B w) (hb:Below w.heap.size w wa) (ho:SOwn w2 v2 (a++[x])) (hg:wa.grownBy w2 row.ownBlock) (hal:v2.ownBlock=row.ownBlock∨v2.ownBlock=some wa.heap.size) :
    WPre O p av gs S t v2 (a++[x]) seen B w2:=by
 have hk:∀ b,b<w.heap.size→row.ownBlock≠some b→w2.heap[b]?=w.heap[b]?:=fun b hl hn=>(hg.block b (Nat.lt_of_lt_of_le hl hb.size) (fun e=>hn e.symm)).trans (hb.block b hl)
 have hsz:=Nat.le_trans hb.size hg.size
 refine ⟨h.tin.keep fun b hT=>hk b (h.tin.lt hT) fun e=>(h.apR b e).2 hT,ho,O.keep h.at_ hsz fun b hB=>hk b (O.lt h.at_ b hB) fun e=>(h.apR b e).1 hB,h.apT,fun b hv=>?_⟩
 rcases hal with e|e
 ·exact h.apR b (e ▸ hv)
 ·rw [e] at hv
  injection hv with hv
  have:=hb.size
  exact ⟨fun h1=>by have:=O.lt h.at_ b h1;omega,fun h1=>by have:=h.tin.lt h1;omega⟩
theorem WPre.told {s2:Shown} {B2:Nat→Prop} {w2:World} (h:WPre O p av gs S t row a seen B w) (h1:O.At s2 B2 w2) (hm:Mod w w2 B) (hs:∀ b,B2 b→B b∨w.heap.size≤b):WPre O p av gs S t row a s2 B2 w2 :=
 ⟨h.tin.keep fun b hT=>hm.block b (h.tin.lt hT) fun hB=>h.apT b hB hT,h.own.keep fun b hb=>hm.block b (h.own.lt hb) fun hB=>(h.apR b hb).1 hB,h1,fun b hb hT=>(hs b hb).elim (fun h2=>h.apT b h2 hT) fun h2=>by have:=h.tin.lt hT;omega,fun b hb=>⟨fun h2=>(hs b h2).elim (h.apR b hb).1 fun h3=>by have:=h.own.lt hb;omega,(h.apR b hb).2⟩⟩
theorem WPre.round {x:Bs} {id:Int} {R:Shown} {v2:Value} {wa w2 w3 w4:World} {B2 B3:Nat→Prop} (h:WPre O p av gs S t row a seen B w) (hb:Below w.heap.size w wa) (ho:SOwn w2 v2 (a++[x])) (hg:wa.grownBy w2 row.ownBlock) (hal:v2.ownBlock=row.ownBlock∨v2.ownBlock=some wa.heap.size)
    (hk:∀ W,SOwn W v2 (a++[x])→(∀ b,row.ownBlock=some b→v2.ownBlock≠some b→W.heap[b]?=w2.heap[b]?)→SOwn W row a)
    (hm:Mod w2 w3 B) (hs:∀ b,B2 b→B b∨w2.heap.size≤b) (k:WMid O v2 (a++[x]) (seen++[(a++[x],id)]) B2 w3 R B3 w4) :
    WMid O row a seen B w ((a++[x],id) :: R) B3 w4:=by
 have hsz:=Nat.le_trans hb.size hg.size
 have hsz2:=hm.size
 have hwa:=hb.size
 refine ⟨?_,?_,fun b hb3=>?_,hk w4 k.own fun b hr hn=>?_⟩
 ·have:=k.at_
  rw [List.append_assoc] at this
  exact this
 ·have m1:Mod w w2 (fun b=>B b∨row.ownBlock=some b):=⟨hg.os.trans hb.os,hg.tape.trans hb.tape,hg.output.trans hb.output,hsz,fun b hl hn=>(hg.block b (Nat.lt_of_lt_of_le hl hb.size) (fun e=>hn (.inr e.symm))).trans (hb.block b hl)⟩
  have m2:=mod_trans m1 (fun b hB=>.inl (.inl hB)) hm
  refine mod_trans m2 (fun b hB=>?_) k.mod
  rcases hB with hB|hB
  ·rcases hs b hB with h1|h1
   ·exact .inl (.inl h1)
   ·exact .inr (by omega)
  ·rcases hal with e|e
   ·exact .inl (.inr (e ▸ hB))
   ·rw [e] at hB
    injection hB with hB
    exact .inr (by omega)
 ·rcases k.sub b hb3 with h1|h1
  ·rcases hs b h1 with h2|h2
   ·exact .inl h2
   ·exact .inr (by omega)
  ·exact .inr (by omega)
 ·have hlt:=h.own.lt hr
  have e1:w3.heap[b]?=w2.heap[b]?:=hm.block b (by omega) (h.apR b hr).1
  refine (k.mod.block b (by omega) fun hx=>?_).trans e1
  rcases hx with h1|h1
  ·rcases hs b h1 with h2|h2
   ·exact (h.apR b hr).1 h2
   ·omega
  ·exact hn h1
end
end Tm
end Go.Proofs.YtbnpgakmhhfjkaaGreatDoor
