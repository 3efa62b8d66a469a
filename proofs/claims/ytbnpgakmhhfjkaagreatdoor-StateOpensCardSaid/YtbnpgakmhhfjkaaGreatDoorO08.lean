/-
  OWN WORK. TrDelE, TrTree, TrFile, PaShelf, TrShelf, TrStr, TrMake, TrLink, TrWalk
-/
import Derived.Test.YtbnpgakmhhfjkaaGreatDoorO07
import Derived.RangeFuncBox
import Derived.Test.YtbnpgakmhhfjkaaGreatDoorO04
import Derived.Test.YtbnpgakmhhfjkaaGreatDoorProg
import Derived.Test.YtbnpgakmhhfjkaaGreatDoorO06
namespace Go.Proofs.YtbnpgakmhhfjkaaGreatDoor
open Go.RowKit Rc
open Tr (Nm En T)
namespace Tm
def idxPt (p:Nat→Bool):List Nat→Nat→Int
 | [],_=>-1
 | x :: l,i=>if p x then (i:Int) else idxPt p l (i+1)
theorem idxPt_split (p:Nat→Bool):∀ (l:List Nat) (i:Nat),(idxPt p l i=-1∧∀ x ∈ l,p x=false)∨∃ j x,j<l.length∧idxPt p l i=((i+j:Nat):Int)∧l[j]?=some x∧p x=true∧∀ y ∈ l.take j,p y=false
 | [],i=>.inl ⟨rfl,fun x h=>by simp at h⟩
 | x :: l,i=>by
   unfold idxPt
   cases hx:p x
   ·rcases idxPt_split p l (i+1) with ⟨h1,h2⟩|⟨j,y,h1,h2,h3,h4,h5⟩
    ·exact .inl ⟨by simpa using h1,fun y hy=>by rcases List.mem_cons.1 hy with rfl|hy;exact hx;exact h2 y hy⟩
    ·refine .inr ⟨j+1,y,by simp only [List.length_cons];omega,by simp only [Bool.false_eq_true,if_false];rw [h2];congr 1;omega,by simpa using h3,h4,fun z hz=>?_⟩
     rw [List.take_succ_cons] at hz
     rcases List.mem_cons.1 hz with rfl|hz
     ·exact hx
     ·exact h5 z hz
   ·exact .inr ⟨0,x,by simp,by simp,rfl,hx,fun y hy=>by simp at hy⟩
theorem idxPt_step (p:Nat→Bool) (l:List Nat) (j i:Nat) (h:∀ y ∈ l.take j,p y=false):idxPt p l i=idxPt p (l.drop j) (i+j):=by
 induction j generalizing l i with
 | zero=>simp
 | succ j ih =>
   cases l with
   | nil=>simp [idxPt]
   | cons x l =>
     rw [List.take_succ_cons] at h
     rw [List.drop_succ_cons,idxPt,if_neg (by rw [h x (.head _)];simp),ih l (i+1) fun y hy=>h y (.tail _ hy)]
     congr 1;omega
def ToldPt (v:Value) (w:World) (f:FuncId) (cb:Array Value) (p:Nat→Bool) (l:List Nat):Prop :=
 ∀ W,w.grownBy W v.ownBlock→∀ x ∈ l,Calls Tryz.prog f (#[.pointer (some ⟨x,0,none⟩)]++cb) W fun e w'=>e=.returned (.bool (p x))∧Below W.heap.size W w'
theorem grown_below_TrDelE {w wr w':World} {row:Option Nat} (h:w.grownBy wr row) (hb:Below wr.heap.size wr w'):w.grownBy w' row :=
 ⟨hb.os.trans h.os,hb.tape.trans h.tape,hb.output.trans h.output,Nat.le_trans h.size hb.size,fun b hlt hne=>(hb.block b (Nat.lt_of_lt_of_le hlt h.size)).trans (h.block b hlt hne)⟩
theorem below_grown_TrDelE {w wr:World} (h:Below w.heap.size w wr) (row:Option Nat):w.grownBy wr row:=⟨h.os,h.tape,h.output,h.size,fun b hlt _=>h.block b hlt⟩
set_option maxHeartbeats 1000000 in
set_option maxRecDepth 100000 in
theorem indexPt_any (w:World) (v:Value) (l:List Nat) (f:FuncId) (cb:Array Value) (p:Nat→Bool) (hent:∀ (args:Array Value) (w:World),(callFunc f args).run Tryz.prog w=.ok (.enter f args) w)
    (hown:w.ownsRow 0 90 1 v l.length (ptrCells l)) (hl:l.length≤1000000000) (hp:ToldPt v w f cb p l) :
    Calls Tryz.prog 188 #[v,.func (.func f) #[] cb] w fun e w'=>e=.returned (.int .i64 (idxPt p l 0))∧Below w.heap.size w w':=by
 have HP:=Lib.hid hp
 have HO:=Lib.hid hown
 obtain ⟨A,c,rfl,hc,hA⟩:=own_form hown
 have HA:=Lib.hid hA
 clear hp hown hA
 go_enter Tryz.func188,Tryz.ntmps188
 go_wp2_with fail
 go_loopw [8] (fun t8 wr=>∃ j:Nat,t8=.int .i64 j∧j≤l.length∧Hid (∀ y ∈ l.take j,p y=false)∧Hid (Below w.heap.size w wr)) (fun t8 _=>l.length-(match t8 with|.int _ k=>k.toNat|_=>0))
 case atStart=>exact ⟨0,rfl,Nat.zero_le _,fun y hy=>by simp at hy,Below.refl _ _⟩
 case round =>
  obtain ⟨j,rfl,hj,HN,HB⟩:=hrel
  by_cases hk:j<l.length
  ·obtain ⟨x,hx⟩:∃ x,l[j]?=some x:=⟨_,List.getElem?_eq_getElem hk⟩
   have hlt:(j:Int)<(l.length:Int):=by omega
   obtain ⟨g,hAg,hob,_,hgl,hcell⟩:=HA.out (by omega)
   subst hAg
   have c0:wr.cell? ⟨g,j,none⟩=some (.pointer (some ⟨x,0,none⟩)):=(HB.out.cell (p:=⟨g,j,none⟩) hgl).trans (hcell _ _ (by simp [ptrCells,hx]))
   have HX:=Lib.hid hx
   have HC:=HP.out wr (below_grown_TrDelE HB.out _) x (List.mem_of_getElem? hx)
   have HCC:=Lib.hid HC
   clear hx hcell HC hob hgl
   go_wp2_with fail
   refine HCC.out.mono ?_
   rintro e w1 ⟨rfl,hb⟩
   have HB1:Hid (Below w.heap.size w w1):=HB.out.trans (hb.mono HB.out.size)
   clear hb
   cases hpx:p x
   ·have HN1:Hid (∀ y ∈ l.take (j+1),p y=false):=fun y hy=>by
     rw [List.take_succ_eq_append_getElem hk,List.mem_append] at hy
     rcases hy with hy|hy
     ·exact HN.out y hy
     ·have e:l[j]=x:=(List.getElem?_eq_some_iff.1 HX.out).2
      simp only [List.mem_singleton] at hy
      rw [hy,e];exact hpx
    go_wp2_with fail
    go_roundw
    case rel=>exact ⟨j+1,by go_num,by omega,HN1.out,HB1.out⟩
    case measure=>simp;omega
   ·have HI:Hid (idxPt p l 0=(j:Int)):=by
     show _=_
     rw [idxPt_step p l j 0 HN.out,List.drop_eq_getElem_cons hk]
     have e:l[j]=x:=(List.getElem?_eq_some_iff.1 HX.out).2
     rw [idxPt,e,if_pos hpx,Nat.zero_add]
    go_wp2_with fail
    go_ret
    exact ⟨by rw [HI.out];rfl,HB1.out⟩
  ·obtain rfl:j=l.length:=by omega
   have HI:Hid (idxPt p l 0=-1):=by
    show _=_
    rcases idxPt_split p l 0 with h|⟨j,x,h1,_,h3,h4,_⟩
    ·exact h.1
    ·have h5:=HN.out x (by rw [List.take_length];exact List.mem_of_getElem? h3)
     rw [h5] at h4;cases h4
   go_wp2_with fail
   go_ret
   exact ⟨by rw [HI.out];rfl,HB.out⟩
structure HalfPt (l:List Nat) (p:Nat→Bool) (cap i j:Nat) (cur:List Value):Prop where
 cnt:((l.take j).filter fun x=>!p x).length=i
 len:cur.length=cap*1
 done:cur.take (i)=ptrCells ((l.take j).filter fun x=>!p x)
 rest:(cur.drop (j)).take ((l.length-j)*1)=ptrCells (l.drop j)
theorem HalfPt.le {l:List Nat} {p:Nat→Bool} {cap i j:Nat} {cur:List Value} (h:HalfPt l p cap i j cur):i≤j:=by
 rw [← h.cnt]
 exact Nat.le_trans (List.length_filter_le _ _) (by rw [List.length_take];omega)
theorem take_next_TrDelE {α:Type} {l:List α} {j:Nat} {x:α} (hx:l[j]?=some x):l.take (j+1)=l.take j++[x]:=by
 have hj:=(List.getElem?_eq_some_iff.1 hx).1
 rw [List.take_succ_eq_append_getElem hj,(List.getElem?_eq_some_iff.1 hx).2]
theorem HalfPt.out {l:List Nat} {p:Nat→Bool} {cap i j:Nat} {cur:List Value} (h:HalfPt l p cap i j cur) {x:Nat} (hx:l[j]?=some x) (hp:p x=true):HalfPt l p cap i (j+1) cur:=by
 have e:((l.take (j+1)).filter fun x=>!p x)=(l.take j).filter fun x=>!p x:=by
  rw [take_next_TrDelE hx,List.filter_append];simp [hp]
 refine ⟨by rw [e];exact h.cnt,h.len,by rw [e];exact h.done,?_⟩
 have hr:=congrArg (List.drop 1) h.rest
 rw [List.drop_take,List.drop_drop] at hr
 have hd:l.drop j=x :: l.drop (j+1):=by
  have hj:=(List.getElem?_eq_some_iff.1 hx).1
  rw [List.drop_eq_getElem_cons hj,(List.getElem?_eq_some_iff.1 hx).2]
 rw [hd] at hr
 rw [show j+1=j+1 by omega,show (l.length-(j+1))*1=(l.length-j)*1-1 by omega]
 exact hr
theorem HalfPt.keep {l:List Nat} {p:Nat→Bool} {cap i j:Nat} {cur:List Value} (h:HalfPt l p cap i j cur) (hc:l.length≤cap) {x:Nat} (hx:l[j]?=some x) (hp:p x=false):HalfPt l p cap (i+1) (j+1) (cur.set i (.pointer (some ⟨x,0,none⟩))):=by
 have hj:=(List.getElem?_eq_some_iff.1 hx).1
 have hij:=h.le
 have e:((l.take (j+1)).filter fun x=>!p x)=((l.take j).filter fun x=>!p x)++[x]:=by
  rw [take_next_TrDelE hx,List.filter_append];simp [hp]
 have hd:l.drop j=x :: l.drop (j+1):=by
  rw [List.drop_eq_getElem_cons hj,(List.getElem?_eq_some_iff.1 hx).2]
 refine ⟨by rw [e,List.length_append,h.cnt];rfl,by simp [h.len],?_,?_⟩
 ·rw [e,ptrCells_append,← h.done]
  have hlt:i<(cur.set i (.pointer (some ⟨x,0,none⟩))).length:=by simp [h.len];omega
  rw [List.take_succ_eq_append_getElem hlt,List.take_set_of_le (Nat.le_refl _)]
  simp [List.getElem_set,ptrCells]
 ·have hr:=congrArg (List.drop 1) h.rest
  rw [List.drop_take,List.drop_drop,hd] at hr
  rw [show (l.length-(j+1))*1=(l.length-j)*1-1 by omega]
  have e2:(cur.set i (.pointer (some ⟨x,0,none⟩))).drop (j+1)=cur.drop (j+1):=by
   rw [List.drop_set_of_lt (by omega)]
  rw [e2,show j+1=j+1 by omega]
  exact hr
theorem HalfPt.cell {l:List Nat} {p:Nat→Bool} {cap i j:Nat} {cur:List Value} (h:HalfPt l p cap i j cur) {x:Nat} (hx:l[j]?=some x):cur[j]?=some (.pointer (some ⟨x,0,none⟩)):=by
 have hj:=(List.getElem?_eq_some_iff.1 hx).1
 have hd:l.drop j=x :: l.drop (j+1):=by
  rw [List.drop_eq_getElem_cons hj,(List.getElem?_eq_some_iff.1 hx).2]
 have key:∀ m,m<1→cur[j+m]?=(ptrCells (x :: l.drop (j+1)))[m]?:=fun m hm=>by
  rw [← hd,← h.rest,List.getElem?_take_of_lt (by omega),List.getElem?_drop]
 exact key 0 (by omega)
def DelPt (v:Value) (l:List Nat) (p:Nat→Bool) (w:World) (e:Ending) (w':World):Prop :=
 ∃ v',e=.returned v'∧w'.ownsRow 0 90 1 v' (l.filter fun x=>!p x).length (ptrCells (l.filter fun x=>!p x))∧w.grownBy w' v.ownBlock∧(v'.ownBlock=v.ownBlock)
theorem zeroPt (w:World):(zeroValue 90).run Tryz.prog w=.ok (.pointer none) w:=by kernel_rfl
set_option maxHeartbeats 2000000 in
set_option maxRecDepth 100000 in
theorem deletePt_any (w:World) (v:Value) (l:List Nat) (f:FuncId) (cb:Array Value) (p:Nat→Bool) (hent:∀ (args:Array Value) (w:World),(callFunc f args).run Tryz.prog w=.ok (.enter f args) w)
    (hown:w.ownsRow 0 90 1 v l.length (ptrCells l)) (hl:l.length≤1000000000) (hp:ToldPt v w f cb p l) :
    Calls Tryz.prog 154 #[v,.func (.func f) #[] cb] w (DelPt v l p w):=by
 have HI:=Lib.hid (indexPt_any w v l f cb p hent hown hl hp)
 rcases idxPt_split p l 0 with ⟨h1,h2⟩|⟨m,x0,hm,h1,h3,h4,h5⟩
 ·rw [h1] at HI
  have HOWN:=Lib.hid hown
  have HF:Hid ((l.filter fun x=>!p x)=l):=by
   show _=_
   rw [List.filter_eq_self]
   intro x hx
   rw [h2 x hx];rfl
  clear hown hp h1 h2
  go_enter Tryz.func154,Tryz.ntmps154
  go_wp2_with fail
  refine HI.out.mono ?_
  rintro e w1 ⟨rfl,hb⟩
  have HB:=Lib.hid hb
  clear hb
  go_wp2_with fail
  go_ret
  refine ⟨_,rfl,by rw [HF.out];exact own_keep HOWN.out fun b hb=>HB.out.block b (own_blk HOWN.out hb).2.1,below_grown_TrDelE HB.out _,rfl⟩
 ·rw [h1,Nat.zero_add] at HI
  rcases hown.2 with ⟨_,h0⟩|⟨g,cap,cur0,rfl,hB,hg,hnc,hcm,hsz,htk⟩
  ·omega
  have hblk:Blk w g 90 cur0.toList:=by simpa [Blk] using hg
  have hlen0:cur0.toList.length=cap*1:=by simpa using hsz
  have hhalf:HalfPt l p cap m (m+1) cur0.toList:=by
   have e:((l.take (m+1)).filter fun x=>!p x)=l.take m:=by
    rw [take_next_TrDelE h3,List.filter_append]
    simp only [List.filter_cons,h4,Bool.not_true,Bool.false_eq_true,if_false,List.filter_nil,List.append_nil]
    rw [List.filter_eq_self]
    intro x hx
    rw [h5 x hx];rfl
   refine ⟨by rw [e,List.length_take];omega,hlen0,?_,?_⟩
   ·rw [e,ptrCells_take,← htk,List.take_take,Nat.min_eq_left (by omega)]
   ·rw [ptrCells_drop,← htk,List.drop_take]
    congr 1;omega
  have HP:=Lib.hid hp
  have HH0:=Lib.hid hhalf
  have HBL:=Lib.hid hblk
  have HCAP:Hid (l.length≤cap∧cap≤maxLen):=⟨hnc,hcm⟩
  have hc63:cap≤9223372036854775807:=by unfold maxLen at hcm;omega
  have hcl:=hnc
  have q1:∀ w' (i:Nat),i≤l.length→(Instr.sliceAt 111 (.slice (some ⟨g,0,none⟩) l.length cap) (some (.int .i64 (i:Int))) none none).run Tryz.prog w'=.ok (.slice (cutPt (some ⟨g,0,none⟩) i cap) (l.length-i) (cap-i)) w':=fun w' i hi=>slPt_l w' (some ⟨g,0,none⟩) l.length cap i hi
  have q2:∀ w' (i:Nat),i≤cap→(Instr.sliceAt 111 (.slice (some ⟨g,0,none⟩) l.length cap) none (some (.int .i64 (i:Int))) none).run Tryz.prog w'=.ok (.slice (some ⟨g,0,none⟩) i cap) w':=fun w' i hi=>slPt_h w' (some ⟨g,0,none⟩) l.length cap i hi
  have Q1:=Lib.hid q1
  have Q2:=Lib.hid q2
  clear q1 q2 hown hp h1 h3 h4 h5 hg hnc hcm hsz htk hblk hlen0 hhalf hB
  go_enter Tryz.func154,Tryz.ntmps154
  go_wp2_with fail
  refine HI.out.mono ?_
  rintro e w1 ⟨rfl,hb⟩
  have HB1:Hid (w.grownBy w1 (some g)):=below_grown_TrDelE hb _
  have HBL1:Hid (Blk w1 g 90 cur0.toList):=HBL.out.below hb HBL.out.lt
  clear hb HBL
  have wm:IntKind.i64.wrap ((m:Int)+1)=(m:Int)+1:=by rw [IntKind.wrap_i64];omega
  have hmm:((m:Int)==-1)=false:=by rw [beq_eq_false_iff_ne];omega
  go_wp2_with fail
  go_loopw [5,6,7] (fun t5 t6 t7 wr=>∃ (i j:Nat) (v7:Value) (cur:List Value),t5=.int .i64 i∧t6=.int .i64 j∧t7=v7∧j≤l.length∧i<j∧Hid (HalfPt l p cap i j cur)∧Hid (Blk wr g 90 cur)∧Hid (w.grownBy wr (some g))) (fun _ t6 _ _=>l.length-(match t6 with|.int _ k=>k.toNat|_=>0))
  case atStart=>exact ⟨m,m+1,_,_,rfl,by simp,rfl,by omega,by omega,HH0.out,HBL1.out,HB1.out⟩
  case round =>
   obtain ⟨i,j,v7,cur,rfl,rfl,rfl,hj,hij,HH,HBL,HB⟩:=hrel
   by_cases hk:j<l.length
   ·obtain ⟨x,hx⟩:∃ x,l[j]?=some x:=⟨_,List.getElem?_eq_getElem hk⟩
    have hlt:(j:Int)<(l.length:Int):=by omega
    have c0:wr.cell? ⟨g,j,none⟩=some (.pointer (some ⟨x,0,none⟩)):=(HBL.out.cell _).trans (HH.out.cell hx)
    have wj:IntKind.i64.wrap ((j:Int)+1)=(j:Int)+1:=by rw [IntKind.wrap_i64];omega
    have wi:IntKind.i64.wrap ((i:Int)+1)=(i:Int)+1:=by rw [IntKind.wrap_i64];omega
    have HX:=Lib.hid hx
    have HC:=HP.out wr HB.out x (List.mem_of_getElem? hx)
    have HCC:=Lib.hid HC
    clear HC
    clear hx
    go_wp2_with fail
    refine HCC.out.mono ?_
    rintro e w2 ⟨rfl,hb⟩
    have HB2:Hid (w.grownBy w2 (some g)):=grown_below_TrDelE HB.out hb
    have HBL2:Hid (Blk w2 g 90 cur):=HBL.out.below hb HBL.out.lt
    clear hb
    cases hpx:p x
    ·have HHN:=Lib.hid (HH.out.keep HCAP.out.1 HX.out hpx)
     obtain ⟨y0,s0⟩:∃ y,w2.cell? ⟨g,i,none⟩=some y:=⟨_,by rw [HBL2.out.cell,List.getElem?_eq_getElem (by rw [HH.out.len];have:=HCAP.out.1;omega)]⟩
     have f0:w2.frozen? ⟨g,i,none⟩=false:=HBL2.out.frozen _
     go_wp2_with fail
     go_roundw
     case rel=>exact ⟨i+1,j+1,_,_,by go_num,by go_num,rfl,by omega,by omega,HHN.out,HBL2.out.set_ _ _,Keeps.setCell (g:=g) HB2.out _ _⟩
     case measure=>simp;omega
    ·have HHN:=Lib.hid (HH.out.out HX.out hpx)
     go_wp2_with fail
     go_roundw
     case rel=>exact ⟨i,j+1,_,_,rfl,by go_num,rfl,by omega,by omega,HHN.out,HBL2.out,HB2.out⟩
     case measure=>simp;omega
   ·obtain rfl:j=l.length:=by omega
    have hlt:¬ ((l.length:Int)<(l.length:Int)):=by omega
    have hi1:i≤l.length:=by omega
    obtain ⟨w3,cs,hcl3,hb3,hk3,hl3⟩:=run_clear_k (P:=Tryz.prog) wr 111 90 0 (.pointer none) underePt (zeroPt wr) g (i) (l.length-i) (cap-i) cur 90 HBL.out (by rw [HH.out.len];simp [Value.cells];omega) (by intro v hv;simp [Value.cells] at hv;first|(rcases hv with rfl|rfl <;> rfl)|(rw [hv];rfl))
    have q1:(Instr.sliceAt 111 (.slice (some ⟨g,0,none⟩) l.length cap) (some (.int .i64 (i:Int))) none none).run Tryz.prog wr=.ok (.slice (some ⟨g,i,none⟩) (l.length-i) (cap-i)) wr:=by rw [Q1.out wr i hi1,cutPt_at g i cap (by omega)]
    have q2:∀ w',(Instr.sliceAt 111 (.slice (some ⟨g,0,none⟩) l.length cap) none (some (.int .i64 (i:Int))) none).run Tryz.prog w'=.ok (.slice (some ⟨g,0,none⟩) i cap) w':=fun w'=>Q2.out w' i (by omega)
    have HB3:=Lib.hid hb3
    have HK3:=Lib.hid hk3
    have HL3:=Lib.hid hl3
    clear hb3 hk3 hl3
    go_wp2_with fail
    go_ret
    have hf:(l.filter fun x=>!p x).length=i:=by rw [← HH.out.cnt,List.take_length]
    have hdone:=HH.out.done
    rw [List.take_length] at hdone
    refine ⟨_,rfl,?_,?_,rfl⟩
    ·rw [hf]
     refine ⟨?_,.inr ⟨g,cap,(splice cur (i) cs).toArray,rfl,Nat.zero_le _,HB3.out,by have:=HCAP.out.1;omega,HCAP.out.2,?_,?_⟩⟩
     ·rw [← hdone,List.length_take,HH.out.len];have:=HCAP.out.1;omega
     ·have hlz:cs.length=(l.length-i)*1:=by rw [HL3.out];rfl
      rw [List.size_toArray,splice_length _ _ _ (by rw [hlz,HH.out.len];have:=HCAP.out.1;omega),HH.out.len]
     ·rw [← hdone]
      have hle:i≤cur.length:=by rw [HH.out.len];have:=HCAP.out.1;omega
      have h9:=splice_take cur (i) cs hle
      simpa using h9
    ·exact Keeps.trans HB.out HK3.out
end Tm
end Go.Proofs.YtbnpgakmhhfjkaaGreatDoor
namespace Go.Proofs.YtbnpgakmhhfjkaaGreatDoor
open Go.RowKit Rc
open Tr (Nm En T)
namespace Tm
variable {p:Nat} {av:Value} {gs:List Nat} {S:Nat→Prop} {t:T} {w:World}
def TTurn (p:Nat) (t':T) (x:Value) (S:Nat→Prop) (w:World) (e:Ending) (w':World):Prop :=
 e=.returned x∧∃ S',TAt (.pointer (some ⟨p,0,none⟩)) t' S' w'∧Mod w w' S∧∀ b,S' b→S b∨w.heap.size≤b
theorem TTurn.stay (h:TIn p av gs S t w) {x:Value} {w':World} (hb:Below w.heap.size w w'):TTurn p t x (TrS p av S) w (.returned x) w' :=
 ⟨rfl,TrS p av S,(h.below hb).at_,Mod.of_below hb _,fun _ h=>.inl h⟩
theorem TIn.turnAt (h:TIn p av gs S t w) (hr:Tr.Ris t) {i:Int} {e:En} (hf:Tr.find t i=some e):∃ g S1,ptrOf gs t i=.pointer (some ⟨g,0,none⟩)∧EAt g e S1 w∧(∀ b,S1 b→S b) ∧
    (∀ w' (f:En→En) S1',EAt g (f e) S1' w'→Mod w w' S1→(∀ b,S1' b→S1 b∨w.heap.size≤b)→∃ S',TIn p av gs S' (Tr.upd t i f) w'∧Mod w w' (TrS p av S)∧∀ b,TrS p av S' b→TrS p av S b∨w.heap.size≤b):=by
 obtain ⟨A,B,rfl,he,hA,hB⟩:=hr.split hf
 obtain ⟨ga,g,gb,S1,hgs,hl,h1,h2,h3⟩:=h.turn
 refine ⟨g,S1,by rw [hgs];exact ptrOf_mid hl (fun a ha=>by have:=hA a ha;omega) he,h1,h2,fun w' f S1' k1 k2 k3=>?_⟩
 rw [Tr.upd_split he hA hB]
 exact h3 w' (f e) S1' k1 k2 k3
theorem EIn.poke {g:Nat} {dv nv:Value} {e e':En} {i:Nat} {u:Value} (h:EIn g dv nv e w) (hc:(enCells e dv nv).set i u=enCells e' dv nv) (hd:e'.data=e.data) (hn:e'.names=e.names):EAt g e' (EnS g dv nv) (w.setCell ⟨g,i,none⟩ u)∧Mod w (w.setCell ⟨g,i,none⟩ u) (EnS g dv nv):=by
 have hdg:∀ b,dv.ownBlock=some b→b≠g:=fun b hb2=>by
  obtain ⟨_,_,cs,h1⟩:=own_blk h.data hb2
  exact h1.ne_ h.box (by decide)
 have hng:∀ b,nv.ownBlock=some b→b≠g:=fun b hb2=>by
  obtain ⟨_,_,cs,h1⟩:=own_blk h.names hb2
  exact h1.ne_ h.box (by decide)
 refine ⟨⟨dv,nv,⟨by rw [← hc];exact h.box.set_ i u,?_,?_⟩,rfl⟩,⟨rfl,rfl,rfl,by simp [World.setCell],fun k _ hk=>Below.heap_setCell _ _ _ _ (fun e2=>hk (.inl e2))⟩⟩
 ·rw [hd];exact own_keep h.data fun b hb=>Below.heap_setCell _ _ _ _ (hdg b hb)
 ·rw [hn];exact own_keep h.names fun b hb=>Below.heap_setCell _ _ _ _ (hng b hb)
set_option maxHeartbeats 1000000 in
set_option maxRecDepth 100000 in
theorem new_any (w:World):Calls Tryz.prog 36 #[] w fun e w'=>∃ p av gs S,e=.returned (.pointer (some ⟨p,0,none⟩))∧TIn p av gs S Tr.new w'∧Below w.heap.size w w'∧∀ b,TrS p av S b→w.heap.size≤b:=by
 have HF:=Lib.hid (fresh_any w 0 2)
 go_enter Tryz.func36,Tryz.ntmps36
 go_wp2_with fail
 refine HF.out.mono ?_
 rintro e w1 ⟨g,rfl,hE,rfl,hb⟩
 have HE:=Lib.hid hE
 have HB:=Lib.hid hb
 clear hE hb
 go_wp2_with fail
 go_ret
 have hb2:Below w1.heap.size w1 (w1.alloc (.cells #[.pointer (some ⟨w.heap.size,0,none⟩)] 90)):=below_new _ _
 have hrow:Blk (w1.alloc (.cells #[.pointer (some ⟨w.heap.size,0,none⟩)] 90)) w1.heap.size 90 [.pointer (some ⟨w.heap.size,0,none⟩)]:=Blk.new w1 _ _
 obtain ⟨w2,hw2⟩:∃ w2,w2=w1.alloc (.cells #[.pointer (some ⟨w.heap.size,0,none⟩)] 90):=⟨_,rfl⟩
 have hsz:w2.heap.size=w1.heap.size+1:=by rw [hw2,World.size_alloc]
 have hE2:=HE.out.keep (fun b hb=>hb2.block b (HE.out.kind hb).1)
 rw [← hw2] at hb2 hrow hE2 ⊢
 have hb3:Below w2.heap.size w2 (w2.alloc (.cells #[.slice (some ⟨w1.heap.size,0,none⟩) 1 1] 113)):=below_new _ _
 refine ⟨w2.heap.size,.slice (some ⟨w1.heap.size,0,none⟩) 1 1,[w.heap.size],EnS w.heap.size (.slice none 0 0) (.slice none 0 0),?_,⟨Blk.new w2 _ _,⟨rfl,.inr ⟨w1.heap.size,1,#[.pointer (some ⟨w.heap.size,0,none⟩)],rfl,Nat.zero_le _,?_,Nat.le_refl _,by unfold maxLen;omega,rfl,rfl⟩⟩,?_⟩,?_,?_⟩
 ·rw [hsz];rfl
 ·exact hrow.below hb3 hrow.lt
 ·exact ⟨_,fun _=>False,(hE2.keep fun b hb=>hb3.block b (hE2.kind hb).1).at_,fun _ h=>h,fun b hb h=>h,fun b=>⟨.inl,fun h=>h.elim id False.elim⟩⟩
 ·exact HB.out.trans ((hb2.mono HB.out.size).trans (hb3.mono (by have:=HB.out.size;omega)))
 ·have:=HB.out.size
  rintro b (rfl|hb|rfl|hb|hb)
  ·omega
  ·simp [Value.ownBlock] at hb;omega
  ·omega
  ·simp [Value.ownBlock] at hb
  ·simp [Value.ownBlock] at hb
/-! Taken out. -/
theorem EsAt.in_:∀ {gs:List Nat} {t:T} {S:Nat→Prop} {w:World},EsAt gs t S w→∀ {g:Nat},g ∈ gs→S g∧∃ e ∈ t,∃ S1,EAt g e S1 w∧∀ b,S1 b→S b
 | [],[],_,_,_,_,h=>by cases h
 | g :: gs,e :: t,_,_,⟨S1,S2,h1,h2,h3,h4⟩,g',h=>by
   rcases List.mem_cons.1 h with rfl|h
   ·exact ⟨(h4 _).2 (.inl h1.self),e,.head _,S1,h1,fun b hb=>(h4 b).2 (.inl hb)⟩
   ·obtain ⟨k1,e',k2,S',k3,k4⟩:=EsAt.in_ h2 h
    exact ⟨(h4 _).2 (.inr k1),e',.tail _ k2,S',k3,fun b hb=>(h4 b).2 (.inr (k4 b hb))⟩
 | [],_ :: _,_,_,h,_,_=>h.elim
 | _ :: _,[],_,_,h,_,_=>h.elim
set_option maxHeartbeats 1000000 in
set_option maxRecDepth 100000 in
theorem remove1_any (W:World) (b g:Nat) (i k:Int) (hc:W.cell? ⟨b,0,none⟩=some (.int .i64 i)) (hg:W.cell? ⟨g,0,none⟩=some (.int .i64 k)) :
    Calls Tryz.prog 155 #[.pointer (some ⟨g,0,none⟩),.pointer (some ⟨b,0,none⟩)] W fun e w'=>e=.returned (.bool (k==i))∧Below W.heap.size W w':=by
 obtain ⟨q,hq⟩:∃ q,q=(k==i):=⟨_,rfl⟩
 have hb:(k==i)=q:=hq.symm
 rw [← hq]
 clear hq
 go_enter Tryz.func155,Tryz.ntmps155
 go_wp2_with fail
 go_quiet (fail)
 go_wp2_with fail
 go_ret
 exact ⟨rfl,⟨rfl,rfl,rfl,Nat.le_refl _,fun _ _=>rfl⟩⟩
set_option maxHeartbeats 2000000 in
set_option maxRecDepth 100000 in
theorem remove_any (h:TIn p av gs S t w) (hr:Tr.Ris t) (hlt:t.length≤1000000) {i:Int} {e:En} (hf:Tr.find t i=some e) :
    Calls Tryz.prog 106 #[.pointer (some ⟨p,0,none⟩),.int .i64 i] w (TTurn p (Tr.remove t i) (.tuple #[]) (TrS p av S) w):=by
 obtain ⟨wb,hwb⟩:∃ wb,wb=w.alloc (.cells #[.int .i64 i] 3):=⟨_,rfl⟩
 have hbw:Below w.heap.size w wb:=by rw [hwb];exact below_new w _
 have hIb:=h.below hbw
 have hblk:Blk wb w.heap.size 3 [.int .i64 i]:=by rw [hwb];exact Blk.new w _ _
 have c0:wb.cell? ⟨p,0,none⟩=some av:=hIb.box.cell 0
 have hnf:av.ownBlock≠some w.heap.size:=fun e2=>by have:=(own_blk h.row e2).2.1;omega
 have hap:=hIb.apart
 have hent:∀ (args:Array Value) (w:World),(callFunc 155 args).run Tryz.prog w=.ok (.enter 155 args) w:=enters_of Tryz.func155 (by kernel_rfl) rfl
 obtain ⟨A,B,rfl,he,hA,hB⟩:=hr.split hf
 have hsp:=hIb.each.split
 obtain ⟨ga,gb',SA,SB,hgs,k1,k2,k3,k4⟩:=hsp
 cases gb' with
 | nil=>exact k2.elim
 | cons g gb =>
 obtain ⟨S1,S2,m1,m2,m3,m4⟩:=k2
 have hgl:=hIb.each.len
 have hdel:=deletePt_any wb av gs 155 #[.pointer (some ⟨w.heap.size,0,none⟩)] (fun x=>x==g) hent hIb.row (by omega) (fun W hW x hx=>by
  have hcb:W.cell? ⟨w.heap.size,0,none⟩=some (.int .i64 i):=by
   have h1:=hW.block w.heap.size hblk.lt (fun e2=>hnf e2.symm)
   have h2:Blk W w.heap.size 3 [.int .i64 i]:=h1.trans hblk
   exact h2.cell 0
  have hkeep:∀ {x:Nat} {e':En} {S':Nat→Prop},EAt x e' S' wb→(∀ b,S' b→S b)→W.cell? ⟨x,0,none⟩=some (.int .i64 e'.nd.id):=fun {x e' S'} hE hS=>by
   refine (hE.keep (w':=W) fun b hb=>hW.block b (hE.kind hb).1 fun e2=>?_).cells.1
   exact (hap.2 b e2.symm).1 (hS b hb)
  by_cases hxg:x=g
  ·subst hxg
   have h1:=remove1_any W w.heap.size x i e.nd.id hcb (hkeep m1 fun b hb=>(k4 b).2 (.inr ((m4 b).2 (.inl hb))))
   rw [show (e.nd.id==i)=true by simpa using he] at h1
   simpa using h1
  ·have hin:∃ e',e'.nd.id≠i∧∃ S',EAt x e' S' wb∧∀ b,S' b→S b:=by
    rw [hgs,List.mem_append,List.mem_cons] at hx
    rcases hx with hx|hx|hx
    ·obtain ⟨_,e',h2,S',h3,h4⟩:=k1.in_ hx
     exact ⟨e',by have:=hA e' h2;omega,S',h3,fun b hb=>(k4 b).2 (.inl (h4 b hb))⟩
    ·exact absurd hx hxg
    ·obtain ⟨_,e',h2,S',h3,h4⟩:=m2.in_ hx
     exact ⟨e',by have:=hB e' h2;omega,S',h3,fun b hb=>(k4 b).2 (.inr ((m4 b).2 (.inr (h4 b hb))))⟩
   obtain ⟨e',h1,S',h2,h3⟩:=hin
   have h4:=remove1_any W w.heap.size x i e'.nd.id hcb (hkeep h2 h3)
   rw [show (e'.nd.id==i)=false by simpa using h1] at h4
   show Calls _ _ _ W fun e w'=>e=.returned (.bool (x==g))∧_
   rw [show (x==g)=false by simpa using hxg]
   exact h4)
 have hfil:(gs.filter fun x=>!(x==g))=ga++gb:=by
  rw [hgs,List.filter_append,List.filter_cons,if_neg (by simp)]
  have hga:∀ x ∈ ga,x≠g:=fun x hx e2=>by
   have h1:=(k1.in_ hx).1
   rw [e2] at h1
   exact k3 g h1 ((m4 g).2 (.inl m1.self))
  have hgb:∀ x ∈ gb,x≠g:=fun x hx e2=>by
   have h1:=(m2.in_ hx).1
   rw [e2] at h1
   exact m3 g m1.self h1
  rw [List.filter_eq_self.2 (fun x hx=>by simpa using hga x hx),List.filter_eq_self.2 (fun x hx=>by simpa using hgb x hx)]
 have HEND:Hid (∀ av' w2,w2.ownsRow 0 90 1 av' (ga++gb).length (ptrCells (ga++gb))→wb.grownBy w2 av.ownBlock→av'.ownBlock=av.ownBlock→∃ S',TAt (.pointer (some ⟨p,0,none⟩)) (Tr.remove (A++e :: B) i) S' (w2.setCell ⟨p,0,none⟩ av')∧Mod w (w2.setCell ⟨p,0,none⟩ av') (TrS p av S)∧∀ b,S' b→TrS p av S b∨w.heap.size≤b):=fun av' w2 ho hg hb=>by
  have hpn:some p≠av.ownBlock:=fun e2=>(hap.2 p e2.symm).2 rfl
  have hbox:Blk w2 p 113 [av]:=(hg.block p hIb.box.lt hpn).trans hIb.box
  have hSp:∀ b,(SA b∨S2 b)→S b:=fun b hb2=>hb2.elim (fun h2=>(k4 b).2 (.inl h2)) fun h2=>(k4 b).2 (.inr ((m4 b).2 (.inr h2)))
  have hes:EsAt (ga++gb) (A++B) (fun b=>SA b∨S2 b) (w2.setCell ⟨p,0,none⟩ av'):=(k1.app m2 fun b h1 h2=>k3 b h1 ((m4 b).2 (.inr h2))).keep fun b hb2=>by
   have hS:=hSp b hb2
   rw [Below.heap_setCell _ _ _ _ (show b≠p from fun e2=>hap.1 (e2 ▸ hS))]
   exact hg.block b (hIb.each.kind hS).1 fun e2=>(hap.2 b e2.symm).1 hS
  have hn:∀ b,av'.ownBlock=some b→b≠p:=fun b hb2=>(hap.2 b (hb ▸ hb2)).2
  refine ⟨TrS p av' (fun b=>SA b∨S2 b),⟨p,av',ga++gb,_,rfl,⟨hbox.set_ 0 av',own_keep ho fun b hb2=>Below.heap_setCell _ _ _ _ (hn b hb2),?_⟩,rfl⟩,⟨hg.os.trans hbw.os,hg.tape.trans hbw.tape,hg.output.trans hbw.output,by have h1:=hg.size;have h2:=hbw.size;simp only [World.setCell,Array.size_modify];omega,fun k hk hn2=>?_⟩,?_⟩
  ·rw [Tr.remove_split he hA hB];exact hes
  ·rw [Below.heap_setCell _ _ _ _ (fun e2=>hn2 (.inl e2))]
   exact (hg.block k (Nat.lt_of_lt_of_le hk hbw.size) fun e2=>hn2 (.inr (.inl e2.symm))).trans (hbw.block k hk)
  ·rintro b (rfl|hb2|hb2)
   ·exact .inl (.inl rfl)
   ·exact .inl (.inr (.inl (hb ▸ hb2)))
   ·exact .inl (.inr (.inr (hSp b hb2)))
 rw [show DelPt av gs (fun x=>x==g) wb=fun e w'=>∃ v',e=.returned v'∧w'.ownsRow 0 90 1 v' (ga++gb).length (ptrCells (ga++gb))∧wb.grownBy w' av.ownBlock∧v'.ownBlock=av.ownBlock by unfold DelPt;rw [hfil]] at hdel
 have HFR:Hid (∀ w2,wb.grownBy w2 av.ownBlock→w2.cell? ⟨p,0,none⟩=some av∧w2.frozen? ⟨p,0,none⟩=false):=fun w2 hg=>by
  have h2:Blk w2 p 113 [av]:=(hg.block p hIb.box.lt (fun e2=>(hap.2 p e2.symm).2 rfl)).trans hIb.box
  exact ⟨h2.cell 0,h2.frozen 0⟩
 have HDEL:=Lib.hid hdel
 obtain ⟨A0,c,hav,_,_⟩:=own_form h.row
 subst hav
 clear hdel hIb h hbw hblk hnf hap hent hr hf he hA hB hgs k1 k3 k4 m1 m2 m3 m4 hfil hgl hlt
 subst hwb
 go_enter Tryz.func106,Tryz.ntmps106
 go_wp2_with fail
 refine HDEL.out.mono ?_
 rintro r w2 ⟨av',rfl,ho,hg,hb⟩
 obtain ⟨A9,c9,rfl,_,_⟩:=own_form ho
 have HO:=Lib.hid ho
 have HG:=Lib.hid hg
 have HB:=Lib.hid hb
 obtain ⟨hc2,hf2⟩:=HFR.out w2 hg
 clear ho hg hb
 go_wp2_with fail
 refine bodyPost_end (results_none rfl _ _ _) rfl ?_
 have hend:=HEND.out _ w2 HO.out HG.out HB.out
 simp only [List.length_append] at hend
 exact ⟨rfl,hend⟩
end Tm
end Go.Proofs.YtbnpgakmhhfjkaaGreatDoor
namespace Go.Proofs.YtbnpgakmhhfjkaaGreatDoor
open Go.RowKit Rc
open Tr (Nm En T)
namespace Tm
variable {p:Nat} {av:Value} {gs:List Nat} {S:Nat→Prop} {t:T} {w:World}
theorem find_lt (h:TIn p av gs S t w) (hG:Tr.Good t) (W:World) (hW:Below w.heap.size w W) (i:Int):Calls Tryz.prog 56 #[.pointer (some ⟨p,0,none⟩),.int .i64 i] W fun e w'=>e=.returned (ptrOf gs t i)∧w'=W:=find_any (h.below hW) i (by have:=hG.few;omega)
def fileV (gs:List Nat) (t:T) (i:Int) (n:Nat):Value:=.tuple #[if n=0 then ptrOf gs t i else .pointer none,.int .i64 (n:Nat)]
set_option maxHeartbeats 1000000 in
set_option maxRecDepth 100000 in
theorem file_any (h:TIn p av gs S t w) (hG:Tr.Good t) (i:Int) :
    Calls Tryz.prog 64 #[.pointer (some ⟨p,0,none⟩),.int .i64 i] w fun e w'=>e=.returned (fileV gs t i (Tr.file t i))∧w'=w:=by
 have HF:=Lib.hid (find_lt h hG w (Below.refl _ _) i)
 rcases Tr.file_cases t i with ⟨h1,h2⟩|⟨h1,e,h2,h3⟩|⟨h1,e,h2,h3⟩
 ·rw [h1]
  rw [ptrOf_none (Tr.find_none.1 h2)] at HF
  clear h hG h1 h2
  go_enter Tryz.func64,Tryz.ntmps64
  go_wp2_with fail
  refine HF.out.mono ?_
  rintro e w1 ⟨rfl,rfl⟩
  go_wp2_with fail
  go_ret2
  exact ⟨rfl,rfl⟩
 ·obtain ⟨g,S1,hp,hE,_,_⟩:=h.ptr hG h2
  rw [h1]
  rw [hp] at HF
  have HV:Hid (fileV gs t i 0=.tuple #[.pointer (some ⟨g,0,none⟩),.int .i64 0]):=by
   show _=_
   unfold fileV
   rw [if_pos rfl,hp];rfl
  have c1:=hE.cells.2.1
  have hk:(e.nd.kind==2)=true:=by simpa using h3
  clear h hG h1 h2 h3 hE hp
  go_enter Tryz.func64,Tryz.ntmps64
  go_wp2_with fail
  refine HF.out.mono ?_
  rintro e w1 ⟨rfl,rfl⟩
  go_wp2_with fail
  go_ret2
  exact ⟨rfl,rfl⟩
 ·obtain ⟨g,S1,hp,hE,_,_⟩:=h.ptr hG h2
  rw [h1]
  rw [hp] at HF
  have HV:Hid (fileV gs t i 0=.tuple #[.pointer (some ⟨g,0,none⟩),.int .i64 0]):=by
   show _=_
   unfold fileV
   rw [if_pos rfl,hp];rfl
  have c1:=hE.cells.2.1
  have hk:(e.nd.kind==2)=false:=by simpa using h3
  clear h hG h1 h2 h3 hE hp
  go_enter Tryz.func64,Tryz.ntmps64
  go_wp2_with fail
  refine HF.out.mono ?_
  rintro e w1 ⟨rfl,rfl⟩
  go_wp2_with fail
  go_ret2
  exact ⟨by rw [HV.out];rfl,rfl⟩
set_option maxHeartbeats 1000000 in
set_option maxRecDepth 100000 in
theorem open_any (h:TIn p av gs S t w) (hG:Tr.Good t) (i:Int) :
    Calls Tryz.prog 149 #[.pointer (some ⟨p,0,none⟩),.int .i64 i] w fun e w'=>e=.returned (fileV gs t i (Tr.openN t i))∧w'=w:=by
 have HF:=Lib.hid (file_any h hG i)
 rcases Tr.file_cases t i with ⟨h1,h2⟩|⟨h1,e,h2,h3⟩|⟨h1,e,h2,h3⟩
 any_goals
  have HN:Hid (Tr.openN t i=Tr.file t i):=by
   show _=_
   unfold Tr.openN
   rw [if_pos (by rw [h1];simp)]
  rw [HN.out,h1]
  rw [h1] at HF
  unfold fileV at HF
  clear h hG h1
  go_enter Tryz.func149,Tryz.ntmps149
  go_wp2_with fail
  refine HF.out.mono ?_
  rintro e w1 ⟨rfl,rfl⟩
  go_wp2_with fail
  go_ret2
  exact ⟨rfl,rfl⟩
 obtain ⟨g,S1,hp,hE,_,_⟩:=h.ptr hG h2
 have HN:Hid (Tr.openN t i=if e.nd.shut=true then 27 else 0):=by
  show _=_
  unfold Tr.openN
  rw [if_neg (by rw [h1];simp),Tr.ndOf_of h2]
 have HV:Hid (fileV gs t i 0=.tuple #[.pointer (some ⟨g,0,none⟩),.int .i64 0]):=by
  show _=_
  unfold fileV
  rw [if_pos rfl,hp];rfl
 rw [h1,HV.out] at HF
 rw [HN.out]
 have c1:=hE.cells.2.2.2.2.2
 obtain ⟨b,hb⟩:∃ b,b=e.nd.shut:=⟨_,rfl⟩
 rw [← hb] at c1 ⊢
 clear h hG h1 h2 h3 hE hp hb
 cases b
 ·go_enter Tryz.func149,Tryz.ntmps149
  go_wp2_with fail
  refine HF.out.mono ?_
  rintro e w1 ⟨rfl,rfl⟩
  go_wp2_with fail
  go_ret2
  exact ⟨(congrArg Ending.returned HV.out).symm,rfl⟩
 ·go_enter Tryz.func149,Tryz.ntmps149
  go_wp2_with fail
  refine HF.out.mono ?_
  rintro e w1 ⟨rfl,rfl⟩
  go_wp2_with fail
  go_ret2
  exact ⟨rfl,rfl⟩
set_option maxHeartbeats 1000000 in
set_option maxRecDepth 100000 in
theorem node_any (h:TIn p av gs S t w) (hG:Tr.Good t) (i:Int) :
    Calls Tryz.prog 20 #[.pointer (some ⟨p,0,none⟩),.int .i64 i] w fun e w'=>e=.returned (.tuple #[(Tr.node t i).1.val,.bool (Tr.node t i).2])∧Below w.heap.size w w':=by
 have hb0:=below_new w (.cells #[.int .i64 0,.int .i64 0,.int .i64 0,.int .i64 0,.int .u64 0,.bool false] 31)
 have HB0:=Lib.hid hb0
 have HF:=Lib.hid (find_lt h hG _ hb0 i)
 cases hf:Tr.find t i with
 | none =>
   rw [ptrOf_none (Tr.find_none.1 hf)] at HF
   have HN:Hid (Tr.node t i=(Nd.zero,false)):=by
    show _=_
    unfold Tr.node Tr.ndOf
    rw [hf];rfl
   clear h hG hf hb0
   go_enter Tryz.func20,Tryz.ntmps20
   go_wp2_with fail
   refine HF.out.mono ?_
   rintro e w1 ⟨rfl,rfl⟩
   go_wp2_with fail
   refine bodyPost_ret (results_blk_tmp rfl _ _ w.heap.size 31 [.int .i64 0,.int .i64 0,.int .i64 0,.int .i64 0,.int .u64 0,.bool false] _ rfl (Blk.new w _ _) rfl rfl rfl) rfl ⟨?_,?_⟩
   ·rw [HN.out];rfl
   ·exact below_new w _
 | some en =>
   obtain ⟨g,S1,hp,hE,_,_⟩:=(h.below hb0).ptr hG hf
   rw [hp] at HF
   have HN:Hid (Tr.node t i=(en.nd,true)):=by
    show _=_
    unfold Tr.node
    rw [Tr.ndOf_of hf,hf];rfl
   obtain ⟨c0,c1,c2,c3,c4,c5⟩:=hE.cells
   clear h hG hf hb0 hE hp
   obtain ⟨⟨id,kind,links,size,till,shut⟩,data,names⟩:=en
   simp only at c0 c1 c2 c3 c4 c5 HN
   go_enter Tryz.func20,Tryz.ntmps20
   go_wp2_with fail
   refine HF.out.mono ?_
   rintro e w1 ⟨rfl,rfl⟩
   go_wp2_with fail
   refine bodyPost_ret (results_blk_tmp rfl _ _ w.heap.size 31 [.int .i64 id,.int .i64 kind,.int .i64 links,.int .i64 size,.int .u64 (till:Nat),.bool shut] _ rfl (Blk.new w _ _) rfl rfl rfl) rfl ⟨?_,?_⟩
   ·rw [HN.out];rfl
   ·exact below_new w _
end Tm
end Go.Proofs.YtbnpgakmhhfjkaaGreatDoor
