/-
  OWN WORK. TrDelE, TrTree, TrFile, PaShelf, TrShelf, TrStr, TrMake, TrLink, TrWalk
-/
import Derived.Test.YtbnpgakmhhfjkaaGreatDoorZ07
import Derived.RangeFuncBox
import Derived.Test.YtbnpgakmhhfjkaaGreatDoorZ04
import Derived.Test.YtbnpgakmhhfjkaaGreatDoorZ05
import Derived.Shelf.Strings.Builder1
import Derived.Shelf.Small.Bits
import Derived.Shelf.Small.Strs
import Derived.Shelf.Strconv.Itoa0
import Derived.Shelf.LaysM
import Derived.Shelf.Strconv.Clone
import Derived.Ground.SlsfProg
import Derived.Shelf.SlSortCmp.Insertion
import Derived.Shelf.SlSortCmp.SiftDown1
import Derived.Shelf.SlSortCmp.HeapSort1
import Derived.Shelf.SlSortCmp.Insertion1
import Derived.Shelf.SlSortCmp.Median1
import Derived.Shelf.SlSortCmp.Pivot1
import Derived.Shelf.SlSortCmp.ReverseRange1
import Derived.Shelf.SlSortCmp.PartialInsertion1
import Derived.Shelf.SlSortCmp.PartitionEqual1
import Derived.Shelf.SlSortCmp.Partition1
import Derived.Shelf.SlSortCmp.Pdq1
import Derived.Shelf.SlSortCmp.Whole1
import Derived.Shelf.SlSortCmp.NoneTotal
import Derived.Test.YtbnpgakmhhfjkaaGreatDoorProg
import Derived.Test.YtbnpgakmhhfjkaaGreatDoorZ06
namespace Go.Proofs.YtbnpgakmhhfjkaaGreatDoor
open Go.RowKit Rc
open Tr (Nm En T)
namespace Tm
def idxPt (p:Nat→Bool):List Nat→Nat→Int
 | [],_=>-1
 | x :: l,i=>if p x then (i:Int) else idxPt p l (i+1)
theorem idxPt_split (p:Nat→Bool):∀ (l:List Nat) (i:Nat),(idxPt p l i=-1∧∀ x ∈ l,p x=false)∨∃ j x,j<l.length∧idxPt p l i=((i+j:Nat):Int)∧l[j]?=some x∧p x=true∧∀ y ∈ l.take j,p y=false
 | [],i=>.inl ⟨rfl,fun x h=>by simp at h⟩
 | x :: l,i=>by
   unfold idxPt
   cases hx:p x
   ·rcases idxPt_split p l (i+1) with ⟨h1,h2⟩|⟨j,y,h1,h2,h3,h4,h5⟩
    ·exact .inl ⟨by simpa using h1,fun y hy=>by rcases List.mem_cons.1 hy with rfl|hy;exact hx;exact h2 y hy⟩
    ·refine .inr ⟨j+1,y,by simp only [List.length_cons];omega,by simp only [Bool.false_eq_true,if_false];rw [h2];congr 1;omega,by simpa using h3,h4,fun z hz=>?_⟩
     rw [List.take_succ_cons] at hz
     rcases List.mem_cons.1 hz with rfl|hz
     ·exact hx
     ·exact h5 z hz
   ·exact .inr ⟨0,x,by simp,by simp,rfl,hx,fun y hy=>by simp at hy⟩
theorem idxPt_step (p:Nat→Bool) (l:List Nat) (j i:Nat) (h:∀ y ∈ l.take j,p y=false):idxPt p l i=idxPt p (l.drop j) (i+j):=by
 induction j generalizing l i with
 | zero=>simp
 | succ j ih =>
   cases l with
   | nil=>simp [idxPt]
   | cons x l =>
     rw [List.take_succ_cons] at h
     rw [List.drop_succ_cons,idxPt,if_neg (by rw [h x (.head _)];simp),ih l (i+1) fun y hy=>h y (.tail _ hy)]
     congr 1;omega
def ToldPt (v:Value) (w:World) (f:FuncId) (cb:Array Value) (p:Nat→Bool) (l:List Nat):Prop :=
 ∀ W,w.grownBy W v.ownBlock→∀ x ∈ l,Calls Tryz.prog f (#[.pointer (some ⟨x,0,none⟩)]++cb) W fun e w'=>e=.returned (.bool (p x))∧Below W.heap.size W w'
theorem grown_below_TrDelE {w wr w':World} {row:Option Nat} (h:w.grownBy wr row) (hb:Below wr.heap.size wr w'):w.grownBy w' row :=
 ⟨hb.os.trans h.os,hb.tape.trans h.tape,hb.output.trans h.output,Nat.le_trans h.size hb.size,fun b hlt hne=>(hb.block b (Nat.lt_of_lt_of_le hlt h.size)).trans (h.block b hlt hne)⟩
theorem below_grown_TrDelE {w wr:World} (h:Below w.heap.size w wr) (row:Option Nat):w.grownBy wr row:=⟨h.os,h.tape,h.output,h.size,fun b hlt _=>h.block b hlt⟩
set_option maxHeartbeats 1000000 in
set_option maxRecDepth 100000 in
theorem indexPt_any (w:World) (v:Value) (l:List Nat) (f:FuncId) (cb:Array Value) (p:Nat→Bool) (hent:∀ (args:Array Value) (w:World),(callFunc f args).run Tryz.prog w=.ok (.enter f args) w)
    (hown:w.ownsRow 0 90 1 v l.length (ptrCells l)) (hl:l.length≤1000000000) (hp:ToldPt v w f cb p l) :
    Calls Tryz.prog 188 #[v,.func (.func f) #[] cb] w fun e w'=>e=.returned (.int .i64 (idxPt p l 0))∧Below w.heap.size w w':=by
 have HP:=Lib.hid hp
 have HO:=Lib.hid hown
 obtain ⟨A,c,rfl,hc,hA⟩:=own_form hown
 have HA:=Lib.hid hA
 clear hp hown hA
 go_enter Tryz.func188,Tryz.ntmps188
 go_wp2_with fail
 go_loopw [8] (fun t8 wr=>∃ j:Nat,t8=.int .i64 j∧j≤l.length∧Hid (∀ y ∈ l.take j,p y=false)∧Hid (Below w.heap.size w wr)) (fun t8 _=>l.length-(match t8 with|.int _ k=>k.toNat|_=>0))
 case atStart=>exact ⟨0,rfl,Nat.zero_le _,fun y hy=>by simp at hy,Below.refl _ _⟩
 case round =>
  obtain ⟨j,rfl,hj,HN,HB⟩:=hrel
  by_cases hk:j<l.length
  ·obtain ⟨x,hx⟩:∃ x,l[j]?=some x:=⟨_,List.getElem?_eq_getElem hk⟩
   have hlt:(j:Int)<(l.length:Int):=by omega
   obtain ⟨g,hAg,hob,_,hgl,hcell⟩:=HA.out (by omega)
   subst hAg
   have c0:wr.cell? ⟨g,j,none⟩=some (.pointer (some ⟨x,0,none⟩)):=(HB.out.cell (p:=⟨g,j,none⟩) hgl).trans (hcell _ _ (by simp [ptrCells,hx]))
   have HX:=Lib.hid hx
   have HC:=HP.out wr (below_grown_TrDelE HB.out _) x (List.mem_of_getElem? hx)
   have HCC:=Lib.hid HC
   clear hx hcell HC hob hgl
   go_wp2_with fail
   refine HCC.out.mono ?_
   rintro e w1 ⟨rfl,hb⟩
   have HB1:Hid (Below w.heap.size w w1):=HB.out.trans (hb.mono HB.out.size)
   clear hb
   cases hpx:p x
   ·have HN1:Hid (∀ y ∈ l.take (j+1),p y=false):=fun y hy=>by
     rw [List.take_succ_eq_append_getElem hk,List.mem_append] at hy
     rcases hy with hy|hy
     ·exact HN.out y hy
     ·have e:l[j]=x:=(List.getElem?_eq_some_iff.1 HX.out).2
      simp only [List.mem_singleton] at hy
      rw [hy,e];exact hpx
    go_wp2_with fail
    go_roundw
    case rel=>exact ⟨j+1,by go_num,by omega,HN1.out,HB1.out⟩
    case measure=>simp;omega
   ·have HI:Hid (idxPt p l 0=(j:Int)):=by
     show _=_
     rw [idxPt_step p l j 0 HN.out,List.drop_eq_getElem_cons hk]
     have e:l[j]=x:=(List.getElem?_eq_some_iff.1 HX.out).2
     rw [idxPt,e,if_pos hpx,Nat.zero_add]
    go_wp2_with fail
    go_ret
    exact ⟨by rw [HI.out];rfl,HB1.out⟩
  ·obtain rfl:j=l.length:=by omega
   have HI:Hid (idxPt p l 0=-1):=by
    show _=_
    rcases idxPt_split p l 0 with h|⟨j,x,h1,_,h3,h4,_⟩
    ·exact h.1
    ·have h5:=HN.out x (by rw [List.take_length];exact List.mem_of_getElem? h3)
     rw [h5] at h4;cases h4
   go_wp2_with fail
   go_ret
   exact ⟨by rw [HI.out];rfl,HB.out⟩
structure HalfPt (l:List Nat) (p:Nat→Bool) (cap i j:Nat) (cur:List Value):Prop where
 cnt:((l.take j).filter fun x=>!p x).length=i
 len:cur.length=cap*1
 done:cur.take (i)=ptrCells ((l.take j).filter fun x=>!p x)
 rest:(cur.drop (j)).take ((l.length-j)*1)=ptrCells (l.drop j)
theorem HalfPt.le {l:List Nat} {p:Nat→Bool} {cap i j:Nat} {cur:List Value} (h:HalfPt l p cap i j cur):i≤j:=by
 rw [← h.cnt]
 exact Nat.le_trans (List.length_filter_le _ _) (by rw [List.length_take];omega)
theorem take_next_TrDelE {α:Type} {l:List α} {j:Nat} {x:α} (hx:l[j]?=some x):l.take (j+1)=l.take j++[x]:=by
 have hj:=(List.getElem?_eq_some_iff.1 hx).1
 rw [List.take_succ_eq_append_getElem hj,(List.getElem?_eq_some_iff.1 hx).2]
theorem HalfPt.out {l:List Nat} {p:Nat→Bool} {cap i j:Nat} {cur:List Value} (h:HalfPt l p cap i j cur) {x:Nat} (hx:l[j]?=some x) (hp:p x=true):HalfPt l p cap i (j+1) cur:=by
 have e:((l.take (j+1)).filter fun x=>!p x)=(l.take j).filter fun x=>!p x:=by
  rw [take_next_TrDelE hx,List.filter_append];simp [hp]
 refine ⟨by rw [e];exact h.cnt,h.len,by rw [e];exact h.done,?_⟩
 have hr:=congrArg (List.drop 1) h.rest
 rw [List.drop_take,List.drop_drop] at hr
 have hd:l.drop j=x :: l.drop (j+1):=by
  have hj:=(List.getElem?_eq_some_iff.1 hx).1
  rw [List.drop_eq_getElem_cons hj,(List.getElem?_eq_some_iff.1 hx).2]
 rw [hd] at hr
 rw [show j+1=j+1 by omega,show (l.length-(j+1))*1=(l.length-j)*1-1 by omega]
 exact hr
theorem HalfPt.keep {l:List Nat} {p:Nat→Bool} {cap i j:Nat} {cur:List Value} (h:HalfPt l p cap i j cur) (hc:l.length≤cap) {x:Nat} (hx:l[j]?=some x) (hp:p x=false):HalfPt l p cap (i+1) (j+1) (cur.set i (.pointer (some ⟨x,0,none⟩))):=by
 have hj:=(List.getElem?_eq_some_iff.1 hx).1
 have hij:=h.le
 have e:((l.take (j+1)).filter fun x=>!p x)=((l.take j).filter fun x=>!p x)++[x]:=by
  rw [take_next_TrDelE hx,List.filter_append];simp [hp]
 have hd:l.drop j=x :: l.drop (j+1):=by
  rw [List.drop_eq_getElem_cons hj,(List.getElem?_eq_some_iff.1 hx).2]
 refine ⟨by rw [e,List.length_append,h.cnt];rfl,by simp [h.len],?_,?_⟩
 ·rw [e,ptrCells_append,← h.done]
  have hlt:i<(cur.set i (.pointer (some ⟨x,0,none⟩))).length:=by simp [h.len];omega
  rw [List.take_succ_eq_append_getElem hlt,List.take_set_of_le (Nat.le_refl _)]
  simp [List.getElem_set,ptrCells]
 ·have hr:=congrArg (List.drop 1) h.rest
  rw [List.drop_take,List.drop_drop,hd] at hr
  rw [show (l.length-(j+1))*1=(l.length-j)*1-1 by omega]
  have e2:(cur.set i (.pointer (some ⟨x,0,none⟩))).drop (j+1)=cur.drop (j+1):=by
   rw [List.drop_set_of_lt (by omega)]
  rw [e2,show j+1=j+1 by omega]
  exact hr
theorem HalfPt.cell {l:List Nat} {p:Nat→Bool} {cap i j:Nat} {cur:List Value} (h:HalfPt l p cap i j cur) {x:Nat} (hx:l[j]?=some x):cur[j]?=some (.pointer (some ⟨x,0,none⟩)):=by
 have hj:=(List.getElem?_eq_some_iff.1 hx).1
 have hd:l.drop j=x :: l.drop (j+1):=by
  rw [List.drop_eq_getElem_cons hj,(List.getElem?_eq_some_iff.1 hx).2]
 have key:∀ m,m<1→cur[j+m]?=(ptrCells (x :: l.drop (j+1)))[m]?:=fun m hm=>by
  rw [← hd,← h.rest,List.getElem?_take_of_lt (by omega),List.getElem?_drop]
 exact key 0 (by omega)
def DelPt (v:Value) (l:List Nat) (p:Nat→Bool) (w:World) (e:Ending) (w':World):Prop :=
 ∃ v',e=.returned v'∧w'.ownsRow 0 90 1 v' (l.filter fun x=>!p x).length (ptrCells (l.filter fun x=>!p x))∧w.grownBy w' v.ownBlock∧(v'.ownBlock=v.ownBlock)
theorem zeroPt (w:World):(zeroValue 90).run Tryz.prog w=.ok (.pointer none) w:=by kernel_rfl
set_option maxHeartbeats 2000000 in
set_option maxRecDepth 100000 in
theorem deletePt_any (w:World) (v:Value) (l:List Nat) (f:FuncId) (cb:Array Value) (p:Nat→Bool) (hent:∀ (args:Array Value) (w:World),(callFunc f args).run Tryz.prog w=.ok (.enter f args) w)
    (hown:w.ownsRow 0 90 1 v l.length (ptrCells l)) (hl:l.length≤1000000000) (hp:ToldPt v w f cb p l) :
    Calls Tryz.prog 154 #[v,.func (.func f) #[] cb] w (DelPt v l p w):=by
 have HI:=Lib.hid (indexPt_any w v l f cb p hent hown hl hp)
 rcases idxPt_split p l 0 with ⟨h1,h2⟩|⟨m,x0,hm,h1,h3,h4,h5⟩
 ·rw [h1] at HI
  have HOWN:=Lib.hid hown
  have HF:Hid ((l.filter fun x=>!p x)=l):=by
   show _=_
   rw [List.filter_eq_self]
   intro x hx
   rw [h2 x hx];rfl
  clear hown hp h1 h2
  go_enter Tryz.func154,Tryz.ntmps154
  go_wp2_with fail
  refine HI.out.mono ?_
  rintro e w1 ⟨rfl,hb⟩
  have HB:=Lib.hid hb
  clear hb
  go_wp2_with fail
  go_ret
  refine ⟨_,rfl,by rw [HF.out];exact own_keep HOWN.out fun b hb=>HB.out.block b (own_blk HOWN.out hb).2.1,below_grown_TrDelE HB.out _,rfl⟩
 ·rw [h1,Nat.zero_add] at HI
  rcases hown.2 with ⟨_,h0⟩|⟨g,cap,cur0,rfl,hB,hg,hnc,hcm,hsz,htk⟩
  ·omega
  have hblk:Blk w g 90 cur0.toList:=by simpa [Blk] using hg
  have hlen0:cur0.toList.length=cap*1:=by simpa using hsz
  have hhalf:HalfPt l p cap m (m+1) cur0.toList:=by
   have e:((l.take (m+1)).filter fun x=>!p x)=l.take m:=by
    rw [take_next_TrDelE h3,List.filter_append]
    simp only [List.filter_cons,h4,Bool.not_true,Bool.false_eq_true,if_false,List.filter_nil,List.append_nil]
    rw [List.filter_eq_self]
    intro x hx
    rw [h5 x hx];rfl
   refine ⟨by rw [e,List.length_take];omega,hlen0,?_,?_⟩
   ·rw [e,ptrCells_take,← htk,List.take_take,Nat.min_eq_left (by omega)]
   ·rw [ptrCells_drop,← htk,List.drop_take]
    congr 1;omega
  have HP:=Lib.hid hp
  have HH0:=Lib.hid hhalf
  have HBL:=Lib.hid hblk
  have HCAP:Hid (l.length≤cap∧cap≤maxLen):=⟨hnc,hcm⟩
  have hc63:cap≤9223372036854775807:=by unfold maxLen at hcm;omega
  have hcl:=hnc
  have q1:∀ w' (i:Nat),i≤l.length→(Instr.sliceAt 111 (.slice (some ⟨g,0,none⟩) l.length cap) (some (.int .i64 (i:Int))) none none).run Tryz.prog w'=.ok (.slice (cutPt (some ⟨g,0,none⟩) i cap) (l.length-i) (cap-i)) w':=fun w' i hi=>slPt_l w' (some ⟨g,0,none⟩) l.length cap i hi
  have q2:∀ w' (i:Nat),i≤cap→(Instr.sliceAt 111 (.slice (some ⟨g,0,none⟩) l.length cap) none (some (.int .i64 (i:Int))) none).run Tryz.prog w'=.ok (.slice (some ⟨g,0,none⟩) i cap) w':=fun w' i hi=>slPt_h w' (some ⟨g,0,none⟩) l.length cap i hi
  have Q1:=Lib.hid q1
  have Q2:=Lib.hid q2
  clear q1 q2 hown hp h1 h3 h4 h5 hg hnc hcm hsz htk hblk hlen0 hhalf hB
  go_enter Tryz.func154,Tryz.ntmps154
  go_wp2_with fail
  refine HI.out.mono ?_
  rintro e w1 ⟨rfl,hb⟩
  have HB1:Hid (w.grownBy w1 (some g)):=below_grown_TrDelE hb _
  have HBL1:Hid (Blk w1 g 90 cur0.toList):=HBL.out.below hb HBL.out.lt
  clear hb HBL
  have wm:IntKind.i64.wrap ((m:Int)+1)=(m:Int)+1:=by rw [IntKind.wrap_i64];omega
  have hmm:((m:Int)==-1)=false:=by rw [beq_eq_false_iff_ne];omega
  go_wp2_with fail
  go_loopw [5,6,7] (fun t5 t6 t7 wr=>∃ (i j:Nat) (v7:Value) (cur:List Value),t5=.int .i64 i∧t6=.int .i64 j∧t7=v7∧j≤l.length∧i<j∧Hid (HalfPt l p cap i j cur)∧Hid (Blk wr g 90 cur)∧Hid (w.grownBy wr (some g))) (fun _ t6 _ _=>l.length-(match t6 with|.int _ k=>k.toNat|_=>0))
  case atStart=>exact ⟨m,m+1,_,_,rfl,by simp,rfl,by omega,by omega,HH0.out,HBL1.out,HB1.out⟩
  case round =>
   obtain ⟨i,j,v7,cur,rfl,rfl,rfl,hj,hij,HH,HBL,HB⟩:=hrel
   by_cases hk:j<l.length
   ·obtain ⟨x,hx⟩:∃ x,l[j]?=some x:=⟨_,List.getElem?_eq_getElem hk⟩
    have hlt:(j:Int)<(l.length:Int):=by omega
    have c0:wr.cell? ⟨g,j,none⟩=some (.pointer (some ⟨x,0,none⟩)):=(HBL.out.cell _).trans (HH.out.cell hx)
    have wj:IntKind.i64.wrap ((j:Int)+1)=(j:Int)+1:=by rw [IntKind.wrap_i64];omega
    have wi:IntKind.i64.wrap ((i:Int)+1)=(i:Int)+1:=by rw [IntKind.wrap_i64];omega
    have HX:=Lib.hid hx
    have HC:=HP.out wr HB.out x (List.mem_of_getElem? hx)
    have HCC:=Lib.hid HC
    clear HC
    clear hx
    go_wp2_with fail
    refine HCC.out.mono ?_
    rintro e w2 ⟨rfl,hb⟩
    have HB2:Hid (w.grownBy w2 (some g)):=grown_below_TrDelE HB.out hb
    have HBL2:Hid (Blk w2 g 90 cur):=HBL.out.below hb HBL.out.lt
    clear hb
    cases hpx:p x
    ·have HHN:=Lib.hid (HH.out.keep HCAP.out.1 HX.out hpx)
     obtain ⟨y0,s0⟩:∃ y,w2.cell? ⟨g,i,none⟩=some y:=⟨_,by rw [HBL2.out.cell,List.getElem?_eq_getElem (by rw [HH.out.len];have:=HCAP.out.1;omega)]⟩
     have f0:w2.frozen? ⟨g,i,none⟩=false:=HBL2.out.frozen _
     go_wp2_with fail
     go_roundw
     case rel=>exact ⟨i+1,j+1,_,_,by go_num,by go_num,rfl,by omega,by omega,HHN.out,HBL2.out.set_ _ _,Keeps.setCell (g:=g) HB2.out _ _⟩
     case measure=>simp;omega
    ·have HHN:=Lib.hid (HH.out.out HX.out hpx)
     go_wp2_with fail
     go_roundw
     case rel=>exact ⟨i,j+1,_,_,rfl,by go_num,rfl,by omega,by omega,HHN.out,HBL2.out,HB2.out⟩
     case measure=>simp;omega
   ·obtain rfl:j=l.length:=by omega
    have hlt:¬ ((l.length:Int)<(l.length:Int)):=by omega
    have hi1:i≤l.length:=by omega
    obtain ⟨w3,cs,hcl3,hb3,hk3,hl3⟩:=run_clear_k (P:=Tryz.prog) wr 111 90 0 (.pointer none) underePt (zeroPt wr) g (i) (l.length-i) (cap-i) cur 90 HBL.out (by rw [HH.out.len];simp [Value.cells];omega) (by intro v hv;simp [Value.cells] at hv;first|(rcases hv with rfl|rfl <;> rfl)|(rw [hv];rfl))
    have q1:(Instr.sliceAt 111 (.slice (some ⟨g,0,none⟩) l.length cap) (some (.int .i64 (i:Int))) none none).run Tryz.prog wr=.ok (.slice (some ⟨g,i,none⟩) (l.length-i) (cap-i)) wr:=by rw [Q1.out wr i hi1,cutPt_at g i cap (by omega)]
    have q2:∀ w',(Instr.sliceAt 111 (.slice (some ⟨g,0,none⟩) l.length cap) none (some (.int .i64 (i:Int))) none).run Tryz.prog w'=.ok (.slice (some ⟨g,0,none⟩) i cap) w':=fun w'=>Q2.out w' i (by omega)
    have HB3:=Lib.hid hb3
    have HK3:=Lib.hid hk3
    have HL3:=Lib.hid hl3
    clear hb3 hk3 hl3
    go_wp2_with fail
    go_ret
    have hf:(l.filter fun x=>!p x).length=i:=by rw [← HH.out.cnt,List.take_length]
    have hdone:=HH.out.done
    rw [List.take_length] at hdone
    refine ⟨_,rfl,?_,?_,rfl⟩
    ·rw [hf]
     refine ⟨?_,.inr ⟨g,cap,(splice cur (i) cs).toArray,rfl,Nat.zero_le _,HB3.out,by have:=HCAP.out.1;omega,HCAP.out.2,?_,?_⟩⟩
     ·rw [← hdone,List.length_take,HH.out.len];have:=HCAP.out.1;omega
     ·have hlz:cs.length=(l.length-i)*1:=by rw [HL3.out];rfl
      rw [List.size_toArray,splice_length _ _ _ (by rw [hlz,HH.out.len];have:=HCAP.out.1;omega),HH.out.len]
     ·rw [← hdone]
      have hle:i≤cur.length:=by rw [HH.out.len];have:=HCAP.out.1;omega
      have h9:=splice_take cur (i) cs hle
      simpa using h9
    ·exact Keeps.trans HB.out HK3.out
end Tm
end Go.Proofs.YtbnpgakmhhfjkaaGreatDoor
namespace Go.Proofs.YtbnpgakmhhfjkaaGreatDoor
open Go.RowKit Rc
open Tr (Nm En T)
namespace Tm
variable {p:Nat} {av:Value} {gs:List Nat} {S:Nat→Prop} {t:T} {w:World}
def TTurn (p:Nat) (t':T) (x:Value) (S:Nat→Prop) (w:World) (e:Ending) (w':World):Prop :=
 e=.returned x∧∃ S',TAt (.pointer (some ⟨p,0,none⟩)) t' S' w'∧Mod w w' S∧∀ b,S' b→S b∨w.heap.size≤b
theorem TTurn.stay (h:TIn p av gs S t w) {x:Value} {w':World} (hb:Below w.heap.size w w'):TTurn p t x (TrS p av S) w (.returned x) w' :=
 ⟨rfl,TrS p av S,(h.below hb).at_,Mod.of_below hb _,fun _ h=>.inl h⟩
theorem TIn.turnAt (h:TIn p av gs S t w) (hr:Tr.Ris t) {i:Int} {e:En} (hf:Tr.find t i=some e):∃ g S1,ptrOf gs t i=.pointer (some ⟨g,0,none⟩)∧EAt g e S1 w∧(∀ b,S1 b→S b) ∧
    (∀ w' (f:En→En) S1',EAt g (f e) S1' w'→Mod w w' S1→(∀ b,S1' b→S1 b∨w.heap.size≤b)→∃ S',TIn p av gs S' (Tr.upd t i f) w'∧Mod w w' (TrS p av S)∧∀ b,TrS p av S' b→TrS p av S b∨w.heap.size≤b):=by
 obtain ⟨A,B,rfl,he,hA,hB⟩:=hr.split hf
 obtain ⟨ga,g,gb,S1,hgs,hl,h1,h2,h3⟩:=h.turn
 refine ⟨g,S1,by rw [hgs];exact ptrOf_mid hl (fun a ha=>by have:=hA a ha;omega) he,h1,h2,fun w' f S1' k1 k2 k3=>?_⟩
 rw [Tr.upd_split he hA hB]
 exact h3 w' (f e) S1' k1 k2 k3
theorem EIn.poke {g:Nat} {dv nv:Value} {e e':En} {i:Nat} {u:Value} (h:EIn g dv nv e w) (hc:(enCells e dv nv).set i u=enCells e' dv nv) (hd:e'.data=e.data) (hn:e'.names=e.names):EAt g e' (EnS g dv nv) (w.setCell ⟨g,i,none⟩ u)∧Mod w (w.setCell ⟨g,i,none⟩ u) (EnS g dv nv):=by
 have hdg:∀ b,dv.ownBlock=some b→b≠g:=fun b hb2=>by
  obtain ⟨_,_,cs,h1⟩:=own_blk h.data hb2
  exact h1.ne_ h.box (by decide)
 have hng:∀ b,nv.ownBlock=some b→b≠g:=fun b hb2=>by
  obtain ⟨_,_,cs,h1⟩:=own_blk h.names hb2
  exact h1.ne_ h.box (by decide)
 refine ⟨⟨dv,nv,⟨by rw [← hc];exact h.box.set_ i u,?_,?_⟩,rfl⟩,⟨rfl,rfl,rfl,by simp [World.setCell],fun k _ hk=>Below.heap_setCell _ _ _ _ (fun e2=>hk (.inl e2))⟩⟩
 ·rw [hd];exact own_keep h.data fun b hb=>Below.heap_setCell _ _ _ _ (hdg b hb)
 ·rw [hn];exact own_keep h.names fun b hb=>Below.heap_setCell _ _ _ _ (hng b hb)
set_option maxHeartbeats 1000000 in
set_option maxRecDepth 100000 in
theorem new_any (w:World):Calls Tryz.prog 36 #[] w fun e w'=>∃ p av gs S,e=.returned (.pointer (some ⟨p,0,none⟩))∧TIn p av gs S Tr.new w'∧Below w.heap.size w w'∧∀ b,TrS p av S b→w.heap.size≤b:=by
 have HF:=Lib.hid (fresh_any w 0 2)
 go_enter Tryz.func36,Tryz.ntmps36
 go_wp2_with fail
 refine HF.out.mono ?_
 rintro e w1 ⟨g,rfl,hE,rfl,hb⟩
 have HE:=Lib.hid hE
 have HB:=Lib.hid hb
 clear hE hb
 go_wp2_with fail
 go_ret
 have hb2:Below w1.heap.size w1 (w1.alloc (.cells #[.pointer (some ⟨w.heap.size,0,none⟩)] 90)):=below_new _ _
 have hrow:Blk (w1.alloc (.cells #[.pointer (some ⟨w.heap.size,0,none⟩)] 90)) w1.heap.size 90 [.pointer (some ⟨w.heap.size,0,none⟩)]:=Blk.new w1 _ _
 obtain ⟨w2,hw2⟩:∃ w2,w2=w1.alloc (.cells #[.pointer (some ⟨w.heap.size,0,none⟩)] 90):=⟨_,rfl⟩
 have hsz:w2.heap.size=w1.heap.size+1:=by rw [hw2,World.size_alloc]
 have hE2:=HE.out.keep (fun b hb=>hb2.block b (HE.out.kind hb).1)
 rw [← hw2] at hb2 hrow hE2 ⊢
 have hb3:Below w2.heap.size w2 (w2.alloc (.cells #[.slice (some ⟨w1.heap.size,0,none⟩) 1 1] 113)):=below_new _ _
 refine ⟨w2.heap.size,.slice (some ⟨w1.heap.size,0,none⟩) 1 1,[w.heap.size],EnS w.heap.size (.slice none 0 0) (.slice none 0 0),?_,⟨Blk.new w2 _ _,⟨rfl,.inr ⟨w1.heap.size,1,#[.pointer (some ⟨w.heap.size,0,none⟩)],rfl,Nat.zero_le _,?_,Nat.le_refl _,by unfold maxLen;omega,rfl,rfl⟩⟩,?_⟩,?_,?_⟩
 ·rw [hsz];rfl
 ·exact hrow.below hb3 hrow.lt
 ·exact ⟨_,fun _=>False,(hE2.keep fun b hb=>hb3.block b (hE2.kind hb).1).at_,fun _ h=>h,fun b hb h=>h,fun b=>⟨.inl,fun h=>h.elim id False.elim⟩⟩
 ·exact HB.out.trans ((hb2.mono HB.out.size).trans (hb3.mono (by have:=HB.out.size;omega)))
 ·have:=HB.out.size
  rintro b (rfl|hb|rfl|hb|hb)
  ·omega
  ·simp [Value.ownBlock] at hb;omega
  ·omega
  ·simp [Value.ownBlock] at hb
  ·simp [Value.ownBlock] at hb
/-! Taken out. -/
theorem EsAt.in_:∀ {gs:List Nat} {t:T} {S:Nat→Prop} {w:World},EsAt gs t S w→∀ {g:Nat},g ∈ gs→S g∧∃ e ∈ t,∃ S1,EAt g e S1 w∧∀ b,S1 b→S b
 | [],[],_,_,_,_,h=>by cases h
 | g :: gs,e :: t,_,_,⟨S1,S2,h1,h2,h3,h4⟩,g',h=>by
   rcases List.mem_cons.1 h with rfl|h
   ·exact ⟨(h4 _).2 (.inl h1.self),e,.head _,S1,h1,fun b hb=>(h4 b).2 (.inl hb)⟩
   ·obtain ⟨k1,e',k2,S',k3,k4⟩:=EsAt.in_ h2 h
    exact ⟨(h4 _).2 (.inr k1),e',.tail _ k2,S',k3,fun b hb=>(h4 b).2 (.inr (k4 b hb))⟩
 | [],_ :: _,_,_,h,_,_=>h.elim
 | _ :: _,[],_,_,h,_,_=>h.elim
set_option maxHeartbeats 1000000 in
set_option maxRecDepth 100000 in
theorem remove1_any (W:World) (b g:Nat) (i k:Int) (hc:W.cell? ⟨b,0,none⟩=some (.int .i64 i)) (hg:W.cell? ⟨g,0,none⟩=some (.int .i64 k)) :
    Calls Tryz.prog 155 #[.pointer (some ⟨g,0,none⟩),.pointer (some ⟨b,0,none⟩)] W fun e w'=>e=.returned (.bool (k==i))∧Below W.heap.size W w':=by
 obtain ⟨q,hq⟩:∃ q,q=(k==i):=⟨_,rfl⟩
 have hb:(k==i)=q:=hq.symm
 rw [← hq]
 clear hq
 go_enter Tryz.func155,Tryz.ntmps155
 go_wp2_with fail
 go_quiet (fail)
 go_wp2_with fail
 go_ret
 exact ⟨rfl,⟨rfl,rfl,rfl,Nat.le_refl _,fun _ _=>rfl⟩⟩
set_option maxHeartbeats 2000000 in
set_option maxRecDepth 100000 in
theorem remove_any (h:TIn p av gs S t w) (hr:Tr.Ris t) (hlt:t.length≤1000000) {i:Int} {e:En} (hf:Tr.find t i=some e) :
    Calls Tryz.prog 106 #[.pointer (some ⟨p,0,none⟩),.int .i64 i] w (TTurn p (Tr.remove t i) (.tuple #[]) (TrS p av S) w):=by
 obtain ⟨wb,hwb⟩:∃ wb,wb=w.alloc (.cells #[.int .i64 i] 3):=⟨_,rfl⟩
 have hbw:Below w.heap.size w wb:=by rw [hwb];exact below_new w _
 have hIb:=h.below hbw
 have hblk:Blk wb w.heap.size 3 [.int .i64 i]:=by rw [hwb];exact Blk.new w _ _
 have c0:wb.cell? ⟨p,0,none⟩=some av:=hIb.box.cell 0
 have hnf:av.ownBlock≠some w.heap.size:=fun e2=>by have:=(own_blk h.row e2).2.1;omega
 have hap:=hIb.apart
 have hent:∀ (args:Array Value) (w:World),(callFunc 155 args).run Tryz.prog w=.ok (.enter 155 args) w:=enters_of Tryz.func155 (by kernel_rfl) rfl
 obtain ⟨A,B,rfl,he,hA,hB⟩:=hr.split hf
 have hsp:=hIb.each.split
 obtain ⟨ga,gb',SA,SB,hgs,k1,k2,k3,k4⟩:=hsp
 cases gb' with
 | nil=>exact k2.elim
 | cons g gb =>
 obtain ⟨S1,S2,m1,m2,m3,m4⟩:=k2
 have hgl:=hIb.each.len
 have hdel:=deletePt_any wb av gs 155 #[.pointer (some ⟨w.heap.size,0,none⟩)] (fun x=>x==g) hent hIb.row (by omega) (fun W hW x hx=>by
  have hcb:W.cell? ⟨w.heap.size,0,none⟩=some (.int .i64 i):=by
   have h1:=hW.block w.heap.size hblk.lt (fun e2=>hnf e2.symm)
   have h2:Blk W w.heap.size 3 [.int .i64 i]:=h1.trans hblk
   exact h2.cell 0
  have hkeep:∀ {x:Nat} {e':En} {S':Nat→Prop},EAt x e' S' wb→(∀ b,S' b→S b)→W.cell? ⟨x,0,none⟩=some (.int .i64 e'.nd.id):=fun {x e' S'} hE hS=>by
   refine (hE.keep (w':=W) fun b hb=>hW.block b (hE.kind hb).1 fun e2=>?_).cells.1
   exact (hap.2 b e2.symm).1 (hS b hb)
  by_cases hxg:x=g
  ·subst hxg
   have h1:=remove1_any W w.heap.size x i e.nd.id hcb (hkeep m1 fun b hb=>(k4 b).2 (.inr ((m4 b).2 (.inl hb))))
   rw [show (e.nd.id==i)=true by simpa using he] at h1
   simpa using h1
  ·have hin:∃ e',e'.nd.id≠i∧∃ S',EAt x e' S' wb∧∀ b,S' b→S b:=by
    rw [hgs,List.mem_append,List.mem_cons] at hx
    rcases hx with hx|hx|hx
    ·obtain ⟨_,e',h2,S',h3,h4⟩:=k1.in_ hx
     exact ⟨e',by have:=hA e' h2;omega,S',h3,fun b hb=>(k4 b).2 (.inl (h4 b hb))⟩
    ·exact absurd hx hxg
    ·obtain ⟨_,e',h2,S',h3,h4⟩:=m2.in_ hx
     exact ⟨e',by have:=hB e' h2;omega,S',h3,fun b hb=>(k4 b).2 (.inr ((m4 b).2 (.inr (h4 b hb))))⟩
   obtain ⟨e',h1,S',h2,h3⟩:=hin
   have h4:=remove1_any W w.heap.size x i e'.nd.id hcb (hkeep h2 h3)
   rw [show (e'.nd.id==i)=false by simpa using h1] at h4
   show Calls _ _ _ W fun e w'=>e=.returned (.bool (x==g))∧_
   rw [show (x==g)=false by simpa using hxg]
   exact h4)
 have hfil:(gs.filter fun x=>!(x==g))=ga++gb:=by
  rw [hgs,List.filter_append,List.filter_cons,if_neg (by simp)]
  have hga:∀ x ∈ ga,x≠g:=fun x hx e2=>by
   have h1:=(k1.in_ hx).1
   rw [e2] at h1
   exact k3 g h1 ((m4 g).2 (.inl m1.self))
  have hgb:∀ x ∈ gb,x≠g:=fun x hx e2=>by
   have h1:=(m2.in_ hx).1
   rw [e2] at h1
   exact m3 g m1.self h1
  rw [List.filter_eq_self.2 (fun x hx=>by simpa using hga x hx),List.filter_eq_self.2 (fun x hx=>by simpa using hgb x hx)]
 have HEND:Hid (∀ av' w2,w2.ownsRow 0 90 1 av' (ga++gb).length (ptrCells (ga++gb))→wb.grownBy w2 av.ownBlock→av'.ownBlock=av.ownBlock→∃ S',TAt (.pointer (some ⟨p,0,none⟩)) (Tr.remove (A++e :: B) i) S' (w2.setCell ⟨p,0,none⟩ av')∧Mod w (w2.setCell ⟨p,0,none⟩ av') (TrS p av S)∧∀ b,S' b→TrS p av S b∨w.heap.size≤b):=fun av' w2 ho hg hb=>by
  have hpn:some p≠av.ownBlock:=fun e2=>(hap.2 p e2.symm).2 rfl
  have hbox:Blk w2 p 113 [av]:=(hg.block p hIb.box.lt hpn).trans hIb.box
  have hSp:∀ b,(SA b∨S2 b)→S b:=fun b hb2=>hb2.elim (fun h2=>(k4 b).2 (.inl h2)) fun h2=>(k4 b).2 (.inr ((m4 b).2 (.inr h2)))
  have hes:EsAt (ga++gb) (A++B) (fun b=>SA b∨S2 b) (w2.setCell ⟨p,0,none⟩ av'):=(k1.app m2 fun b h1 h2=>k3 b h1 ((m4 b).2 (.inr h2))).keep fun b hb2=>by
   have hS:=hSp b hb2
   rw [Below.heap_setCell _ _ _ _ (show b≠p from fun e2=>hap.1 (e2 ▸ hS))]
   exact hg.block b (hIb.each.kind hS).1 fun e2=>(hap.2 b e2.symm).1 hS
  have hn:∀ b,av'.ownBlock=some b→b≠p:=fun b hb2=>(hap.2 b (hb ▸ hb2)).2
  refine ⟨TrS p av' (fun b=>SA b∨S2 b),⟨p,av',ga++gb,_,rfl,⟨hbox.set_ 0 av',own_keep ho fun b hb2=>Below.heap_setCell _ _ _ _ (hn b hb2),?_⟩,rfl⟩,⟨hg.os.trans hbw.os,hg.tape.trans hbw.tape,hg.output.trans hbw.output,by have h1:=hg.size;have h2:=hbw.size;simp only [World.setCell,Array.size_modify];omega,fun k hk hn2=>?_⟩,?_⟩
  ·rw [Tr.remove_split he hA hB];exact hes
  ·rw [Below.heap_setCell _ _ _ _ (fun e2=>hn2 (.inl e2))]
   exact (hg.block k (Nat.lt_of_lt_of_le hk hbw.size) fun e2=>hn2 (.inr (.inl e2.symm))).trans (hbw.block k hk)
  ·rintro b (rfl|hb2|hb2)
   ·exact .inl (.inl rfl)
   ·exact .inl (.inr (.inl (hb ▸ hb2)))
   ·exact .inl (.inr (.inr (hSp b hb2)))
 rw [show DelPt av gs (fun x=>x==g) wb=fun e w'=>∃ v',e=.returned v'∧w'.ownsRow 0 90 1 v' (ga++gb).length (ptrCells (ga++gb))∧wb.grownBy w' av.ownBlock∧v'.ownBlock=av.ownBlock by unfold DelPt;rw [hfil]] at hdel
 have HFR:Hid (∀ w2,wb.grownBy w2 av.ownBlock→w2.cell? ⟨p,0,none⟩=some av∧w2.frozen? ⟨p,0,none⟩=false):=fun w2 hg=>by
  have h2:Blk w2 p 113 [av]:=(hg.block p hIb.box.lt (fun e2=>(hap.2 p e2.symm).2 rfl)).trans hIb.box
  exact ⟨h2.cell 0,h2.frozen 0⟩
 have HDEL:=Lib.hid hdel
 obtain ⟨A0,c,hav,_,_⟩:=own_form h.row
 subst hav
 clear hdel hIb h hbw hblk hnf hap hent hr hf he hA hB hgs k1 k3 k4 m1 m2 m3 m4 hfil hgl hlt
 subst hwb
 go_enter Tryz.func106,Tryz.ntmps106
 go_wp2_with fail
 refine HDEL.out.mono ?_
 rintro r w2 ⟨av',rfl,ho,hg,hb⟩
 obtain ⟨A9,c9,rfl,_,_⟩:=own_form ho
 have HO:=Lib.hid ho
 have HG:=Lib.hid hg
 have HB:=Lib.hid hb
 obtain ⟨hc2,hf2⟩:=HFR.out w2 hg
 clear ho hg hb
 go_wp2_with fail
 refine bodyPost_end (results_none rfl _ _ _) rfl ?_
 have hend:=HEND.out _ w2 HO.out HG.out HB.out
 simp only [List.length_append] at hend
 exact ⟨rfl,hend⟩
end Tm
end Go.Proofs.YtbnpgakmhhfjkaaGreatDoor
namespace Go.Proofs.YtbnpgakmhhfjkaaGreatDoor
open Go.RowKit Rc
open Tr (Nm En T)
namespace Tm
variable {p:Nat} {av:Value} {gs:List Nat} {S:Nat→Prop} {t:T} {w:World}
theorem find_lt (h:TIn p av gs S t w) (hG:Tr.Good t) (W:World) (hW:Below w.heap.size w W) (i:Int):Calls Tryz.prog 56 #[.pointer (some ⟨p,0,none⟩),.int .i64 i] W fun e w'=>e=.returned (ptrOf gs t i)∧w'=W:=find_any (h.below hW) i (by have:=hG.few;omega)
def fileV (gs:List Nat) (t:T) (i:Int) (n:Nat):Value:=.tuple #[if n=0 then ptrOf gs t i else .pointer none,.int .i64 (n:Nat)]
set_option maxHeartbeats 1000000 in
set_option maxRecDepth 100000 in
theorem file_any (h:TIn p av gs S t w) (hG:Tr.Good t) (i:Int) :
    Calls Tryz.prog 64 #[.pointer (some ⟨p,0,none⟩),.int .i64 i] w fun e w'=>e=.returned (fileV gs t i (Tr.file t i))∧w'=w:=by
 have HF:=Lib.hid (find_lt h hG w (Below.refl _ _) i)
 rcases Tr.file_cases t i with ⟨h1,h2⟩|⟨h1,e,h2,h3⟩|⟨h1,e,h2,h3⟩
 ·rw [h1]
  rw [ptrOf_none (Tr.find_none.1 h2)] at HF
  clear h hG h1 h2
  go_enter Tryz.func64,Tryz.ntmps64
  go_wp2_with fail
  refine HF.out.mono ?_
  rintro e w1 ⟨rfl,rfl⟩
  go_wp2_with fail
  go_ret2
  exact ⟨rfl,rfl⟩
 ·obtain ⟨g,S1,hp,hE,_,_⟩:=h.ptr hG h2
  rw [h1]
  rw [hp] at HF
  have HV:Hid (fileV gs t i 0=.tuple #[.pointer (some ⟨g,0,none⟩),.int .i64 0]):=by
   show _=_
   unfold fileV
   rw [if_pos rfl,hp];rfl
  have c1:=hE.cells.2.1
  have hk:(e.nd.kind==2)=true:=by simpa using h3
  clear h hG h1 h2 h3 hE hp
  go_enter Tryz.func64,Tryz.ntmps64
  go_wp2_with fail
  refine HF.out.mono ?_
  rintro e w1 ⟨rfl,rfl⟩
  go_wp2_with fail
  go_ret2
  exact ⟨rfl,rfl⟩
 ·obtain ⟨g,S1,hp,hE,_,_⟩:=h.ptr hG h2
  rw [h1]
  rw [hp] at HF
  have HV:Hid (fileV gs t i 0=.tuple #[.pointer (some ⟨g,0,none⟩),.int .i64 0]):=by
   show _=_
   unfold fileV
   rw [if_pos rfl,hp];rfl
  have c1:=hE.cells.2.1
  have hk:(e.nd.kind==2)=false:=by simpa using h3
  clear h hG h1 h2 h3 hE hp
  go_enter Tryz.func64,Tryz.ntmps64
  go_wp2_with fail
  refine HF.out.mono ?_
  rintro e w1 ⟨rfl,rfl⟩
  go_wp2_with fail
  go_ret2
  exact ⟨by rw [HV.out];rfl,rfl⟩
set_option maxHeartbeats 1000000 in
set_option maxRecDepth 100000 in
theorem open_any (h:TIn p av gs S t w) (hG:Tr.Good t) (i:Int) :
    Calls Tryz.prog 149 #[.pointer (some ⟨p,0,none⟩),.int .i64 i] w fun e w'=>e=.returned (fileV gs t i (Tr.openN t i))∧w'=w:=by
 have HF:=Lib.hid (file_any h hG i)
 rcases Tr.file_cases t i with ⟨h1,h2⟩|⟨h1,e,h2,h3⟩|⟨h1,e,h2,h3⟩
 any_goals
  have HN:Hid (Tr.openN t i=Tr.file t i):=by
   show _=_
   unfold Tr.openN
   rw [if_pos (by rw [h1];simp)]
  rw [HN.out,h1]
  rw [h1] at HF
  unfold fileV at HF
  clear h hG h1
  go_enter Tryz.func149,Tryz.ntmps149
  go_wp2_with fail
  refine HF.out.mono ?_
  rintro e w1 ⟨rfl,rfl⟩
  go_wp2_with fail
  go_ret2
  exact ⟨rfl,rfl⟩
 obtain ⟨g,S1,hp,hE,_,_⟩:=h.ptr hG h2
 have HN:Hid (Tr.openN t i=if e.nd.shut=true then 27 else 0):=by
  show _=_
  unfold Tr.openN
  rw [if_neg (by rw [h1];simp),Tr.ndOf_of h2]
 have HV:Hid (fileV gs t i 0=.tuple #[.pointer (some ⟨g,0,none⟩),.int .i64 0]):=by
  show _=_
  unfold fileV
  rw [if_pos rfl,hp];rfl
 rw [h1,HV.out] at HF
 rw [HN.out]
 have c1:=hE.cells.2.2.2.2.2
 obtain ⟨b,hb⟩:∃ b,b=e.nd.shut:=⟨_,rfl⟩
 rw [← hb] at c1 ⊢
 clear h hG h1 h2 h3 hE hp hb
 cases b
 ·go_enter Tryz.func149,Tryz.ntmps149
  go_wp2_with fail
  refine HF.out.mono ?_
  rintro e w1 ⟨rfl,rfl⟩
  go_wp2_with fail
  go_ret2
  exact ⟨(congrArg Ending.returned HV.out).symm,rfl⟩
 ·go_enter Tryz.func149,Tryz.ntmps149
  go_wp2_with fail
  refine HF.out.mono ?_
  rintro e w1 ⟨rfl,rfl⟩
  go_wp2_with fail
  go_ret2
  exact ⟨rfl,rfl⟩
set_option maxHeartbeats 1000000 in
set_option maxRecDepth 100000 in
theorem node_any (h:TIn p av gs S t w) (hG:Tr.Good t) (i:Int) :
    Calls Tryz.prog 20 #[.pointer (some ⟨p,0,none⟩),.int .i64 i] w fun e w'=>e=.returned (.tuple #[(Tr.node t i).1.val,.bool (Tr.node t i).2])∧Below w.heap.size w w':=by
 have hb0:=below_new w (.cells #[.int .i64 0,.int .i64 0,.int .i64 0,.int .i64 0,.int .u64 0,.bool false] 31)
 have HB0:=Lib.hid hb0
 have HF:=Lib.hid (find_lt h hG _ hb0 i)
 cases hf:Tr.find t i with
 | none =>
   rw [ptrOf_none (Tr.find_none.1 hf)] at HF
   have HN:Hid (Tr.node t i=(Nd.zero,false)):=by
    show _=_
    unfold Tr.node Tr.ndOf
    rw [hf];rfl
   clear h hG hf hb0
   go_enter Tryz.func20,Tryz.ntmps20
   go_wp2_with fail
   refine HF.out.mono ?_
   rintro e w1 ⟨rfl,rfl⟩
   go_wp2_with fail
   refine bodyPost_ret (results_blk_tmp rfl _ _ w.heap.size 31 [.int .i64 0,.int .i64 0,.int .i64 0,.int .i64 0,.int .u64 0,.bool false] _ rfl (Blk.new w _ _) rfl rfl rfl) rfl ⟨?_,?_⟩
   ·rw [HN.out];rfl
   ·exact below_new w _
 | some en =>
   obtain ⟨g,S1,hp,hE,_,_⟩:=(h.below hb0).ptr hG hf
   rw [hp] at HF
   have HN:Hid (Tr.node t i=(en.nd,true)):=by
    show _=_
    unfold Tr.node
    rw [Tr.ndOf_of hf,hf];rfl
   obtain ⟨c0,c1,c2,c3,c4,c5⟩:=hE.cells
   clear h hG hf hb0 hE hp
   obtain ⟨⟨id,kind,links,size,till,shut⟩,data,names⟩:=en
   simp only at c0 c1 c2 c3 c4 c5 HN
   go_enter Tryz.func20,Tryz.ntmps20
   go_wp2_with fail
   refine HF.out.mono ?_
   rintro e w1 ⟨rfl,rfl⟩
   go_wp2_with fail
   refine bodyPost_ret (results_blk_tmp rfl _ _ w.heap.size 31 [.int .i64 id,.int .i64 kind,.int .i64 links,.int .i64 size,.int .u64 (till:Nat),.bool shut] _ rfl (Blk.new w _ _) rfl rfl rfl) rfl ⟨?_,?_⟩
   ·rw [HN.out];rfl
   ·exact below_new w _
end Tm
end Go.Proofs.YtbnpgakmhhfjkaaGreatDoor
namespace Go.Proofs.YtbnpgakmhhfjkaaGreatDoor
open Go.Shelf Go.Proofs
def Tryz.laysM316_ren:Go.Shelf.Ren:=⟨fun|316=>182|n=>n,fun|9=>9|3=>3|4=>4|37=>23|0=>0|127=>215|5=>5|n=>n,fun|n=>n⟩
theorem Tryz.laysM316:Go.Proofs.LaysM.n316 Tryz.prog Tryz.laysM316_ren:={
 mixed:=by kernel_rfl
 f316:=Tryz.func182.trans (congrArg some (by kernel_rfl))
 t0:=Tryz.underlying0
 a0:=Tryz.isAgg0
 z0:=Tryz.sizeOf0
 v0:=Tryz.zeroValue0
 t3:=Tryz.underlying3
 a3:=Tryz.isAgg3
 z3:=Tryz.sizeOf3
 v3:=Tryz.zeroValue3
 t4:=Tryz.underlying4
 a4:=Tryz.isAgg4
 z4:=Tryz.sizeOf4
 v4:=Tryz.zeroValue4
 t9:=Tryz.underlying9
 a9:=Tryz.isAgg9
 z9:=Tryz.sizeOf9
 v9:=Tryz.zeroValue9
 t37:=Tryz.underlying23
 a37:=Tryz.isAgg23
 z37:=Tryz.sizeOf23
 v37:=Tryz.zeroValue23
 t127:=Tryz.underlying215
 a127:=Tryz.isAgg215
 z127:=Tryz.sizeOf215
 v127:=Tryz.zeroValue215
 t5:=Tryz.underlying5
 a5:=Tryz.isAgg5
 z5:=Tryz.sizeOf5
 v5:=Tryz.zeroValue5
 i0:=by kernel_rfl
 i3:=by kernel_rfl
 i4:=by kernel_rfl
 i5:=by kernel_rfl
 i9:=by kernel_rfl
 i37:=by kernel_rfl
 i127:=by kernel_rfl }
open Go.RowKit in
theorem Tryz.stringslite_Clone (s:ByteArray) (w:World) (hlim:s.size≤281474976710656) :
    Calls Tryz.prog 182 #[.string s] w fun e w'=>e=.returned (.string s)∧Below w.heap.size w w':=Any.stringslite_Clone Tryz.laysM316 s w hlim
end Go.Proofs.YtbnpgakmhhfjkaaGreatDoor
/- OWN WORK. The shelf, once. -/
namespace Go.Proofs.YtbnpgakmhhfjkaaGreatDoor
open Go.RowKit Rc
namespace Tm
set_option maxHeartbeats 1000000 in
set_option maxRecDepth 100000 in
theorem cloneSaid:CloneSaid:=by
 intro s w hs
 have h:=Tryz.stringslite_Clone (strOf s) w (by rw [strOf_size];omega)
 have H:=Lib.hid h
 clear h
 go_enter Tryz.func144,Tryz.ntmps144
 go_wp2_with fail
 refine H.out.mono ?_
 rintro e w1 ⟨rfl,hb⟩
 have HB:=Lib.hid hb
 clear hb
 go_wp2_with fail
 go_ret
 exact ⟨rfl,HB.out⟩
end Tm
end Go.Proofs.YtbnpgakmhhfjkaaGreatDoor
namespace Go.Proofs.YtbnpgakmhhfjkaaGreatDoor
open Go.RowKit Rc
open Tr (Nm En T)
namespace Tm
variable {p:Nat} {av:Value} {gs:List Nat} {S:Nat→Prop} {t:T} {w:World}
theorem insE_take {t:T} {n:En} {k:Nat} (hk:k≤t.length) (h1:∀ j e,j<k→t[j]?=some e→e.nd.id<n.nd.id) (h2:∀ e,t[k]?=some e→¬ e.nd.id<n.nd.id):Tr.insE t n=t.take k++n :: t.drop k:=by
 induction k generalizing t with
 | zero =>
   cases t with
   | nil=>rfl
   | cons e t =>
     unfold Tr.insE
     rw [if_neg (h2 e rfl)];rfl
 | succ k ih =>
   cases t with
   | nil=>simp at hk
   | cons e t =>
     unfold Tr.insE
     rw [if_pos (h1 0 e (by omega) rfl),ih (by simpa using hk) (fun j m hj hm=>h1 (j+1) m (by omega) (by simpa using hm)) (fun m hm=>h2 m (by simpa using hm))]
     rfl
theorem ptrOf_ins:∀ {ga gb:List Nat} {g:Nat} {A B:T} {e:En} {i:Int},ga.length=A.length→e.nd.id≠i→ptrOf (ga++g :: gb) (A++e :: B) i=ptrOf (ga++gb) (A++B) i
 | [],gb,g,[],B,e,i,_,he=>by
   show (if _ then _ else _)=_
   rw [if_neg he];rfl
 | x :: ga,gb,g,a :: A,B,e,i,hl,he=>by
   show (if _ then _ else _)=(if _ then _ else _)
   by_cases hi:a.nd.id=i
   ·rw [if_pos hi,if_pos hi]
   ·rw [if_neg hi,if_neg hi]
    exact ptrOf_ins (by simpa using hl) he
theorem TIn.insert (h:TIn p av gs S t w) {g:Nat} {e:En} {S1:Nat→Prop} {k:Nat} {av':Value} {w1:World} (he:EAt g e S1 w) (hk:k≤t.length) (hd:∀ b,TrS p av S b→¬ S1 b)
    (ho:w1.ownsRow 0 90 1 av' (gs.take k++g :: gs.drop k).length (ptrCells (gs.take k++g :: gs.drop k))) (hg:w.grownBy w1 av.ownBlock) (hb:∀ b,av'.ownBlock=some b→av.ownBlock=some b∨w.heap.size≤b) :
    ∃ S',TIn p av' (gs.take k++g :: gs.drop k) S' (t.take k++e :: t.drop k) (w1.setCell ⟨p,0,none⟩ av')∧Mod w (w1.setCell ⟨p,0,none⟩ av') (TrS p av S)∧∀ b,TrS p av' S' b→TrS p av S b∨S1 b∨w.heap.size≤b:=by
 have hap:=h.apart
 have hpn:some p≠av.ownBlock:=fun e2=>(hap.2 p e2.symm).2 rfl
 have hbox:Blk w1 p 113 [av]:=(hg.block p h.box.lt hpn).trans h.box
 have hes0:EsAt gs (t.take k++t.drop k) S w:=by rw [List.take_append_drop];exact h.each
 obtain ⟨ga,gb,S',h1,h2,h3,h4⟩:=hes0.into he fun b hb2=>hd b (.inr (.inr hb2))
 have hga:ga=gs.take k:=by
  have:ga.length=k:=by rw [h2,List.length_take];omega
  rw [h1,← this,List.take_left]
 have hgb:gb=gs.drop k:=by
  have:ga.length=k:=by rw [h2,List.length_take];omega
  rw [h1,← this,List.drop_left]
 rw [hga,hgb] at h3
 have hp1:¬ S1 p:=hd p (.inl rfl)
 have hnp:∀ b,av'.ownBlock=some b→b≠p:=fun b hb2 e2=>by
  rcases hb b hb2 with h5|h5
  ·exact (hap.2 b h5).2 e2
  ·have:=h.box.lt;omega
 refine ⟨S',⟨hbox.set_ 0 av',own_keep ho fun b hb2=>Below.heap_setCell _ _ _ _ (hnp b hb2),h3.keep fun b hb2=>?_⟩,⟨hg.os,hg.tape,hg.output,by simpa [World.setCell] using hg.size,fun j hj hn=>?_⟩,?_⟩
 ·have hbp:b≠p:=fun e2=>by
   rcases (h4 b).1 hb2 with h5|h5
   ·exact hap.1 (e2 ▸ h5)
   ·exact hp1 (e2 ▸ h5)
  rw [Below.heap_setCell _ _ _ _ hbp]
  rcases (h4 b).1 hb2 with h5|h5
  ·exact hg.block b (h.each.kind h5).1 fun e2=>(hap.2 b e2.symm).1 h5
  ·exact hg.block b (he.kind h5).1 fun e2=>hd b (.inr (.inl e2.symm)) h5
 ·rw [Below.heap_setCell _ _ _ _ (fun e2=>hn (.inl e2))]
  exact hg.block j hj fun e2=>hn (.inr (.inl e2.symm))
 ·rintro b (rfl|hb2|hb2)
  ·exact .inl (.inl rfl)
  ·exact (hb b hb2).elim (fun h5=>.inl (.inr (.inl h5))) (fun h5=>.inr (.inr h5))
  ·exact ((h4 b).1 hb2).elim (fun h5=>.inl (.inr (.inr h5))) (fun h5=>.inr (.inl h5))
theorem TTurn.trans {S0 S1:Nat→Prop} {w0 w1 w2:World} {t2:T} {x y:Value} (hm:Mod w0 w1 S0) (hs:∀ b,S1 b→S0 b∨w0.heap.size≤b) (h:TTurn p t2 x S1 w1 (.returned x) w2):TTurn p t2 y S0 w0 (.returned y) w2:=by
 obtain ⟨_,S3,n1,n2,n3⟩:=h
 refine ⟨rfl,S3,n1,?_,fun b hb=>?_⟩
 ·refine ⟨n2.os.trans hm.os,n2.tape.trans hm.tape,n2.output.trans hm.output,Nat.le_trans hm.size n2.size,fun k hk hn=>(n2.block k (Nat.lt_of_lt_of_le hk hm.size) fun h8=>?_).trans (hm.block k hk hn)⟩
  rcases hs k h8 with h9|h9
  ·exact hn h9
  ·omega
 ·rcases n3 b hb with h8|h8
  ·exact hs b h8
  ·exact .inr (Nat.le_trans hm.size h8)
theorem formed_one (w:World) (A:Option Addr) (q:List Bs) (cap:Nat) (hr:RdS w A q) (hc:q.length≤cap) (hl:q.length≤1000000) (hs:∀ s ∈ q,s.length≤1000000) :
    Calls Tryz.prog 84 #[.slice (some ⟨w.heap.size,0,none⟩) 1 1] (w.alloc (.cells #[.slice A q.length cap] 29)) fun e w'=>e=.returned (.int .i64 (Tr.formed q:Nat))∧w'=w.alloc (.cells #[.slice A q.length cap] 29):=by
 have h:=formed_any _ _ [q] 1 (rdP_one w q A cap 29 hc hr) (by simp) (fun p hp=>by
  obtain rfl:p=q:=by simpa using hp
  exact ⟨hl,fun s h=>by have:=hs s h;omega⟩)
 have e:formedL [q]=Tr.formed q:=by
  unfold formedL
  split
  ·rfl
  ·rename_i h1
   have h2:Tr.formed q=0:=Decidable.byContradiction h1
   rw [h2];rfl
 rw [e] at h
 exact h
theorem ptrOf_upd {f:En→En} (hf:∀ e,(f e).nd.id=e.nd.id) (d i:Int):∀ {gs:List Nat} {t:T},ptrOf gs (Tr.upd t d f) i=ptrOf gs t i
 | [],[]=>rfl
 | [],_ :: _=>rfl
 | _ :: _,[]=>rfl
 | g :: gs,e :: t=>by
   have h1:(if e.nd.id==d then f e else e).nd.id=e.nd.id:=by split <;> simp [hf]
   show (if (if e.nd.id==d then f e else e).nd.id=i then _ else _)=(if _ then _ else _)
   rw [h1]
   by_cases hi:e.nd.id=i
   ·rw [if_pos hi,if_pos hi]
   ·rw [if_neg hi,if_neg hi]
    exact ptrOf_upd hf d i (gs:=gs) (t:=t)
theorem ptr_inj {a b:Nat} (h:Value.pointer (some ⟨a,0,none⟩)=.pointer (some ⟨b,0,none⟩)):a=b:=by
 injection h with h;injection h with h;injection h
theorem make_put (h6:TIn p av gs S t w) (hr:Tr.Ris t) {g:Nat} {kn:Nat} {kind:Int} (hE:EIn g (.slice none 0 0) (.slice none 0 0) (Tr.fresh (kn:Int) kind) w) (hgS:∀ b,TrS p av S b→b≠g) (hk:kn≤t.length)
    (hins:Tr.insE t (Tr.fresh (kn:Int) kind)=t.take kn++Tr.fresh (kn:Int) kind :: t.drop kn) (hnew:∀ e ∈ t,e.nd.id≠(kn:Int)) {d:Int} {en:En} (hfd:Tr.find t d=some en) {gd:Nat} (hpd:ptrOf gs t d=.pointer (some ⟨gd,0,none⟩)) (x:Bs)
    {av':Value} {w7:World} (ho:w7.ownsRow 0 90 1 av' (gs.take kn++g :: gs.drop kn).length (ptrCells (gs.take kn++g :: gs.drop kn))) (hg:w.grownBy w7 av.ownBlock) (hb:∀ b,av'.ownBlock=some b→av.ownBlock=some b∨w.heap.size≤b) :
    (w7.setCell ⟨p,0,none⟩ av').cell? ⟨g,0,none⟩=some (.int .i64 (kn:Int))∧∃ S1,EAt gd en S1 (w7.setCell ⟨p,0,none⟩ av') ∧
     ∀ w9,ETurn gd { en with names:=Tr.ins en.names x (kn:Int) } S1 (w7.setCell ⟨p,0,none⟩ av') (.returned (.tuple #[])) w9→w9.cell? ⟨g,0,none⟩=some (.int .i64 (kn:Int)) ∧
      ∃ S2,TAt (.pointer (some ⟨p,0,none⟩)) (Tr.put (Tr.insE t (Tr.fresh (kn:Int) kind)) d x (kn:Int)) S2 w9∧Mod w w9 (fun b=>TrS p av S b∨b=g)∧∀ b,S2 b→TrS p av S b∨b=g∨w.heap.size≤b:=by
 have hS1:∀ b,EnS g (.slice none 0 0) (.slice none 0 0) b→b=g:=by
  rintro b (rfl|h|h)
  ·rfl
  ·cases h
  ·cases h
 obtain ⟨S',h8,hm8,hs8⟩:=h6.insert hE.at_ hk (fun b hb1 hb2=>hgS b hb1 (hS1 b hb2)) ho hg hb
 have hris:Tr.Ris (Tr.insE t (Tr.fresh (kn:Int) kind)):=Tr.insE_ris hr hnew
 have hfi:=Tr.find_insE hr (n:=Tr.fresh (kn:Int) kind) hnew
 rw [← hins] at h8
 have hl:(gs.take kn).length=(t.take kn).length:=by rw [List.length_take,List.length_take,h6.each.len]
 have hfk:Tr.find (Tr.insE t (Tr.fresh (kn:Int) kind)) (kn:Int)=some (Tr.fresh (kn:Int) kind):=by rw [hfi];exact if_pos rfl
 have hdk:d≠(kn:Int):=fun e=>hnew en (Tr.find_some hfd).1 (by rw [(Tr.find_some hfd).2,e])
 have hfdd:Tr.find (Tr.insE t (Tr.fresh (kn:Int) kind)) d=some en:=by rw [hfi];exact (if_neg hdk).trans hfd
 have hpk:ptrOf (gs.take kn++g :: gs.drop kn) (Tr.insE t (Tr.fresh (kn:Int) kind)) (kn:Int)=.pointer (some ⟨g,0,none⟩):=by
  rw [hins]
  exact ptrOf_mid hl (fun a ha=>hnew a (List.mem_of_mem_take ha)) rfl
 have hpd2:ptrOf (gs.take kn++g :: gs.drop kn) (Tr.insE t (Tr.fresh (kn:Int) kind)) d=.pointer (some ⟨gd,0,none⟩):=by
  rw [hins,ptrOf_ins hl (fun e=>hdk e.symm),List.take_append_drop,List.take_append_drop,hpd]
 obtain ⟨g1,_,hp1,hE1,_,_⟩:=h8.turnAt hris hfk
 obtain rfl:g1=g:=ptr_inj (hp1.symm.trans hpk)
 obtain ⟨gd1,Sd,hp2,hEd,_,hto⟩:=h8.turnAt hris hfdd
 obtain rfl:gd1=gd:=ptr_inj (hp2.symm.trans hpd2)
 refine ⟨hE1.cells.1,Sd,hEd,?_⟩
 rintro w9 ⟨_,Sd',k1,k2,k3⟩
 have hfid:∀ e:En,({ e with names:=Tr.ins e.names x (kn:Int) }:En).nd.id=e.nd.id:=fun _=>rfl
 obtain ⟨S'',m1,m2,m3⟩:=hto w9 (fun e=>{ e with names:=Tr.ins e.names x (kn:Int) }) Sd' k1 k2 k3
 have hfk9:Tr.find (Tr.upd (Tr.insE t (Tr.fresh (kn:Int) kind)) d fun e=>{ e with names:=Tr.ins e.names x (kn:Int) }) (kn:Int)=some (Tr.fresh (kn:Int) kind):=by
  rw [Tr.find_upd hfid,hfk]
  simp only [Option.map_some,if_neg (fun e:(kn:Int)=d=>hdk e.symm)]
 obtain ⟨g2,_,hp3,hE3,_,_⟩:=m1.turnAt (Tr.upd_ris hris hfid) hfk9
 obtain rfl:g2=g1:=by
  rw [ptrOf_upd hfid] at hp3
  exact ptr_inj (hp3.symm.trans hpk)
 refine ⟨hE3.cells.1,_,m1.at_,?_,fun b hb2=>?_⟩
 ·refine ⟨m2.os.trans hm8.os,m2.tape.trans hm8.tape,m2.output.trans hm8.output,Nat.le_trans hm8.size m2.size,fun k hk2 hn=>(m2.block k (Nat.lt_of_lt_of_le hk2 hm8.size) fun h9=>?_).trans (hm8.block k hk2 fun h9=>hn (.inl h9))⟩
  rcases hs8 k h9 with h10|h10|h10
  ·exact hn (.inl h10)
  ·exact hn (.inr (hS1 k h10))
  ·omega
 ·rcases m3 b hb2 with h9|h9
  ·rcases hs8 b h9 with h10|h10|h10
   ·exact .inl h10
   ·exact .inr (.inl (hS1 b h10))
   ·exact .inr (.inr h10)
  ·exact .inr (.inr (Nat.le_trans hm8.size h9))
set_option maxHeartbeats 4000000 in
set_option maxRecDepth 100000 in
theorem make_any (h:TIn p av gs S t w) (hG:Tr.Good t) (A:Option Addr) (q:List Bs) (cap:Nat) (kind:Int) (hr:RdS w A q) (hc:q.length≤cap) (hl:q.length≤1000000) (hs:∀ s ∈ q,s.length≤1000000) :
    Calls Tryz.prog 32 #[.pointer (some ⟨p,0,none⟩),.slice A q.length cap,.int .i64 kind] w (TTurn p (Tr.make t q kind).2 (.tuple #[.int .i64 (Tr.make t q kind).1.1,.int .i64 ((Tr.make t q kind).1.2:Nat)]) (TrS p av S) w):=by
 obtain ⟨wa,hwa⟩:∃ wa,wa=w.alloc (.cells #[.slice A q.length cap] 29):=⟨_,rfl⟩
 have hba:Below w.heap.size w wa:=by rw [hwa];exact below_new w _
 have HFM:=Lib.hid (formed_one w A q cap hr hc hl hs)
 rw [← hwa] at HFM
 have HS:Hid (∀ x W,Below w.heap.size w W→TTurn p t x (TrS p av S) w (.returned x) W):=fun x W hW=>TTurn.stay h hW
 have HPL:=Lib.hid (place_any (h.below hba) hG A q cap (hr.below hba) hc hl)
 have HBA:=Lib.hid hba
 have H:=Lib.hid h
 have HG:=Lib.hid hG
 have HWA:=Lib.hid hwa
 obtain ⟨fm,hfm⟩:∃ fm,fm=Tr.formed q:=⟨_,rfl⟩
 rw [← hfm] at HFM
 have HFMV:=Lib.hid hfm
 have HSM:=Lib.hid hs
 obtain ⟨R,hR⟩:∃ R,R=Tr.make t q kind:=⟨_,rfl⟩
 rw [← hR]
 have HR:=Lib.hid hR
 clear h hG hr hba hfm hs hR
 go_enter Tryz.func32,Tryz.ntmps32
 go_wp2_with fail
 rw [← hwa]
 clear hwa
 refine HFM.out.mono ?_
 rintro e w1 ⟨rfl,rfl⟩
 by_cases hf:fm=0
 case neg =>
  have hfi:((fm:Int)==0)=false:=by rw [beq_eq_false_iff_ne];omega
  have HN:Hid (R=((0,fm),t)):=by
   have:=HFMV.out
   show _=_
   rw [HR.out]
   unfold Tr.make
   rw [← this,if_pos hf]
  clear hf
  go_wp2_with fail
  go_ret2
  rw [HN.out]
  exact HS.out _ _ HBA.out
 subst hf
 by_cases hk:kind=1∨kind=2
 case neg =>
  have hk1:(kind != 1)=true:=by rw [bne_iff_ne];omega
  have hk2:(kind != 2)=true:=by rw [bne_iff_ne];omega
  have HN:Hid (R=((0,30),t)):=by
   have:=HFMV.out
   show _=_
   rw [HR.out]
   unfold Tr.make
   rw [← this,if_neg (by simp),if_pos (by omega)]
  clear hk
  go_wp2_with fail
  go_ret2
  rw [HN.out]
  exact HS.out _ _ HBA.out
 have hmake1:R=if (Tr.place t q).2.2≠0 then ((0,(Tr.place t q).2.2),t) else if (Tr.get (Tr.kids t (Tr.place t q).1) (Tr.place t q).2.1).isSome then ((0,21),t) else if 64≤t.length then ((0,4),t) else ((Tr.free t,0),Tr.put (Tr.insE t (Tr.fresh (Tr.free t) kind)) (Tr.place t q).1 (Tr.place t q).2.1 (Tr.free t)):=by
  have:=HFMV.out
  rw [HR.out]
  conv=>lhs;unfold Tr.make
  rw [← this,if_neg (by simp),if_neg (by omega)]
 have HK1:=Lib.hid hmake1
 clear hmake1 HR
 rcases hk with rfl|rfl
 all_goals
  go_wp2_with fail
  refine HPL.out.mono ?_
  rintro e w2 ⟨rfl,hb2⟩
  have HB2:Hid (Below w.heap.size w w2):=HBA.out.trans (hb2.mono HBA.out.size)
  clear hb2
  by_cases hp0:(Tr.place t q).2.2=0
  case neg =>
   obtain ⟨pn,hpn⟩:∃ pn,pn=(Tr.place t q).2.2:=⟨_,rfl⟩
   have HN:Hid (R=((0,pn),t)):=by
    have:=HK1.out
    rw [if_pos hp0,← hpn] at this
    exact this
   have hpi:((pn:Int)==0)=false:=by rw [beq_eq_false_iff_ne];omega
   unfold placeV
   rw [if_neg hp0,← hpn]
   obtain ⟨px,hpx⟩:∃ px,px=(Tr.place t q).2.1:=⟨_,rfl⟩
   rw [← hpx]
   clear hp0 hpn hpx
   go_wp2_with fail
   go_ret2
   rw [HN.out]
   exact HS.out _ _ HB2.out
  obtain ⟨r,x,en,hq,hlk,hx,hfd,hkd,hplace⟩:=Tr.place_is HG.out hp0
  obtain ⟨d,hd⟩:∃ d,d=en.nd.id:=⟨_,rfl⟩
  rw [hplace] at hfd
  rw [← hd] at hplace hfd
  simp only at hfd
  have H2:=Lib.hid (H.out.below HB2.out)
  obtain ⟨gd,Sd,hpd,hEd,_,hnl⟩:=H2.out.ptr HG.out hfd
  have HHAS:=Lib.hid (has_any hEd x (by omega))
  have HPV:Hid (placeV gs t q=.tuple #[.pointer (some ⟨gd,0,none⟩),.string (strOf x),.int .i64 0]):=by
   show _=_
   unfold placeV
   rw [hplace]
   simp only [if_true,hpd];rfl
  have hxl:x.length≤1000000:=HSM.out x (by rw [hq];simp)
  have hK2:=HK1.out
  rw [hplace] at hK2
  simp only [ne_eq,not_true_eq_false,if_false] at hK2
  rw [Tr.kids_of hfd] at hK2
  have HK2:=Lib.hid hK2
  have HFD:=Lib.hid hfd
  have HPD:=Lib.hid hpd
  have HNL:=Lib.hid hnl
  have HXL:=Lib.hid hxl
  rw [HPV.out]
  obtain ⟨o,ho⟩:∃ o,o=(Tr.get en.names x).isSome:=⟨_,rfl⟩
  rw [← ho] at HHAS HK2
  have HO:=Lib.hid ho
  clear hp0 hq hlk hx hfd hkd hplace hpd hEd hK2 hnl hxl ho hd
  go_wp2_with fail
  refine HHAS.out.mono ?_
  rintro e w3 ⟨rfl,hb3⟩
  have HB3:Hid (Below w.heap.size w w3):=HB2.out.trans (hb3.mono HB2.out.size)
  clear hb3
  cases o
  case true =>
   have HN:Hid (R=((0,21),t)):=HK2.out
   go_wp2_with fail
   go_ret2
   rw [HN.out]
   exact HS.out _ _ HB3.out
  have HCN:=Lib.hid (count_any (H.out.below HB3.out))
  go_wp2_with fail
  refine HCN.out.mono ?_
  rintro e w4 ⟨rfl,rfl⟩
  by_cases h64:(64:Int)≤(t.length:Int)
  case pos =>
   have HN:Hid (R=((0,4),t)):=by
    have:=HK2.out
    rw [if_neg (by simp),if_pos (by omega)] at this
    exact this
   go_wp2_with fail
   go_ret2
   rw [HN.out]
   exact HS.out _ _ HB3.out
  have hN:=HK2.out
  rw [if_neg (by simp),if_neg (by omega)] at hN
  obtain ⟨kn,hkn,hknl,hkfree,hklo,hkhi⟩:=Tr.freeFrom_spec t HG.out.ris 0 (fun e he=>(HG.out.each e he).nd.1)
  rw [Int.zero_add] at hkn
  have hfree:Tr.free t=(kn:Int):=hkn
  rw [hfree] at hN
  have HN:=Lib.hid hN
  have H3:=Lib.hid (H.out.below HB3.out)
  have HFR:=Lib.hid (free_any H3.out (by omega))
  rw [hfree] at HFR
  have HFS:=Lib.hid (fun W k=>fresh_any W (kn:Int) k)
  have HINS:Hid ((∀ kind,Tr.insE t (Tr.fresh (kn:Int) kind)=t.take kn++Tr.fresh (kn:Int) kind :: t.drop kn)∧kn≤t.length∧(∀ e ∈ t,e.nd.id≠(kn:Int))):=by
   refine ⟨fun kind=>insE_take hknl (fun j e hj he=>?_) (fun e he=>?_),hknl,fun e he=>by have:=hkfree e he;omega⟩
   ·have h1:=hklo j hj
    rw [he] at h1
    simp only [Option.map_some,Option.some.injEq,Int.zero_add] at h1
    show e.nd.id<(kn:Int)
    omega
   ·have h1:=hkhi kn (Nat.le_refl _) e he
    show ¬ e.nd.id<(kn:Int)
    omega
  clear hkn hknl hkfree hklo hkhi hfree hN
  go_wp2_with fail
  refine HFR.out.mono ?_
  rintro e w5 ⟨rfl,rfl⟩
  go_wp2_with fail
  refine (HFS.out w5 _).mono ?_
  rintro e w6 ⟨g,rfl,hE,hg,hb6⟩
  have HB6:Hid (Below w.heap.size w w6):=HB3.out.trans (hb6.mono HB3.out.size)
  have HE:=Lib.hid hE
  have HGN:Hid (w.heap.size≤g):=by show _≤_;have:=HB3.out.size;omega
  clear hE hb6 hg
  have H6:=H.out.below HB6.out
  have h6:=H6.box.cell 0
  have hap:=H6.apart
  obtain ⟨A0,c0,hav,hc0,_⟩:=own_form H6.row
  obtain ⟨gs',hgs'⟩:∃ gs',gs'=gs.take kn++g :: gs.drop kn:=⟨_,rfl⟩
  have hHI:∀ W,Below w6.heap.size w6 W→W.heap.size=w6.heap.size→Calls Tryz.prog 90 #[av,.int .i64 (kn:Nat),.slice (some ⟨w6.heap.size,0,none⟩) 1 1] (W.alloc (.cells #[.pointer (some ⟨g,0,none⟩)] 90)) fun r w'=>∃ v',r=.returned v'∧w'.ownsRow 0 90 1 v' gs'.length (ptrCells gs')∧w6.grownBy w' av.ownBlock∧∀ b,v'.ownBlock=some b→av.ownBlock=some b∨w6.heap.size≤b:=fun W hW hsz=>by
   have hb2:Below w6.heap.size w6 (W.alloc (.cells #[.pointer (some ⟨g,0,none⟩)] 90)):=hW.alloc hW.size _
   have hblk:Blk (W.alloc (.cells #[.pointer (some ⟨g,0,none⟩)] 90)) w6.heap.size 90 [.pointer (some ⟨g,0,none⟩)]:=by rw [← hsz];exact Blk.new W _ _
   have hlen:=H6.each.len
   refine (insPt_any _ 0 av gs.length kn (ptrCells gs) [.pointer (some ⟨g,0,none⟩)] (own_keep H6.row fun b hb3=>hb2.block b (own_blk H6.row hb3).2.1) (Nat.zero_le _) (by have:=HINS.out.2.1;omega) (by have:=HG.out.few;omega) (fun u hu=>by obtain ⟨y,_,rfl⟩:=List.mem_map.1 hu;rfl) w6.heap.size hblk (fun e2=>by have:=(own_blk H6.row e2).2.1;omega) rfl (fun u hu=>by simp at hu;rw [hu];rfl)).mono ?_
   rintro r w' ⟨v',rfl,h1,h2,h3⟩
   refine ⟨v',rfl,?_,⟨h2.os.trans hb2.os,h2.tape.trans hb2.tape,h2.output.trans hb2.output,Nat.le_trans hb2.size h2.size,fun b hlt hne=>(h2.block b (Nat.lt_of_lt_of_le hlt hb2.size) hne).trans (hb2.block b hlt)⟩,fun b hb3=>(h3 b hb3).imp id fun h4=>Nat.le_trans hb2.size h4⟩
   have e1:ptrCells (gs.take kn++g :: gs.drop kn)=(ptrCells gs).take kn++([.pointer (some ⟨g,0,none⟩)]++(ptrCells gs).drop kn):=by
    rw [ptrCells_append,ptrCells_take,← ptrCells_drop];rfl
   have e2:(gs.take kn++g :: gs.drop kn).length=gs.length+1:=by
    rw [List.length_append,List.length_cons,List.length_take,List.length_drop]
    have:=HINS.out.2.1;omega
   rw [hgs',e1,e2]
   simpa using h1
  have hfr:∀ w7,w6.grownBy w7 av.ownBlock→w7.cell? ⟨p,0,none⟩=some av∧w7.frozen? ⟨p,0,none⟩=false:=fun w7 hg7=>by
   have h7:Blk w7 p 113 [av]:=(hg7.block p H6.box.lt fun e2=>(hap.2 p e2.symm).2 rfl).trans H6.box
   exact ⟨h7.cell 0,h7.frozen 0⟩
  have hmp:=fun (av':Value) (w7:World) (ho:w7.ownsRow 0 90 1 av' gs'.length (ptrCells gs')) (hg:w6.grownBy w7 av.ownBlock) (hb:∀ b,av'.ownBlock=some b→av.ownBlock=some b∨w6.heap.size≤b)=>make_put H6 HG.out.ris HE.out (fun b hb2 e2=>by have:=H.out.lt hb2;have:=HGN.out;omega) HINS.out.2.1 (HINS.out.1 _) HINS.out.2.2 HFD.out HPD.out x (av':=av') (w7:=w7) (by rw [← hgs'];exact ho) hg hb
  have hHI2:∀ W,Below w6.heap.size w6 W→W.heap.size=w6.heap.size→Calls Tryz.prog 90 #[.slice A0 gs.length c0,.int .i64 (kn:Nat),.slice (some ⟨w6.heap.size,0,none⟩) 1 1] (W.alloc (.cells #[.pointer (some ⟨g,0,none⟩)] 90)) fun r w'=>∃ v',r=.returned v'∧w'.ownsRow 0 90 1 v' gs'.length (ptrCells gs')∧w6.grownBy w' av.ownBlock∧∀ b,v'.ownBlock=some b→av.ownBlock=some b∨w6.heap.size≤b:=by
   rw [← hav];exact hHI
  have HHI:=Lib.hid hHI2
  have HMP:=Lib.hid hmp
  rw [hav] at h6
  have e0:=HE.out.at_.cells.1
  have e0':w6.cell? ⟨g,0,none⟩=some (.int .i64 (kn:Int)):=e0
  have HAV:=Lib.hid hav
  have h6a:=fun o=>cell_alloc o h6
  have e0a:=fun o=>cell_alloc o e0'
  have hfr2:∀ w7,w6.grownBy w7 av.ownBlock→w7.cell? ⟨p,0,none⟩=some (.slice A0 gs.length c0)∧w7.frozen? ⟨p,0,none⟩=false:=by rw [← hav];exact hfr
  have HFRZ:=Lib.hid hfr2
  clear hHI hHI2 hfr hfr2 hmp hap H6 e0 hav hgs'
  go_wp2_with fail
  go_region_with (go_at_call 90;refine (HHI.out w6.drew (by exact ⟨rfl,rfl,rfl,Nat.le_refl _,fun _ _=>rfl⟩) (by rfl)).mono ?_;rintro e2 w7 ⟨v7,rfl,ho,hgr,hbl⟩;obtain ⟨A9,c9,hv9,_,_⟩:=own_form ho;subst hv9;have HO7:=Lib.hid ho;have HG7:=Lib.hid hgr;have HB7:=Lib.hid hbl;obtain ⟨hc7,hf7⟩:=HFRZ.out w7 hgr;clear ho hgr hbl)
  all_goals
   obtain ⟨k1,S1,k2,k3⟩:=HMP.out _ w7 HO7.out HG7.out HB7.out
   have HPUT:=Lib.hid (put_any cloneSaid k2 x (kn:Int) (by have:=HNL.out;omega) HXL.out)
   have K3:=Lib.hid k3
   clear k2 k3
   go_wp2_with fail
   refine HPUT.out.mono ?_
   rintro e w9 hT
   have hTe:=hT.1
   subst hTe
   obtain ⟨k4,S2,k5,k6,k7⟩:=K3.out w9 hT
   have K5:=Lib.hid k5
   have K6:=Lib.hid k6
   have K7:=Lib.hid k7
   clear k5 k6 k7 hT
   go_wp2_with fail
   go_ret2
   rw [HN.out]
   refine ⟨rfl,S2,K5.out,?_,fun b hb=>?_⟩
   ·have hb6:=HB6.out
    have hm:=K6.out
    refine ⟨hm.os.trans hb6.os,hm.tape.trans hb6.tape,hm.output.trans hb6.output,Nat.le_trans hb6.size hm.size,fun k hk hn=>(hm.block k (Nat.lt_of_lt_of_le hk hb6.size) fun h9=>?_).trans (hb6.block k hk)⟩
    rcases h9 with h9|h9
    ·exact hn h9
    ·have:=HGN.out;omega
   ·rcases K7.out b hb with h9|h9|h9
    ·exact .inl h9
    ·exact .inr (by rw [h9];exact HGN.out)
    ·exact .inr (Nat.le_trans HB6.out.size h9)
end Tm
end Go.Proofs.YtbnpgakmhhfjkaaGreatDoor
namespace Go.Proofs.YtbnpgakmhhfjkaaGreatDoor
open Go.RowKit Rc
open Tr (Nm En T)
namespace Tm
variable {p:Nat} {av:Value} {gs:List Nat} {S:Nat→Prop} {t t1:T} {w w1:World}
def Went (p:Nat) (av:Value) (gs:List Nat) (S:Nat→Prop) (w:World) (t':T) (w':World):Prop:=∃ S',TIn p av gs S' t' w'∧Mod w w' (TrS p av S)∧∀ b,TrS p av S' b→TrS p av S b∨w.heap.size≤b
theorem Went.start (h:TIn p av gs S t w) (hb:Below w.heap.size w w1):Went p av gs S w t w1:=⟨S,h.below hb,Mod.of_below hb _,fun _ h=>.inl h⟩
theorem Went.below {w2:World} (h:Went p av gs S w t w1) (hb:Below w1.heap.size w1 w2):Went p av gs S w t w2:=by
 obtain ⟨S',h1,h2,h3⟩:=h
 exact ⟨S',h1.below hb,⟨hb.os.trans h2.os,hb.tape.trans h2.tape,hb.output.trans h2.output,Nat.le_trans h2.size hb.size,fun k hk hn=>(hb.block k (Nat.lt_of_lt_of_le hk h2.size)).trans (h2.block k hk hn)⟩,h3⟩
theorem mod_trans {S0 S1:Nat→Prop} {a b c:World} (h:Mod a b S0) (hs:∀ k,S1 k→S0 k∨a.heap.size≤k) (h2:Mod b c S1):Mod a c S0 :=
 ⟨h2.os.trans h.os,h2.tape.trans h.tape,h2.output.trans h.output,Nat.le_trans h.size h2.size,fun k hk hn=>(h2.block k (Nat.lt_of_lt_of_le hk h.size) fun h8=>(hs k h8).elim hn fun h9=>absurd hk (Nat.not_lt.2 h9)).trans (h.block k hk hn)⟩
theorem Went.entry (h:Went p av gs S w t w1) (hr:Tr.Ris t) {i:Int} {e:En} (hf:Tr.find t i=some e):∃ g S1,ptrOf gs t i=.pointer (some ⟨g,0,none⟩)∧EAt g e S1 w1 ∧
    ∀ w2 (f:En→En) S1',EAt g (f e) S1' w2→Mod w1 w2 S1→(∀ b,S1' b→S1 b∨w1.heap.size≤b)→Went p av gs S w (Tr.upd t i f) w2:=by
 obtain ⟨S',h1,h2,h3⟩:=h
 obtain ⟨g,S1,k1,k2,k3,k4⟩:=h1.turnAt hr hf
 refine ⟨g,S1,k1,k2,fun w2 f S1' m1 m2 m3=>?_⟩
 obtain ⟨S'',n1,n2,n3⟩:=k4 w2 f S1' m1 m2 m3
 exact ⟨S'',n1,mod_trans h2 h3 n2,fun b hb=>(n3 b hb).elim (h3 b) fun h8=>.inr (Nat.le_trans h2.size h8)⟩
theorem Went.done (h:Went p av gs S w t w1) (x:Value):TTurn p t x (TrS p av S) w (.returned x) w1:=by
 obtain ⟨S',h1,h2,h3⟩:=h
 exact ⟨rfl,_,h1.at_,h2,h3⟩
theorem Went.remove (h:Went p av gs S w t w1) (hr:Tr.Ris t) (hlt:t.length≤1000000) {i:Int} {e:En} (hf:Tr.find t i=some e) (y:Value) :
    Calls Tryz.prog 106 #[.pointer (some ⟨p,0,none⟩),.int .i64 i] w1 fun r w2=>r=.returned (.tuple #[])∧TTurn p (Tr.remove t i) y (TrS p av S) w (.returned y) w2:=by
 obtain ⟨S',h1,h2,h3⟩:=h
 refine (remove_any h1 hr hlt hf).mono ?_
 rintro r w2 ⟨rfl,S2,n1,n2,n3⟩
 exact ⟨rfl,rfl,S2,n1,mod_trans h2 h3 n2,fun b hb=>(n3 b hb).elim (h3 b) fun h8=>.inr (Nat.le_trans h2.size h8)⟩
theorem Went.put (h:Went p av gs S w t w1) (hr:Tr.Ris t) {d:Int} {en:En} (hf:Tr.find t d=some en) {g:Nat} (hp:ptrOf gs t d=.pointer (some ⟨g,0,none⟩)) (x:Bs) (k:Int) (hlt:en.names.length≤900000000) (hx:x.length≤1000000) :
    Calls Tryz.prog 91 #[.pointer (some ⟨g,0,none⟩),.string (strOf x),.int .i64 k] w1 fun r w2=>r=.returned (.tuple #[])∧Went p av gs S w (Tr.put t d x k) w2:=by
 obtain ⟨g',S1,h1,h2,h3⟩:=h.entry hr hf
 obtain rfl:g'=g:=ptr_inj (h1.symm.trans hp)
 refine (put_any cloneSaid h2 x k hlt hx).mono ?_
 rintro r w2 ⟨rfl,S1',m1,m2,m3⟩
 exact ⟨rfl,h3 w2 (fun e=>{ e with names:=Tr.ins e.names x k }) S1' m1 m2 m3⟩
theorem Went.drop (h:Went p av gs S w t w1) (hr:Tr.Ris t) {d:Int} {en:En} (hf:Tr.find t d=some en) {g:Nat} (hp:ptrOf gs t d=.pointer (some ⟨g,0,none⟩)) (x:Bs) (hlt:en.names.length≤900000000) :
    Calls Tryz.prog 105 #[.pointer (some ⟨g,0,none⟩),.string (strOf x)] w1 fun r w2=>r=.returned (.tuple #[])∧Went p av gs S w (Tr.cut t d x) w2:=by
 obtain ⟨g',S1,h1,h2,h3⟩:=h.entry hr hf
 obtain rfl:g'=g:=ptr_inj (h1.symm.trans hp)
 refine (drop_any h2 x (by omega)).mono ?_
 rintro r w2 ⟨rfl,S1',m1,m2,m3⟩
 exact ⟨rfl,h3 w2 (fun e=>{ e with names:=Tr.del e.names x }) S1' m1 m2 m3⟩
theorem Went.links (h:Went p av gs S w t w1) (hr:Tr.Ris t) {i:Int} {e:En} (hf:Tr.find t i=some e) {g:Nat} (hp:ptrOf gs t i=.pointer (some ⟨g,0,none⟩)) :
    w1.cell? ⟨g,0,none⟩=some (.int .i64 e.nd.id)∧w1.cell? ⟨g,2,none⟩=some (.int .i64 e.nd.links)∧w1.cell? ⟨g,5,none⟩=some (.bool e.nd.shut)∧w1.frozen? ⟨g,2,none⟩=false∧∀ k:Int,Went p av gs S w (Tr.more t i k) (w1.setCell ⟨g,2,none⟩ (.int .i64 (e.nd.links+k))):=by
 obtain ⟨g',S1,h1,h2,h3⟩:=h.entry hr hf
 obtain rfl:g'=g:=ptr_inj (h1.symm.trans hp)
 obtain ⟨c0,_,c2,_,_,c5⟩:=h2.cells
 obtain ⟨dv,nv,hE,rfl⟩:=h2
 refine ⟨c0,c2,c5,hE.box.frozen 2,fun k=>?_⟩
 obtain ⟨m1,m2⟩:=hE.poke (e':={ e with nd:={ e.nd with links:=e.nd.links+k } }) (i:=2) (u:=.int .i64 (e.nd.links+k)) rfl rfl rfl
 exact h3 _ (fun e=>{ e with nd:={ e.nd with links:=e.nd.links+k } }) _ m1 m2 fun b hb=>.inl hb
theorem formed_two (w:World) (A B:Option Addr) (q r:List Bs) (cap cap2:Nat) (hr:RdS w A q) (hc:q.length≤cap) (hl:q.length≤1000000) (hs:∀ s ∈ q,s.length≤1000000) (hr2:RdS w B r) (hc2:r.length≤cap2) (hl2:r.length≤1000000) (hs2:∀ s ∈ r,s.length≤1000000) :
    Calls Tryz.prog 84 #[.slice (some ⟨w.heap.size,0,none⟩) 2 2] (w.alloc (.cells #[.slice A q.length cap,.slice B r.length cap2] 29)) fun e w'=>e=.returned (.int .i64 ((if Tr.formed q≠0 then Tr.formed q else Tr.formed r):Nat))∧w'=w.alloc (.cells #[.slice A q.length cap,.slice B r.length cap2] 29):=by
 have h:=formed_any _ _ [q,r] 2 (rdP_two w q r A B cap cap2 29 hc hr hc2 hr2) (by simp) (fun p hp=>by
  simp only [List.mem_cons,List.not_mem_nil,or_false] at hp
  rcases hp with rfl|rfl
  ·exact ⟨hl,fun s h=>by have:=hs s h;omega⟩
  ·exact ⟨hl2,fun s h=>by have:=hs2 s h;omega⟩)
 have e:formedL [q,r]=if Tr.formed q≠0 then Tr.formed q else Tr.formed r:=by
  unfold formedL
  split
  ·rfl
  ·unfold formedL
   split
   ·rfl
   ·rename_i h1
    rw [Decidable.byContradiction h1];rfl
 rw [e] at h
 exact h
def fileAtN (t:T) (q:List Bs):Nat:=if (Tr.lookF t 0 q).2≠0 then (Tr.lookF t 0 q).2 else if Tr.kindOf t (Tr.lookF t 0 q).1=2 then 22 else 0
def fileAtV (gs:List Nat) (t:T) (q:List Bs) (n:Nat):Value:=.tuple #[if n=0 then ptrOf gs t (Tr.lookF t 0 q).1 else .pointer none,.int .i64 (n:Nat)]
set_option maxHeartbeats 1000000 in
set_option maxRecDepth 100000 in
theorem fileAt_any (h:TIn p av gs S t w) (hG:Tr.Good t) (A:Option Addr) (q:List Bs) (cap:Nat) (hr:RdS w A q) (hl:q.length≤1000000) :
    Calls Tryz.prog 101 #[.pointer (some ⟨p,0,none⟩),.slice A q.length cap] w fun e w'=>e=.returned (fileAtV gs t q (fileAtN t q))∧Below w.heap.size w w':=by
 have HA:=Lib.hid (at_any h hG A q cap hr hl)
 by_cases h0:(Tr.lookF t 0 q).2=0
 ·obtain ⟨e,he⟩:=Option.isSome_iff_exists.1 (hG.look_is h0)
  have HV:Hid (fileAtV gs t q 0=.tuple #[ptrOf gs t (Tr.lookF t 0 q).1,.int .i64 0]):=by
   show _=_
   unfold fileAtV
   rw [if_pos rfl];rfl
  have hp:ptrAt gs t q=ptrOf gs t (Tr.lookF t 0 q).1:=by unfold ptrAt;rw [if_pos h0]
  rw [hp,h0] at HA
  have HW:=Lib.hid (fun W (hW:Below w.heap.size w W)=>(h.below hW).ptr hG he)
  obtain ⟨g,S1,hpp,_⟩:=h.ptr hG he
  rw [hpp] at HA HV
  have HPP:=Lib.hid hpp
  by_cases h2:e.nd.kind=2
  ·have HN:Hid (fileAtN t q=22):=by
    show _=_
    unfold fileAtN
    rw [if_neg (by rw [h0];simp),Tr.kindOf_of he,if_pos h2]
   have hk:(e.nd.kind==2)=true:=by simpa using h2
   rw [HN.out]
   clear h hG hr he hp hpp h0 h2
   go_enter Tryz.func101,Tryz.ntmps101
   go_wp2_with fail
   refine HA.out.mono ?_
   rintro e1 w1 ⟨rfl,hb⟩
   obtain ⟨g1,S2,hp1,hE,_,_⟩:=HW.out w1 hb
   obtain rfl:g1=g:=ptr_inj (hp1.symm.trans HPP.out)
   have c1:=hE.cells.2.1
   have HB:=Lib.hid hb
   clear hb hE hp1
   go_wp2_with fail
   go_ret2
   exact ⟨rfl,HB.out⟩
  ·have HN:Hid (fileAtN t q=0):=by
    show _=_
    unfold fileAtN
    rw [if_neg (by rw [h0];simp),Tr.kindOf_of he,if_neg h2]
   have hk:(e.nd.kind==2)=false:=by simpa using h2
   rw [HN.out]
   clear h hG hr he hp hpp h0 h2
   go_enter Tryz.func101,Tryz.ntmps101
   go_wp2_with fail
   refine HA.out.mono ?_
   rintro e1 w1 ⟨rfl,hb⟩
   obtain ⟨g1,S2,hp1,hE,_,_⟩:=HW.out w1 hb
   obtain rfl:g1=g:=ptr_inj (hp1.symm.trans HPP.out)
   have c1:=hE.cells.2.1
   have HB:=Lib.hid hb
   clear hb hE hp1
   go_wp2_with fail
   go_ret2
   exact ⟨(congrArg Ending.returned HV.out).symm,HB.out⟩
 ·have HN:Hid (fileAtN t q=(Tr.lookF t 0 q).2):=by
   show _=_
   unfold fileAtN
   rw [if_pos h0]
  have hp:ptrAt gs t q=.pointer none:=by unfold ptrAt;rw [if_neg h0]
  rw [hp] at HA
  rw [HN.out]
  obtain ⟨n,hn⟩:∃ n,n=(Tr.lookF t 0 q).2:=⟨_,rfl⟩
  rw [← hn] at HA h0 ⊢
  have HV:Hid (fileAtV gs t q n=.tuple #[.pointer none,.int .i64 (n:Nat)]):=by
   show _=_
   unfold fileAtV
   rw [if_neg h0]
  have hni:((n:Int)==0)=false:=by rw [beq_eq_false_iff_ne];omega
  clear h hG hr h0 hp hn
  go_enter Tryz.func101,Tryz.ntmps101
  go_wp2_with fail
  refine HA.out.mono ?_
  rintro e1 w1 ⟨rfl,hb⟩
  have HB:=Lib.hid hb
  clear hb
  go_wp2_with fail
  go_ret2
  exact ⟨(congrArg Ending.returned HV.out).symm,HB.out⟩
set_option maxHeartbeats 4000000 in
set_option maxRecDepth 100000 in
theorem link_any (h:TIn p av gs S t w) (hG:Tr.Good t) (A B:Option Addr) (q r:List Bs) (cap cap2:Nat) (hr:RdS w A q) (hc:q.length≤cap) (hl:q.length≤1000000) (hs:∀ s ∈ q,s.length≤1000000) (hr2:RdS w B r) (hc2:r.length≤cap2) (hl2:r.length≤1000000) (hs2:∀ s ∈ r,s.length≤1000000) :
    Calls Tryz.prog 44 #[.pointer (some ⟨p,0,none⟩),.slice A q.length cap,.slice B r.length cap2] w (TTurn p (Tr.link t q r).2 (.int .i64 ((Tr.link t q r).1:Nat)) (TrS p av S) w):=by
 obtain ⟨wa,hwa⟩:∃ wa,wa=w.alloc (.cells #[.slice A q.length cap,.slice B r.length cap2] 29):=⟨_,rfl⟩
 have hba:Below w.heap.size w wa:=by rw [hwa];exact below_new w _
 have HFM:=Lib.hid (formed_two w A B q r cap cap2 hr hc hl hs hr2 hc2 hl2 hs2)
 rw [← hwa] at HFM
 have HS:Hid (∀ x W,Below w.heap.size w W→TTurn p t x (TrS p av S) w (.returned x) W):=fun x W hW=>TTurn.stay h hW
 have HFA:=Lib.hid (fileAt_any (h.below hba) hG A q cap (hr.below hba) hl)
 have HPL:=Lib.hid (fun W (hW:Below w.heap.size w W)=>place_any (h.below hW) hG B r cap2 (hr2.below hW) hc2 hl2)
 have HBA:=Lib.hid hba
 have H:=Lib.hid h
 have HG:=Lib.hid hG
 obtain ⟨R,hR⟩:∃ R,R=Tr.link t q r:=⟨_,rfl⟩
 rw [← hR]
 obtain ⟨fm,hfm⟩:∃ fm,fm=if Tr.formed q≠0 then Tr.formed q else Tr.formed r:=⟨_,rfl⟩
 rw [← hfm] at HFM
 have hR1:R=if fm≠0 then (fm,t) else if (Tr.lookF t 0 q).2≠0 then ((Tr.lookF t 0 q).2,t)
     else if Tr.kindOf t (Tr.lookF t 0 q).1=2 then (22,t) else if (Tr.place t r).2.2≠0 then ((Tr.place t r).2.2,t)
     else if (Tr.get (Tr.kids t (Tr.place t r).1) (Tr.place t r).2.1).isSome then (21,t) else if 64≤(Tr.ndOf t (Tr.lookF t 0 q).1).links then (4,t)
     else (0,Tr.more (Tr.put t (Tr.place t r).1 (Tr.place t r).2.1 (Tr.lookF t 0 q).1) (Tr.lookF t 0 q).1 1):=by
  rw [hR,hfm]
  unfold Tr.link
  by_cases h1:Tr.formed q=0
  ·simp only [h1,ne_eq,not_true_eq_false,if_false]
  ·simp only [h1,ne_eq,not_false_eq_true,if_true]
 have HR1:=Lib.hid hR1
 have HSM:=Lib.hid hs2
 clear h hG hr hr2 hba hfm hs hs2 hR hR1
 go_enter Tryz.func44,Tryz.ntmps44
 go_wp2_with fail
 rw [← hwa]
 clear hwa
 refine HFM.out.mono ?_
 rintro e w1 ⟨rfl,rfl⟩
 by_cases hf:fm=0
 case neg =>
  have hfi:((fm:Int)==0)=false:=by rw [beq_eq_false_iff_ne];omega
  have HN:Hid (R=(fm,t)):=by
   have:=HR1.out
   rw [if_pos hf] at this
   exact this
  clear hf
  go_wp2_with fail
  go_ret
  rw [HN.out]
  exact HS.out _ _ HBA.out
 subst hf
 have hR2:=HR1.out
 rw [if_neg (by simp)] at hR2
 have HR2:=Lib.hid hR2
 clear hR2 HR1
 go_wp2_with fail
 refine HFA.out.mono ?_
 rintro e w2 ⟨rfl,hb2⟩
 have HB2:Hid (Below w.heap.size w w2):=HBA.out.trans (hb2.mono HBA.out.size)
 clear hb2
 by_cases hfa:fileAtN t q=0
 case neg =>
  obtain ⟨n,hn⟩:∃ n,n=fileAtN t q:=⟨_,rfl⟩
  have HN:Hid (R=(n,t)):=by
   have:=HR2.out
   unfold fileAtN at hn hfa
   by_cases h1:(Tr.lookF t 0 q).2=0
   ·rw [if_neg (by rw [h1];simp)] at hn hfa this
    split at hfa
    ·rename_i h2
     rw [if_pos h2] at hn this
     rw [hn];exact this
    ·exact absurd rfl hfa
   ·rw [if_pos h1] at hn this
    rw [hn];exact this
  unfold fileAtV
  rw [← hn] at hfa ⊢
  rw [if_neg hfa]
  have hni:((n:Int)==0)=false:=by rw [beq_eq_false_iff_ne];omega
  clear hfa hn
  go_wp2_with fail
  go_ret
  rw [HN.out]
  exact HS.out _ _ HB2.out
 obtain ⟨h1,h2⟩:(Tr.lookF t 0 q).2=0∧Tr.kindOf t (Tr.lookF t 0 q).1≠2:=by
  unfold fileAtN at hfa
  split at hfa
  ·rename_i h1;exact absurd hfa h1
  ·rename_i h1
   split at hfa
   ·cases hfa
   ·rename_i h2;exact ⟨Decidable.byContradiction h1,h2⟩
 obtain ⟨ef,hef⟩:=Option.isSome_iff_exists.1 (HG.out.look_is h1)
 obtain ⟨i,hi⟩:∃ i,i=(Tr.lookF t 0 q).1:=⟨_,rfl⟩
 obtain ⟨gf,Sf,hpf,hEf,_,_⟩:=(H.out.below HB2.out).ptr HG.out hef
 have hR3:=HR2.out
 rw [if_neg (by rw [h1];simp),if_neg h2] at hR3
 rw [← hi] at hef hpf hR3 h2
 rw [Tr.ndOf_of hef] at hR3
 have HV:Hid (fileAtV gs t q (fileAtN t q)=.tuple #[.pointer (some ⟨gf,0,none⟩),.int .i64 0]):=by
  show _=_
  unfold fileAtV
  rw [hfa,if_pos rfl,← hi,hpf];rfl
 rw [HV.out]
 rw [Tr.kindOf_of hef] at h2
 have HR3:=Lib.hid hR3
 have HEF:=Lib.hid hef
 have HPF:=Lib.hid hpf
 have HK2:=Lib.hid h2
 clear hfa h1 h2 hef hi hpf hEf hR3 HV HR2
 go_wp2_with fail
 refine (HPL.out w2 HB2.out).mono ?_
 rintro e w3 ⟨rfl,hb3⟩
 have HB3:Hid (Below w.heap.size w w3):=HB2.out.trans (hb3.mono HB2.out.size)
 clear hb3
 by_cases hp0:(Tr.place t r).2.2=0
 case neg =>
  obtain ⟨pn,hpn⟩:∃ pn,pn=(Tr.place t r).2.2:=⟨_,rfl⟩
  have HN:Hid (R=(pn,t)):=by
   have:=HR3.out
   rw [if_pos hp0,← hpn] at this
   exact this
  have hpi:((pn:Int)==0)=false:=by rw [beq_eq_false_iff_ne];omega
  unfold placeV
  rw [if_neg hp0,← hpn]
  obtain ⟨px,hpx⟩:∃ px,px=(Tr.place t r).2.1:=⟨_,rfl⟩
  rw [← hpx]
  clear hp0 hpn hpx
  go_wp2_with fail
  go_ret
  rw [HN.out]
  exact HS.out _ _ HB3.out
 obtain ⟨r1,x,en,hq,hlk,hx,hfd,hkd,hplace⟩:=Tr.place_is HG.out hp0
 obtain ⟨d,hd⟩:∃ d,d=en.nd.id:=⟨_,rfl⟩
 rw [hplace] at hfd
 rw [← hd] at hplace hfd
 simp only at hfd
 obtain ⟨gd,Sd,hpd,hEd,_,hnl⟩:=(H.out.below HB3.out).ptr HG.out hfd
 have HHAS:=Lib.hid (has_any hEd x (by omega))
 have HPV:Hid (placeV gs t r=.tuple #[.pointer (some ⟨gd,0,none⟩),.string (strOf x),.int .i64 0]):=by
  show _=_
  unfold placeV
  rw [hplace]
  simp only [if_true,hpd];rfl
 have hxl:x.length≤1000000:=HSM.out x (by rw [hq];simp)
 have hR4:=HR3.out
 rw [hplace] at hR4
 simp only [ne_eq,not_true_eq_false,if_false] at hR4
 rw [Tr.kids_of hfd] at hR4
 have HFD:=Lib.hid hfd
 have HPD:=Lib.hid hpd
 have HNL:=Lib.hid hnl
 have HXL:=Lib.hid hxl
 have HKD:=Lib.hid hkd
 rw [HPV.out]
 obtain ⟨o,ho⟩:∃ o,o=(Tr.get en.names x).isSome:=⟨_,rfl⟩
 rw [← ho] at HHAS hR4
 have HR4:=Lib.hid hR4
 clear hp0 hq hlk hx hfd hkd hplace hpd hEd hR4 hnl hxl ho hd HR3
 go_wp2_with fail
 refine HHAS.out.mono ?_
 rintro e w4 ⟨rfl,hb4⟩
 have HB4:Hid (Below w.heap.size w w4):=HB3.out.trans (hb4.mono HB3.out.size)
 clear hb4
 cases o
 case true =>
  have HN:Hid (R=(21,t)):=HR4.out
  go_wp2_with fail
  go_ret
  rw [HN.out]
  exact HS.out _ _ HB4.out
 have hW:=Went.start H.out HB4.out
 obtain ⟨c0,c2,_⟩:=hW.links HG.out.ris HEF.out HPF.out
 have hid:ef.nd.id=i:=(Tr.find_some HEF.out).2
 rw [hid] at c0
 by_cases h64:(64:Int)≤ef.nd.links
 case pos =>
  have HN:Hid (R=(4,t)):=by
   have:=HR4.out
   rw [if_neg (by simp),if_pos h64] at this
   exact this
  clear hW hid
  go_wp2_with fail
  go_ret
  rw [HN.out]
  exact HS.out _ _ HB4.out
 have hN:=HR4.out
 rw [if_neg (by simp),if_neg h64] at hN
 have HN:=Lib.hid hN
 have HPUT:=Lib.hid (hW.put HG.out.ris HFD.out HPD.out x i (by have:=HNL.out;omega) HXL.out)
 have hdi:i≠d:=fun e=>by
  have h1:=HFD.out
  rw [← e,show Tr.find t i=_ from HEF.out] at h1
  injection h1 with h1
  exact HK2.out (by rw [h1];exact HKD.out)
 have HDI:=Lib.hid hdi
 have hlk:=(HG.out.each ef (Tr.find_some HEF.out).1).nd
 have hl0:0≤ef.nd.links∧ef.nd.links≤65535:=⟨hlk.2.2.1,hlk.2.2.2.1⟩
 obtain ⟨lk,hlk2⟩:∃ lk,lk=ef.nd.links:=⟨_,rfl⟩
 have HLK:=Lib.hid hlk2
 rw [← hlk2] at c2 h64 hl0
 have wl:IntKind.i64.wrap (lk+1)=lk+1:=by rw [IntKind.wrap_i64];omega
 clear hW hid hN hdi hlk hlk2
 go_wp2_with fail
 refine HPUT.out.mono ?_
 rintro e w5 ⟨rfl,hW5⟩
 have hfid:∀ e:En,({ e with names:=Tr.ins e.names x i }:En).nd.id=e.nd.id:=fun _=>rfl
 have hr5:Tr.Ris (Tr.put t d x i):=Tr.upd_ris HG.out.ris hfid
 have hf5:Tr.find (Tr.put t d x i) i=some ef:=by
  unfold Tr.put
  rw [Tr.find_upd hfid,HEF.out]
  simp only [Option.map_some,if_neg HDI.out]
 have hp5:ptrOf gs (Tr.put t d x i) i=.pointer (some ⟨gf,0,none⟩):=by
  unfold Tr.put
  rw [ptrOf_upd hfid];exact HPF.out
 obtain ⟨_,c2',_,f2',hmore⟩:=hW5.links hr5 hf5 hp5
 have HMO:=Lib.hid (hmore 1)
 rw [show ef.nd.links=lk from HLK.out.symm] at c2' HMO
 clear hW5 hr5 hf5 hp5 hmore hfid c0 c2
 go_wp2_with fail
 go_ret
 rw [HN.out]
 exact HMO.out.done _
end Tm
end Go.Proofs.YtbnpgakmhhfjkaaGreatDoor
namespace Go.Proofs.YtbnpgakmhhfjkaaGreatDoor
open Go.RowKit Rc
open Tr (Nm En T)
namespace Tm
theorem step_append_kept {ops:Array Oper} {o:Oper} {a:Act} {w:World} {K:Act→World→Prop} {Q:Exit→Act→World→Prop} {E:Prop} (hgd:o.guard=none) (s x:Operand)
    (ho:o.op=.call { callee:=.builtin .append,args:=#[s,x],argTypes:=#[29,29] })
    {v:Value} {l:List Bs} (hs:a.eval s=v) (hown:SOwn w v l) (A:Option Addr) (y:Bs) (c:Nat) (hx:a.eval x=.slice A 1 c) (hr:RdS w A [y]) (hn:l.length≤1000000)
    (h:∀ v' w',Hid (SOwn w' v' (l++[y]))→Hid (w.grownBy w' v.ownBlock)→Hid (v'.ownBlock=v.ownBlock∨v'.ownBlock=some w.heap.size)→Hid (∀ W,SOwn W v' (l++[y])→(∀ b,v.ownBlock=some b→v'.ownBlock≠some b→W.heap[b]?=w'.heap[b]?)→SOwn W v l)→K (a.put o.dst v') w') :
    if Region.wanted o (yielded ops a.tmps)=true then Oper.wp Tryz.prog o a w K Q else E:=by
 rw [if_pos (show Region.wanted o (yielded ops a.tmps)=true by simp [Region.wanted,hgd])]
 obtain ⟨v',w',hrun,h1,h2,h3,h4⟩:=run_append_kept w v l hown A y c hr hn o.type
 unfold Oper.wp
 simp [execOp,ho,resolve,invoke,builtin,hs,hx,hrun,Result.andThen]
 exact h v' w' h1 h2 h3 h4
abbrev Shown:=List (List Bs × Int)
structure Eye where
 At:Shown→(Nat→Prop)→World→Prop
 keep:∀ {s:Shown} {S:Nat→Prop} {w w':World},At s S w→w.heap.size≤w'.heap.size→(∀ b,S b→w'.heap[b]?=w.heap[b]?)→At s S w'
 lt:∀ {s:Shown} {S:Nat→Prop} {w:World},At s S w→∀ b,S b→b<w.heap.size
structure Shows (O:Eye) (f:FuncId) (cb:Array Value) (lim:Nat):Prop where
 ent:∀ (args:Array Value) (w:World),(callFunc f args).run Tryz.prog w=.ok (.enter f args) w
 call:∀ (w:World) (seen:Shown) (B:Nat→Prop) (A:Option Addr) (q:List Bs) (cap g:Nat) (e:En) (S1:Nat→Prop),O.At seen B w→seen.length<lim→RdS w A q→q.length≤cap→q.length≤1000→(∀ b,0<q.length→A.map (·.block)=some b→¬ B b)→EAt g e S1 w→(∀ b,S1 b→¬ B b) →
  Calls Tryz.prog f (#[.slice A q.length cap,.pointer (some ⟨g,0,none⟩)]++cb) w fun r w'=>r=.returned (.tuple #[])∧∃ B',O.At (seen++[(q,e.nd.id)]) B' w'∧Mod w w' B∧∀ b,B' b→B b∨w.heap.size≤b
structure WMid (O:Eye) (row:Value) (a:List Bs) (seen:Shown) (B:Nat→Prop) (w:World) (more:Shown) (B':Nat→Prop) (w':World):Prop where
 at_:O.At (seen++more) B' w'
 mod:Mod w w' (fun b=>B b∨row.ownBlock=some b)
 sub:∀ b,B' b→B b∨w.heap.size≤b
 own:SOwn w' row a
structure WPre (O:Eye) (p:Nat) (av:Value) (gs:List Nat) (S:Nat→Prop) (t:T) (row:Value) (a:List Bs) (seen:Shown) (B:Nat→Prop) (w:World):Prop where
 tin:TIn p av gs S t w
 own:SOwn w row a
 at_:O.At seen B w
 apT:∀ b,B b→¬ TrS p av S b
 apR:∀ b,row.ownBlock=some b→¬ B b∧¬ TrS p av S b
def Walked (O:Eye) (row:Value) (a:List Bs) (seen:Shown) (B:Nat→Prop) (w:World) (more:Shown) (r:Ending) (w':World):Prop :=
 r=.returned (.tuple #[])∧∃ B',WMid O row a seen B w more B' w'
section
variable {O:Eye} {p:Nat} {av:Value} {gs:List Nat} {S:Nat→Prop} {t:T} {row:Value} {a:List Bs} {seen:Shown} {B:Nat→Prop} {w:World}
theorem WPre.start (h:WPre O p av gs S t row a seen B w):WMid O row a seen B w [] B w:=⟨by rw [List.append_nil];exact h.at_,Mod.refl _ _,fun _ h=>.inl h,h.own⟩
theorem WMid.pre {more:Shown} {B':Nat→Prop} {w':World} (h:WPre O p av gs S t row a seen B w) (k:WMid O row a seen B w more B' w'):WPre O p av gs S t row a (seen++more) B' w':=by
 refine ⟨h.tin.keep fun b hb=>k.mod.block b (h.tin.lt hb) (fun hx=>hx.elim (fun h1=>h.apT b h1 hb) fun h1=>(h.apR b h1).2 hb),k.own,k.at_,fun b hb ht=>?_,fun b hb=>⟨fun h1=>?_,(h.apR b hb).2⟩⟩
 ·rcases k.sub b hb with h1|h1
  ·exact h.apT b h1 ht
  ·have:=h.tin.lt ht;omega
 ·rcases k.sub b h1 with h2|h2
  ·exact (h.apR b hb).1 h2
  ·have:=h.own.lt hb;omega
theorem WMid.trans {more more2:Shown} {B1 B2:Nat→Prop} {w1 w2:World} (k:WMid O row a seen B w more B1 w1) (m:WMid O row a (seen++more) B1 w1 more2 B2 w2):WMid O row a seen B w (more++more2) B2 w2 :=
 ⟨by rw [← List.append_assoc];exact m.at_,mod_trans k.mod (fun b hb=>hb.elim (fun h1=>(k.sub b h1).imp .inl id) fun h1=>.inl (.inr h1)) m.mod,fun b hb=>(m.sub b hb).elim (k.sub b) fun h1=>.inr (Nat.le_trans k.mod.size h1),m.own⟩
theorem WPre.hung {x:Bs} {v2:Value} {wa w2:World} (h:WPre O p av gs S t row a seen B w) (hb:Below w.heap.size w wa) (ho:SOwn w2 v2 (a++[x])) (hg:wa.grownBy w2 row.ownBlock) (hal:v2.ownBlock=row.ownBlock∨v2.ownBlock=some wa.heap.size) :
    WPre O p av gs S t v2 (a++[x]) seen B w2:=by
 have hk:∀ b,b<w.heap.size→row.ownBlock≠some b→w2.heap[b]?=w.heap[b]?:=fun b hl hn=>(hg.block b (Nat.lt_of_lt_of_le hl hb.size) (fun e=>hn e.symm)).trans (hb.block b hl)
 have hsz:=Nat.le_trans hb.size hg.size
 refine ⟨h.tin.keep fun b hT=>hk b (h.tin.lt hT) fun e=>(h.apR b e).2 hT,ho,O.keep h.at_ hsz fun b hB=>hk b (O.lt h.at_ b hB) fun e=>(h.apR b e).1 hB,h.apT,fun b hv=>?_⟩
 rcases hal with e|e
 ·exact h.apR b (e ▸ hv)
 ·rw [e] at hv
  injection hv with hv
  have:=hb.size
  exact ⟨fun h1=>by have:=O.lt h.at_ b h1;omega,fun h1=>by have:=h.tin.lt h1;omega⟩
theorem WPre.told {s2:Shown} {B2:Nat→Prop} {w2:World} (h:WPre O p av gs S t row a seen B w) (h1:O.At s2 B2 w2) (hm:Mod w w2 B) (hs:∀ b,B2 b→B b∨w.heap.size≤b):WPre O p av gs S t row a s2 B2 w2 :=
 ⟨h.tin.keep fun b hT=>hm.block b (h.tin.lt hT) fun hB=>h.apT b hB hT,h.own.keep fun b hb=>hm.block b (h.own.lt hb) fun hB=>(h.apR b hb).1 hB,h1,fun b hb hT=>(hs b hb).elim (fun h2=>h.apT b h2 hT) fun h2=>by have:=h.tin.lt hT;omega,fun b hb=>⟨fun h2=>(hs b h2).elim (h.apR b hb).1 fun h3=>by have:=h.own.lt hb;omega,(h.apR b hb).2⟩⟩
theorem WPre.round {x:Bs} {id:Int} {R:Shown} {v2:Value} {wa w2 w3 w4:World} {B2 B3:Nat→Prop} (h:WPre O p av gs S t row a seen B w) (hb:Below w.heap.size w wa) (ho:SOwn w2 v2 (a++[x])) (hg:wa.grownBy w2 row.ownBlock) (hal:v2.ownBlock=row.ownBlock∨v2.ownBlock=some wa.heap.size)
    (hk:∀ W,SOwn W v2 (a++[x])→(∀ b,row.ownBlock=some b→v2.ownBlock≠some b→W.heap[b]?=w2.heap[b]?)→SOwn W row a)
    (hm:Mod w2 w3 B) (hs:∀ b,B2 b→B b∨w2.heap.size≤b) (k:WMid O v2 (a++[x]) (seen++[(a++[x],id)]) B2 w3 R B3 w4) :
    WMid O row a seen B w ((a++[x],id) :: R) B3 w4:=by
 have hsz:=Nat.le_trans hb.size hg.size
 have hsz2:=hm.size
 have hwa:=hb.size
 refine ⟨?_,?_,fun b hb3=>?_,hk w4 k.own fun b hr hn=>?_⟩
 ·have:=k.at_
  rw [List.append_assoc] at this
  exact this
 ·have m1:Mod w w2 (fun b=>B b∨row.ownBlock=some b):=⟨hg.os.trans hb.os,hg.tape.trans hb.tape,hg.output.trans hb.output,hsz,fun b hl hn=>(hg.block b (Nat.lt_of_lt_of_le hl hb.size) (fun e=>hn (.inr e.symm))).trans (hb.block b hl)⟩
  have m2:=mod_trans m1 (fun b hB=>.inl (.inl hB)) hm
  refine mod_trans m2 (fun b hB=>?_) k.mod
  rcases hB with hB|hB
  ·rcases hs b hB with h1|h1
   ·exact .inl (.inl h1)
   ·exact .inr (by omega)
  ·rcases hal with e|e
   ·exact .inl (.inr (e ▸ hB))
   ·rw [e] at hB
    injection hB with hB
    exact .inr (by omega)
 ·rcases k.sub b hb3 with h1|h1
  ·rcases hs b h1 with h2|h2
   ·exact .inl h2
   ·exact .inr (by omega)
  ·exact .inr (by omega)
 ·have hlt:=h.own.lt hr
  have e1:w3.heap[b]?=w2.heap[b]?:=hm.block b (by omega) (h.apR b hr).1
  refine (k.mod.block b (by omega) fun hx=>?_).trans e1
  rcases hx with h1|h1
  ·rcases hs b h1 with h2|h2
   ·exact (h.apR b hr).1 h2
   ·omega
  ·exact hn h1
end
end Tm
end Go.Proofs.YtbnpgakmhhfjkaaGreatDoor
