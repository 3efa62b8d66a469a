/-
  OWN WORK. TrInsN, TrDelN, TrPut, TrDrop, TrInsE
-/
import Derived.Test.YtbnpgakmhhfjkaaGreatDoorO06
import Derived.Test.YtbnpgakmhhfjkaaGreatDoorO04
import Derived.RangeFuncBox
import Derived.Deep.RegionHeld3
import Derived.Shelf.Abstract
namespace Go.Proofs.YtbnpgakmhhfjkaaGreatDoor
open Go.RowKit Rc
namespace Tm
theorem Tryz.infoNm:(Tryz.prog.info? 116).map (fun i=>(i.zero,i.size,i.bytes))=some (some (.agg #[.string .empty,.int .i64 0]),2,24):=by kernel_rfl
theorem underNm:Tryz.prog.underlying 92=some (.slice (Tryz.prog.elem 92)):=by kernel_rfl
theorem undereNm:Tryz.prog.underlying 92=some (.slice 116):=by kernel_rfl
theorem sizeNm (w:World):(sizeOf (Tryz.prog.elem 92)).run Tryz.prog w=.ok 2 w:=by kernel_rfl
theorem sizeeNm (w:World):(Go.sizeOf 116).run Tryz.prog w=.ok 2 w:=by kernel_rfl
theorem iszNm:(Tryz.prog.info? 116).map (·.size)=some 2:=by kernel_rfl
def cutNm (A:Option Addr) (n cap:Nat):Option Addr:=if cap=n then A else A.map (·.add (n*2))
theorem slNm_l (w:World) (A:Option Addr) (len cap n:Nat) (h:n≤len):(Instr.sliceAt 92 (.slice A len cap) (some (.int .i64 n)) none none).run Tryz.prog w=.ok (.slice (cutNm A n cap) (len-n) (cap-n)) w:=by
 rw [run_sliceAt_slice w _ _ _ _ _ underNm,run_slice_l w _ _ _ _ underNm .i64 n (by omega) (by omega),sizeNm]
 simp [Result.andThen,sliced,cutNm]
theorem slNm_h (w:World) (A:Option Addr) (len cap n:Nat) (h:n≤cap):(Instr.sliceAt 92 (.slice A len cap) none (some (.int .i64 n)) none).run Tryz.prog w=.ok (.slice A n cap) w:=by
 rw [run_sliceAt_slice w _ _ _ _ _ underNm,run_slice_h w _ _ _ _ underNm .i64 n (by omega) (by omega),sizeNm]
 have e:∀ a:Addr,a.add 0=a:=fun a=>by unfold Addr.add;simp
 cases A <;> simp [Result.andThen,sliced,e]
theorem cutNm_at (g n cap:Nat) (h:n<cap):cutNm (some ⟨g,0,none⟩) n cap=some ⟨g,n*2,none⟩:=by
 unfold cutNm
 rw [if_neg (by omega)]
 simp [add_plain]
theorem slNm_l1 (w:World) (g len cap n:Nat) (h:n≤len) (h2:n<cap):(Instr.sliceAt 92 (.slice (some ⟨g,0,none⟩) len cap) (some (.int .i64 n)) none none).run Tryz.prog w=.ok (.slice (some ⟨g,n*2,none⟩) (len-n) (cap-n)) w:=by
 rw [slNm_l w _ len cap n h,cutNm_at g n cap h2]
def InsNm (B:Nat) (v:Value) (n i:Nat) (xs ys:List Value) (w:World) (e:Ending) (w':World):Prop :=
 ∃ v',e=.returned v'∧w'.ownsRow B 116 2 v' (n+1) (xs.take (i*2)++(ys++xs.drop (i*2)))∧w.grownBy w' v.ownBlock∧∀ b,v'.ownBlock=some b→v.ownBlock=some b∨w.heap.size≤b
set_option maxHeartbeats 1000000 in
set_option maxRecDepth 100000 in
theorem insNm_end (w:World) (B:Nat) (v:Value) (n:Nat) (xs ys:List Value) (hown:w.ownsRow B 116 2 v n xs) (hB:B≤w.heap.size) (hn:n≤1000000000) (g:Nat) (hg:Blk w g 116 ys) (hy:ys.length=2) (hy1:∀ u ∈ ys,u.oneCell'=true) :
    Calls Tryz.prog 143 #[v,.int .i64 (n:Nat),.slice (some ⟨g,0,none⟩) 1 1] w (InsNm B v n n xs ys w):=by
 obtain ⟨i0,hi,hz0,hz1,hz2⟩:=info_parts Tryz.infoNm
 have HI0:=Lib.hid hi
 have HZ0:=Lib.hid hz0
 have HZ1:=Lib.hid hz1
 have HZ2:=Lib.hid hz2
 have HO:=Lib.hid hown
 have HG:=Lib.hid hg
 have HB:=Lib.hid hB
 have HY:Hid (ys.length=1*2):=by show _=_;rw [hy]
 have HY1:=Lib.hid hy1
 have HSRC:Hid (∀ j u,ys[j]?=some u→w.cell? ((⟨g,0,none⟩:Addr).add j)=some u):=fun j u hj=>hg.src0 hj
 have HXT:Hid (xs.take (n*2)++(ys++xs.drop (n*2))=xs++ys):=by
  show _=_
  have hx0:=hown.1
  rw [List.take_of_length_le (by omega),List.drop_eq_nil_of_le (by omega),List.append_nil]
 obtain ⟨A,c,rfl,hc,hh⟩:=own_form hown
 clear hh hown hg hi hz0 hz1 hz2 hy hy1 hB
 have q1:=fun w'=>slNm_l w' A n c n (Nat.le_refl _)
 go_enter Tryz.func143,Tryz.ntmps143
 go_wp2_with (at_builtin;refine wpList_append_own_at _ rfl (.tmp 23) (.tmp 24) 92 rfl B 116 i0 _ 2 24 undereNm HI0.out HZ0.out HZ1.out HZ2.out rfl (by decide) _ n xs rfl HO.out ⟨g,0,none⟩ 1 1 ys rfl HY.out HSRC.out HY1.out (by unfold maxLen;omega) (by omega) HB.out ?_;intro v1 w1 h1 h2 h3 h4;have HO1:=Lib.hid h1;have HG1:=Lib.hid h2;have HL1:=Lib.hid h4;clear h1 h2 h3 h4)
 go_ret
 exact ⟨_,rfl,by rw [HXT.out];exact HO1.out,HG1.out,fun b hb=>by
  rcases HL1.out with h|h
  ·exact .inl (h.symm.trans hb)
  ·exact .inr (by have e:=h.symm.trans hb;injection e with e;omega)⟩
theorem overNm (w:World) (g b o l1 l2 c1 c2:Nat) (hne:g≠b) (cs cs2:List Value) (t2:TypeId) (h1:Blk w g 116 cs) (h2:Blk w b t2 cs2) (h3:cs2.length≠0) :
    (callFunc 180 #[.slice (some ⟨g,0,none⟩) l1 c1,.slice (some ⟨b,o,none⟩) l2 c2]).run Tryz.prog w=.ok (.value (.bool false)) w:=by
 have sh:∀ {x:Nat} {t:TypeId} {c:List Value},Blk w x t c→w.shape? x=some (t,c.length):=fun {x t c} h=>by
  unfold Blk at h
  simp [World.shape?,h]
 rw [run_callFunc_extern Tryz.func180 (by kernel_rfl) (by kernel_rfl) (by kernel_rfl) (e:=Extern.SlicesOverlaps.overlaps #[92,92] #[4]) (by kernel_rfl),
  Lib.run_overlaps_apart w 92 4 116 undereNm 2 sizeeNm ⟨g,0,none⟩ ⟨b,o,none⟩ l1 c1 l2 c2 hne 116 t2 cs.length cs2.length (sh h1) (sh h2) h3 (h1.frozen 0) (h1.frozen cs.length)]
 rfl
set_option maxHeartbeats 1000000 in
set_option maxRecDepth 100000 in
theorem insNm_room (w:World) (B g n cap i:Nat) (cur xs ys:List Value) (hr:Blk w g 116 cur) (hBg:B≤g) (hin:i<n) (hnc:n+1≤cap) (hcl:cur.length=cap*2) (hcm:cap≤maxLen) (htk:cur.take (n*2)=xs) (hx1:∀ u ∈ xs,u.oneCell'=true)
    (b:Nat) (hb:Blk w b 116 ys) (hne:b≠g) (hy:ys.length=2) (hy1:∀ u ∈ ys,u.oneCell'=true) :
    Calls Tryz.prog 143 #[.slice (some ⟨g,0,none⟩) n cap,.int .i64 (i:Nat),.slice (some ⟨b,0,none⟩) 1 1] w (InsNm B (.slice (some ⟨g,0,none⟩) n cap) n i xs ys w):=by
 have hxl:xs.length=n*2:=by rw [← htk,List.length_take];omega
 have hm63:cap≤9223372036854775807:=by unfold maxLen at hcm;omega
 have HR:=Lib.hid hr
 have HBK:=Lib.hid hb
 have HX1:Hid (∀ u ∈ xs.drop (i*2),u.oneCell'=true):=fun u hu=>hx1 u (List.mem_of_mem_drop hu)
 have HY1:=Lib.hid hy1
 have HNE:=Lib.hid hne
 have HROW:=Lib.hid (ins_row cur xs ys (i*2) 2 (n*2) htk (by omega) (by omega) hy)
 have HDL:Hid ((xs.drop (i*2)).length=(n-i)*2):=by show _=_;rw [List.length_drop,hxl];omega
 have HYL:Hid (ys.length=1*2):=by show _=_;rw [hy]
 have HC0:Hid (cur.length=cap*2):=hcl
 have HCM:=Lib.hid hcm
 have HSRC:Hid (∀ j v,(xs.drop (i*2))[j]?=some v→w.drew.cell? ((⟨g,i*2,none⟩:Addr).add j)=some v):=fun j v hj=>by
  rw [add_plain]
  have e:w.cell? ⟨g,i*2+j,none⟩=cur[i*2+j]?:=hr.cell _
  show w.cell? _=_
  rw [e]
  rw [List.getElem?_drop,← htk,List.getElem?_take] at hj
  split at hj
  ·exact hj
  ·cases hj
 have hov:∀ l2 c1 c2,(callFunc 180 #[.slice (some ⟨b,0,none⟩) 1 c1,.slice (some ⟨g,(i+1)*2,none⟩) l2 c2]).run Tryz.prog w=.ok (.value (.bool false)) w:=fun l2 c1 c2=>overNm w b g _ 1 l2 c1 c2 hne ys cur _ hb hr (by omega)
 have q1:=fun w'=>slNm_l1 w' g n cap i (by omega) (by omega)
 have q2:∀ w',(Instr.sliceAt 92 (.slice (some ⟨g,0,none⟩) n cap) none (some (.int .i64 ((n:Int)+1))) none).run Tryz.prog w'=.ok (.slice (some ⟨g,0,none⟩) (n+1) cap) w':=fun w'=>slNm_h w' (some ⟨g,0,none⟩) n cap (n+1) hnc
 have q3:∀ w',(Instr.sliceAt 92 (.slice (some ⟨g,0,none⟩) (n+1) cap) (some (.int .i64 ((i:Int)+1))) none none).run Tryz.prog w'=.ok (.slice (some ⟨g,(i+1)*2,none⟩) (n-i) (cap-(i+1))) w':=fun w'=>by
  have h:=slNm_l1 w' g (n+1) cap (i+1) (by omega) (by omega)
  rw [show n+1-(i+1)=n-i by omega] at h
  exact h
 have q4:∀ w',(Instr.sliceAt 92 (.slice (some ⟨g,0,none⟩) (n+1) cap) (some (.int .i64 (i:Int))) none none).run Tryz.prog w'=.ok (.slice (some ⟨g,i*2,none⟩) (n+1-i) (cap-i)) w':=fun w'=>slNm_l1 w' g (n+1) cap i (by omega) (by omega)
 have w1:IntKind.i64.wrap ((n:Int)+1)=(n:Int)+1:=by rw [IntKind.wrap_i64];omega
 have w2:IntKind.i64.wrap ((i:Int)+1)=(i:Int)+1:=by rw [IntKind.wrap_i64];omega
 have g1:¬ ((i:Int)=(n:Int)):=by omega
 have g2:¬ ((cap:Int)<(n:Int)+1):=by omega
 have HMIN:Hid (n-i=Nat.min (n+1-i) (n-i)):=(Nat.min_eq_right (by omega)).symm
 have HMIN2:Hid (1=Nat.min 1 (n+1-i)):=(Nat.min_eq_left (by omega)).symm
 have HFIT1:Hid ((i+1)*2+(xs.drop (i*2)).length≤cur.length):=by show _≤_;rw [HDL.out,hcl];omega
 have HFIT2:Hid (i*2+ys.length≤(splice cur (i*2+2) (xs.drop (i*2))).length):=by
  show _≤_
  rw [splice_length _ _ _ (by rw [HDL.out,hcl];omega),hy,hcl];omega
 have HE:Hid ((i+1)*2=i*2+2):=by show _=_;omega
 have HIN:Hid (i<n∧n+1≤cap∧B≤g):=⟨hin,hnc,hBg⟩
 clear hr hb hx1 hy1 hne hcl hcm htk hy hxl hBg
 go_enter Tryz.func143,Tryz.ntmps143
 go_upto_region 15 with (simp only [hov])
 obtain ⟨W1,hcp,hb1,hk1⟩:=run_copy_k (P:=Tryz.prog) w.drew 92 92 3 116 2 undereNm iszNm g ((i+1)*2) (n-i) (cap-(i+1)) ⟨g,i*2,none⟩ (n+1-i) (cap-i) cur 116 HR.out.drew (xs.drop (i*2)) (n-i) HMIN.out HDL.out HSRC.out HFIT1.out HX1.out
 rw [HE.out] at hb1
 have HCP:=Lib.hid hcp
 have HB1:=Lib.hid hb1
 have HK1:=Lib.hid hk1
 clear hcp hb1 hk1
 have HSRC2:Hid (∀ j v,ys[j]?=some v→W1.cell? ((⟨b,0,none⟩:Addr).add j)=some v):=fun j v hj=>by
  have h:=HBK.out.src0 hj
  rw [add_plain] at h ⊢
  exact (HK1.out.cell (p:=⟨b,0+j,none⟩) HBK.out.lt HNE.out).trans h
 go_still_tail 8,(by kernel_rfl)
 obtain ⟨W2,hcp2,hb2,hk2⟩:=run_copy_k (P:=Tryz.prog) W1 92 92 3 116 2 undereNm iszNm g (i*2) (n+1-i) (cap-i) ⟨b,0,none⟩ 1 1 _ 116 HB1.out ys 1 HMIN2.out HYL.out HSRC2.out HFIT2.out HY1.out
 have HB2:=Lib.hid hb2
 have HK2:=Lib.hid hk2
 clear hb2 hk2
 have hcp:=HCP.out
 go_wp2_with fail
 go_ret
 refine ⟨_,rfl,⟨?_,.inr ⟨g,cap,_,rfl,HIN.out.2.2,HB2.out,HIN.out.2.1,HCM.out,?_,?_⟩⟩,?_,?_⟩
 ·have h:=congrArg List.length HROW.out.2
  rw [← h,List.length_take,HROW.out.1,HC0.out]
  have:=HIN.out.2.1
  omega
 ·have h:=HROW.out.1
  rw [HC0.out] at h
  simpa using h
 ·have h:=HROW.out.2
  rw [show n*2+2=(n+1)*2 by omega] at h
  simpa using h
 ·exact Keeps.trans (Keeps.trans ((Keeps.refl w g).drew) HK1.out) HK2.out
 ·exact fun b hb=>.inl hb
set_option maxHeartbeats 1000000 in
set_option maxRecDepth 100000 in
theorem insNm_grow (w:World) (B g n i:Nat) (cur xs ys:List Value) (hr:Blk w g 116 cur) (hBw:B≤w.heap.size) (hin:i<n) (hn:n≤1000000000) (hcl:cur.length=n*2) (htk:cur.take (n*2)=xs) (hx1:∀ u ∈ xs,u.oneCell'=true)
    (b:Nat) (hb:Blk w b 116 ys) (hy:ys.length=2) (hy1:∀ u ∈ ys,u.oneCell'=true) :
    Calls Tryz.prog 143 #[.slice (some ⟨g,0,none⟩) n n,.int .i64 (i:Nat),.slice (some ⟨b,0,none⟩) 1 1] w (InsNm B (.slice (some ⟨g,0,none⟩) n n) n i xs ys w):=by
 have hxe:xs=cur:=by rw [← htk,List.take_of_length_le (by omega)]
 subst hxe
 obtain ⟨i0,hi,hz0,hz1,hz2⟩:=info_parts Tryz.infoNm
 have hxl:xs.length=n*2:=hcl
 have hold:(Builtin.firstCells i0.size i (.slice (some ⟨g,0,none⟩) i n)).run Tryz.prog w.drew=.ok (xs.take (i*2)).toArray w.drew:=by
  rw [hz1]
  refine run_firstCells_some w.drew 2 i ⟨g,0,none⟩ i n (xs.take (i*2)) (by rw [List.length_take];omega) (fun j v hj=>?_)
  rw [List.getElem?_take] at hj
  split at hj
  ·exact (hr.drew).src0 hj
  ·cases hj
 have hrz:∀ ty,(Builtin.append_ #[92,3] ty #[.slice (some ⟨g,0,none⟩) i n,.int .i64 ((n:Int)+1-(i:Int))]).run Tryz.prog w=.ok (.slice (some ⟨w.heap.size,0,none⟩) (n+1) (grownCap w (n+1) n 116)) (w.drew.alloc (.cells ((xs.take (i*2)).toArray++Builtin.zeroCells (.agg #[.string .empty,.int .i64 0]:Value).cells (n+1-i)++Builtin.zeroCells (.agg #[.string .empty,.int .i64 0]:Value).cells (grownCap w (n+1) n 116-(n+1))) 116)):=fun ty=>by
  have h:=Lib.run_append_grow_zeros (P:=Tryz.prog) w 92 3 ty 116 i0 _ .i64 .i64 undereNm (by kernel_rfl) hi hz0 (some ⟨g,0,none⟩) i n (xs.take (i*2)) hold (n+1-i) (by omega) (by rw [hz1];omega) (by omega) (by omega) (by rw [hz2];omega) (by rw [hz2];exact growslice_fits (by omega) (by omega))
  rw [show i+(n+1-i)=n+1 by omega] at h
  rw [show (n:Int)+1-(i:Int)=((n+1-i:Nat):Int) by omega]
  exact h
 obtain ⟨G,hG⟩:∃ G,G=grownCap w (n+1) n 116:=⟨_,rfl⟩
 rw [← hG] at hrz
 have hGn:n+1≤G:=by rw [hG];exact grownCap_ge w _ _ _
 have hGm:G≤maxLen:=by rw [hG];exact grownCap_le_maxLen w (n+1) n 116 (by unfold maxLen;omega)
 have hG63:G≤9223372036854775807:=by unfold maxLen at hGm;omega
 obtain ⟨ROW,hROW⟩:∃ ROW:Array Value,ROW=(xs.take (i*2)).toArray++Builtin.zeroCells (.agg #[.string .empty,.int .i64 0]:Value).cells (n+1-i)++Builtin.zeroCells (.agg #[.string .empty,.int .i64 0]:Value).cells (G-(n+1)):=⟨_,rfl⟩
 rw [← hROW] at hrz
 have hRl:ROW.toList.length=G*2:=by
  rw [hROW]
  simp [Builtin.zeroCells,Value.cells,hxl]
  omega
 have hRt:ROW.toList.take (i*2)=xs.take (i*2):=by
  rw [hROW]
  simp only [Array.toList_append,List.append_assoc]
  rw [List.take_append_of_le_length (by rw [List.length_take];omega),List.take_of_length_le (by rw [List.length_take];omega)]
 obtain ⟨W0,hW0⟩:∃ W0,W0=w.drew.alloc (.cells ROW 116):=⟨_,rfl⟩
 rw [← hW0] at hrz
 have hB0:Blk W0 w.heap.size 116 ROW.toList:=by rw [hW0];simpa using Blk.new w.drew 116 ROW.toList
 have hK0:Below w.heap.size w W0:=by rw [hW0];exact undrew (below_new w.drew (.cells ROW 116))
 have HRZ:=Lib.hid hrz
 have HB0:=Lib.hid hB0
 have HK0:=Lib.hid hK0
 have HX1:Hid (∀ u ∈ xs.drop (i*2),u.oneCell'=true):=fun u hu=>hx1 u (List.mem_of_mem_drop hu)
 have HY1:=Lib.hid hy1
 have HROW:=Lib.hid (ins_new ROW.toList xs ys (i*2) 2 (n*2) hxl hRt (by rw [hRl];omega) (by omega) hy)
 have HDL:Hid ((xs.drop (i*2)).length=(n-i)*2):=by show _=_;rw [List.length_drop,hxl];omega
 have HYL:Hid (ys.length=1*2):=by show _=_;rw [hy]
 have HC0:Hid (ROW.toList.length=G*2):=hRl
 have HCM:=Lib.hid hGm
 have HSY:Hid (∀ j v,ys[j]?=some v→W0.cell? ((⟨b,0,none⟩:Addr).add j)=some v):=fun j v hj=>by
  have h:=hb.src0 hj
  rw [add_plain] at h ⊢
  exact (hK0.cell (p:=⟨b,0+j,none⟩) hb.lt).trans h
 have HSX:Hid (∀ W,Keeps W0 W w.heap.size→∀ j v,(xs.drop (i*2))[j]?=some v→W.drew.cell? ((⟨g,i*2,none⟩:Addr).add j)=some v):=fun W hK j v hj=>by
  rw [add_plain]
  have hgl:=hr.lt
  have e1:W.cell? ⟨g,i*2+j,none⟩=W0.cell? ⟨g,i*2+j,none⟩:=hK.cell (p:=⟨g,i*2+j,none⟩) (Nat.lt_of_lt_of_le hgl hK0.size) (by show g≠_;omega)
  have e2:W0.cell? ⟨g,i*2+j,none⟩=w.cell? ⟨g,i*2+j,none⟩:=hK0.cell (p:=⟨g,i*2+j,none⟩) hgl
  show W.cell? _=_
  rw [e1,e2,hr.cell]
  rw [List.getElem?_drop] at hj
  exact hj
 have q1:=fun w'=>slNm_l1 w' g n n i (by omega) (by omega)
 have q2:=fun w'=>slNm_h w' (some ⟨g,0,none⟩) n n i (by omega)
 have q3:∀ w',(Instr.sliceAt 92 (.slice (some ⟨w.heap.size,0,none⟩) (n+1) G) (some (.int .i64 (i:Int))) none none).run Tryz.prog w'=.ok (.slice (some ⟨w.heap.size,i*2,none⟩) (n+1-i) (G-i)) w':=fun w'=>slNm_l1 w' w.heap.size (n+1) G i (by omega) (by omega)
 have q4:∀ w',(Instr.sliceAt 92 (.slice (some ⟨w.heap.size,0,none⟩) (n+1) G) (some (.int .i64 ((i:Int)+1))) none none).run Tryz.prog w'=.ok (.slice (some ⟨w.heap.size,(i+1)*2,none⟩) (n-i) (G-(i+1))) w':=fun w'=>by
  have h:=slNm_l w' (some ⟨w.heap.size,0,none⟩) (n+1) G (i+1) (by omega)
  rw [show n+1-(i+1)=n-i by omega] at h
  rw [show cutNm (some ⟨w.heap.size,0,none⟩) (i+1) G=some ⟨w.heap.size,(i+1)*2,none⟩ from cutNm_at _ _ _ (by omega)] at h
  exact h
 have w1:IntKind.i64.wrap ((n:Int)+1)=(n:Int)+1:=by rw [IntKind.wrap_i64];omega
 have w2:IntKind.i64.wrap ((i:Int)+1)=(i:Int)+1:=by rw [IntKind.wrap_i64];omega
 have w3:IntKind.i64.wrap ((n:Int)+1-(i:Int))=(n:Int)+1-(i:Int):=by rw [IntKind.wrap_i64];omega
 have g1:¬ ((i:Int)=(n:Int)):=by omega
 have g2:(n:Int)<(n:Int)+1:=by omega
 have HMIN:Hid (n-i=Nat.min (n-i) (n-i)):=(Nat.min_self _).symm
 have HMIN2:Hid (1=Nat.min 1 (n+1-i)):=(Nat.min_eq_left (by omega)).symm
 have HFIT1:Hid (i*2+ys.length≤ROW.toList.length):=by show _≤_;rw [hRl,hy];omega
 have HFIT2:Hid ((i+1)*2+(xs.drop (i*2)).length≤(splice ROW.toList (i*2) ys).length):=by
  show _≤_
  rw [splice_length _ _ _ (by rw [hRl,hy];omega),HDL.out,hRl];omega
 have HE:Hid ((i+1)*2=i*2+2):=by show _=_;omega
 have HIN:Hid (i<n∧n+1≤G∧B≤w.heap.size):=⟨hin,hGn,hBw⟩
 clear hrz hB0 hK0 hW0 hROW hRl hRt hr hb hx1 hy1 hcl htk hy hxl hold hi hz0 hz1 hz2 hG hBw
 go_enter Tryz.func143,Tryz.ntmps143
 obtain ⟨W1,hcp1,hb1,hk1⟩:=run_copy_k (P:=Tryz.prog) W0 92 92 3 116 2 undereNm iszNm w.heap.size (i*2) (n+1-i) (G-i) ⟨b,0,none⟩ 1 1 ROW.toList 116 HB0.out ys 1 HMIN2.out HYL.out HSY.out HFIT1.out HY1.out
 have HB1:=Lib.hid hb1
 have HK1:=Lib.hid hk1
 clear hb1 hk1
 go_upto_region 11 with (at_builtin;refine Lib.wpList_append_run _ rfl _ _ _ _ rfl _ _ rfl rfl _ _ (HRZ.out _) ?_)
 obtain ⟨W2,hcp,hb2,hk2⟩:=run_copy_k (P:=Tryz.prog) W1.drew 92 92 3 116 2 undereNm iszNm w.heap.size ((i+1)*2) (n-i) (G-(i+1)) ⟨g,i*2,none⟩ (n-i) (n-i) _ 116 HB1.out.drew (xs.drop (i*2)) (n-i) HMIN.out HDL.out (HSX.out W1 HK1.out) HFIT2.out HX1.out
 rw [HE.out] at hb2
 have HCP:=Lib.hid hcp
 have HB2:=Lib.hid hb2
 have HK2:=Lib.hid hk2
 clear hcp hb2 hk2
 go_still_tail 8,(by kernel_rfl)
 have hcp:=HCP.out
 go_wp2_with fail
 go_ret
 refine ⟨_,rfl,⟨?_,.inr ⟨w.heap.size,G,_,rfl,HIN.out.2.2,HB2.out,HIN.out.2.1,HCM.out,?_,?_⟩⟩,?_,?_⟩
 ·have h:=congrArg List.length HROW.out.2
  rw [← h,List.length_take,HROW.out.1,HC0.out]
  have:=HIN.out.2.1
  omega
 ·have h:=HROW.out.1
  rw [HC0.out] at h
  simpa using h
 ·have h:=HROW.out.2
  rw [show n*2+2=(n+1)*2 by omega] at h
  simpa using h
 ·have h:=Keeps.below HK0.out ((HK1.out.drew).trans HK2.out) (Nat.le_refl _) HK0.out.size
  exact ⟨h.os,h.tape,h.output,h.size,fun j hj _=>h.block j hj⟩
 ·intro b hb
  have e:w.heap.size=b:=by simpa [Value.ownBlock] using hb
  exact .inr (by omega)
theorem insNm_any (w:World) (B:Nat) (v:Value) (n i:Nat) (xs ys:List Value) (hown:w.ownsRow B 116 2 v n xs) (hB:B≤w.heap.size) (hin:i≤n) (hn:n≤1000000000) (hx1:∀ u ∈ xs,u.oneCell'=true) (g:Nat) (hg:Blk w g 116 ys) (hne:v.ownBlock≠some g) (hy:ys.length=2) (hy1:∀ u ∈ ys,u.oneCell'=true) :
    Calls Tryz.prog 143 #[v,.int .i64 (i:Nat),.slice (some ⟨g,0,none⟩) 1 1] w (InsNm B v n i xs ys w):=by
 rcases Nat.lt_or_ge i n with h|h
 ·rcases hown.2 with ⟨rfl,rfl⟩|⟨b,cap,cur,rfl,h1,h2,h3,h4,h5,h6⟩
  ·omega
  ·have hb:Blk w b 116 cur.toList:=by simpa [Blk] using h2
   have hl:cur.toList.length=cap*2:=by simpa using h5
   rcases Nat.lt_or_ge n cap with h7|h7
   ·exact insNm_room w B b n cap i cur.toList xs ys hb h1 h h7 (by omega) h4 (by simpa using h6) hx1 g hg (fun e=>hne (by simp [Value.ownBlock,e])) hy hy1
   ·obtain rfl:cap=n:=by omega
    exact insNm_grow w B b cap i cur.toList xs ys hb hB h hn (by omega) (by simpa using h6) hx1 g hg hy hy1
 ·obtain rfl:i=n:=by omega
  exact insNm_end w B v i xs ys hown hB hn g hg hy hy1
end Tm
end Go.Proofs.YtbnpgakmhhfjkaaGreatDoor
namespace Go.Proofs.YtbnpgakmhhfjkaaGreatDoor
open Go.RowKit Rc
open Tr (Nm En T)
namespace Tm
def idxNm (p:Nm→Bool):List Nm→Nat→Int
 | [],_=>-1
 | x :: l,i=>if p x then (i:Int) else idxNm p l (i+1)
theorem idxNm_split (p:Nm→Bool):∀ (l:List Nm) (i:Nat),(idxNm p l i=-1∧∀ x ∈ l,p x=false)∨∃ j x,j<l.length∧idxNm p l i=((i+j:Nat):Int)∧l[j]?=some x∧p x=true∧∀ y ∈ l.take j,p y=false
 | [],i=>.inl ⟨rfl,fun x h=>by simp at h⟩
 | x :: l,i=>by
   unfold idxNm
   cases hx:p x
   ·rcases idxNm_split p l (i+1) with ⟨h1,h2⟩|⟨j,y,h1,h2,h3,h4,h5⟩
    ·exact .inl ⟨by simpa using h1,fun y hy=>by rcases List.mem_cons.1 hy with rfl|hy;exact hx;exact h2 y hy⟩
    ·refine .inr ⟨j+1,y,by simp only [List.length_cons];omega,by simp only [Bool.false_eq_true,if_false];rw [h2];congr 1;omega,by simpa using h3,h4,fun z hz=>?_⟩
     rw [List.take_succ_cons] at hz
     rcases List.mem_cons.1 hz with rfl|hz
     ·exact hx
     ·exact h5 z hz
   ·exact .inr ⟨0,x,by simp,by simp,rfl,hx,fun y hy=>by simp at hy⟩
theorem idxNm_step (p:Nm→Bool) (l:List Nm) (j i:Nat) (h:∀ y ∈ l.take j,p y=false):idxNm p l i=idxNm p (l.drop j) (i+j):=by
 induction j generalizing l i with
 | zero=>simp
 | succ j ih =>
   cases l with
   | nil=>simp [idxNm]
   | cons x l =>
     rw [List.take_succ_cons] at h
     rw [List.drop_succ_cons,idxNm,if_neg (by rw [h x (.head _)];simp),ih l (i+1) fun y hy=>h y (.tail _ hy)]
     congr 1;omega
def ToldNm (v:Value) (w:World) (f:FuncId) (cb:Array Value) (p:Nm→Bool) (l:List Nm):Prop :=
 ∀ W,w.grownBy W v.ownBlock→∀ x ∈ l,Calls Tryz.prog f (#[.agg #[.string (strOf x.1),.int .i64 x.2]]++cb) W fun e w'=>e=.returned (.bool (p x))∧Below W.heap.size W w'
theorem grown_below {w wr w':World} {row:Option Nat} (h:w.grownBy wr row) (hb:Below wr.heap.size wr w'):w.grownBy w' row :=
 ⟨hb.os.trans h.os,hb.tape.trans h.tape,hb.output.trans h.output,Nat.le_trans h.size hb.size,fun b hlt hne=>(hb.block b (Nat.lt_of_lt_of_le hlt h.size)).trans (h.block b hlt hne)⟩
theorem below_grown {w wr:World} (h:Below w.heap.size w wr) (row:Option Nat):w.grownBy wr row:=⟨h.os,h.tape,h.output,h.size,fun b hlt _=>h.block b hlt⟩
set_option maxHeartbeats 1000000 in
set_option maxRecDepth 100000 in
theorem indexNm_any (w:World) (v:Value) (l:List Nm) (f:FuncId) (cb:Array Value) (p:Nm→Bool) (hent:∀ (args:Array Value) (w:World),(callFunc f args).run Tryz.prog w=.ok (.enter f args) w)
    (hown:w.ownsRow 0 116 2 v l.length (nmCells l)) (hl:l.length≤1000000000) (hp:ToldNm v w f cb p l) :
    Calls Tryz.prog 187 #[v,.func (.func f) #[] cb] w fun e w'=>e=.returned (.int .i64 (idxNm p l 0))∧Below w.heap.size w w':=by
 have HP:=Lib.hid hp
 have HO:=Lib.hid hown
 obtain ⟨A,c,rfl,hc,hA⟩:=own_form hown
 have HA:=Lib.hid hA
 clear hp hown hA
 go_enter Tryz.func187,Tryz.ntmps187
 go_wp2_with fail
 go_loopw [8] (fun t8 wr=>∃ j:Nat,t8=.int .i64 j∧j≤l.length∧Hid (∀ y ∈ l.take j,p y=false)∧Hid (Below w.heap.size w wr)) (fun t8 _=>l.length-(match t8 with|.int _ k=>k.toNat|_=>0))
 case atStart=>exact ⟨0,rfl,Nat.zero_le _,fun y hy=>by simp at hy,Below.refl _ _⟩
 case round =>
  obtain ⟨j,rfl,hj,HN,HB⟩:=hrel
  by_cases hk:j<l.length
  ·obtain ⟨x,hx⟩:∃ x,l[j]?=some x:=⟨_,List.getElem?_eq_getElem hk⟩
   have hlt:(j:Int)<(l.length:Int):=by omega
   obtain ⟨g,hAg,hob,_,hgl,hcell⟩:=HA.out (by omega)
   subst hAg
   have c0:wr.cell? ⟨g,j*2,none⟩=some (.string (strOf x.1)):=(HB.out.cell (p:=⟨g,j*2,none⟩) hgl).trans (hcell _ _ (nmCells_get hx).1)
   have c1:wr.cell? ⟨g,j*2+1,none⟩=some (.int .i64 x.2):=(HB.out.cell (p:=⟨g,j*2+1,none⟩) hgl).trans (hcell _ _ (nmCells_get hx).2)
   have HX:=Lib.hid hx
   have HC:=HP.out wr (below_grown HB.out _) x (List.mem_of_getElem? hx)
   have HCC:=Lib.hid HC
   clear hx hcell HC hob hgl
   go_wp2_with fail
   refine HCC.out.mono ?_
   rintro e w1 ⟨rfl,hb⟩
   have HB1:Hid (Below w.heap.size w w1):=HB.out.trans (hb.mono HB.out.size)
   clear hb
   cases hpx:p x
   ·have HN1:Hid (∀ y ∈ l.take (j+1),p y=false):=fun y hy=>by
     rw [List.take_succ_eq_append_getElem hk,List.mem_append] at hy
     rcases hy with hy|hy
     ·exact HN.out y hy
     ·have e:l[j]=x:=(List.getElem?_eq_some_iff.1 HX.out).2
      simp only [List.mem_singleton] at hy
      rw [hy,e];exact hpx
    go_wp2_with fail
    go_roundw
    case rel=>exact ⟨j+1,by go_num,by omega,HN1.out,HB1.out⟩
    case measure=>simp;omega
   ·have HI:Hid (idxNm p l 0=(j:Int)):=by
     show _=_
     rw [idxNm_step p l j 0 HN.out,List.drop_eq_getElem_cons hk]
     have e:l[j]=x:=(List.getElem?_eq_some_iff.1 HX.out).2
     rw [idxNm,e,if_pos hpx,Nat.zero_add]
    go_wp2_with fail
    go_ret
    exact ⟨by rw [HI.out];rfl,HB1.out⟩
  ·obtain rfl:j=l.length:=by omega
   have HI:Hid (idxNm p l 0=-1):=by
    show _=_
    rcases idxNm_split p l 0 with h|⟨j,x,h1,_,h3,h4,_⟩
    ·exact h.1
    ·have h5:=HN.out x (by rw [List.take_length];exact List.mem_of_getElem? h3)
     rw [h5] at h4;cases h4
   go_wp2_with fail
   go_ret
   exact ⟨by rw [HI.out];rfl,HB.out⟩
structure HalfNm (l:List Nm) (p:Nm→Bool) (cap i j:Nat) (cur:List Value):Prop where
 cnt:((l.take j).filter fun x=>!p x).length=i
 len:cur.length=cap*2
 done:cur.take (i*2)=nmCells ((l.take j).filter fun x=>!p x)
 rest:(cur.drop (j*2)).take ((l.length-j)*2)=nmCells (l.drop j)
theorem HalfNm.le {l:List Nm} {p:Nm→Bool} {cap i j:Nat} {cur:List Value} (h:HalfNm l p cap i j cur):i≤j:=by
 rw [← h.cnt]
 exact Nat.le_trans (List.length_filter_le _ _) (by rw [List.length_take];omega)
theorem take_next {α:Type} {l:List α} {j:Nat} {x:α} (hx:l[j]?=some x):l.take (j+1)=l.take j++[x]:=by
 have hj:=(List.getElem?_eq_some_iff.1 hx).1
 rw [List.take_succ_eq_append_getElem hj,(List.getElem?_eq_some_iff.1 hx).2]
theorem HalfNm.out {l:List Nm} {p:Nm→Bool} {cap i j:Nat} {cur:List Value} (h:HalfNm l p cap i j cur) {x:Nm} (hx:l[j]?=some x) (hp:p x=true):HalfNm l p cap i (j+1) cur:=by
 have e:((l.take (j+1)).filter fun x=>!p x)=(l.take j).filter fun x=>!p x:=by
  rw [take_next hx,List.filter_append];simp [hp]
 refine ⟨by rw [e];exact h.cnt,h.len,by rw [e];exact h.done,?_⟩
 have hr:=congrArg (List.drop 2) h.rest
 rw [List.drop_take,List.drop_drop] at hr
 have hd:l.drop j=x :: l.drop (j+1):=by
  have hj:=(List.getElem?_eq_some_iff.1 hx).1
  rw [List.drop_eq_getElem_cons hj,(List.getElem?_eq_some_iff.1 hx).2]
 rw [hd] at hr
 rw [show (j+1)*2=j*2+2 by omega,show (l.length-(j+1))*2=(l.length-j)*2-2 by omega]
 exact hr
theorem HalfNm.keep {l:List Nm} {p:Nm→Bool} {cap i j:Nat} {cur:List Value} (h:HalfNm l p cap i j cur) (hc:l.length≤cap) {x:Nm} (hx:l[j]?=some x) (hp:p x=false):HalfNm l p cap (i+1) (j+1) ((cur.set (i*2) (.string (strOf x.1))).set (i*2+1) (.int .i64 x.2)):=by
 have hj:=(List.getElem?_eq_some_iff.1 hx).1
 have hij:=h.le
 have e:((l.take (j+1)).filter fun x=>!p x)=((l.take j).filter fun x=>!p x)++[x]:=by
  rw [take_next hx,List.filter_append];simp [hp]
 have hd:l.drop j=x :: l.drop (j+1):=by
  rw [List.drop_eq_getElem_cons hj,(List.getElem?_eq_some_iff.1 hx).2]
 refine ⟨by rw [e,List.length_append,h.cnt];rfl,by simp [h.len],?_,?_⟩
 ·rw [e,nmCells_append,← h.done]
  rw [show (i+1)*2=i*2+1+1 by omega]
  have hlt:i*2+1<((cur.set (i*2) (.string (strOf x.1))).set (i*2+1) (.int .i64 x.2)).length:=by simp [h.len];omega
  rw [List.take_succ_eq_append_getElem hlt,List.take_succ_eq_append_getElem (by omega),List.take_set_of_le (by omega),List.take_set_of_le (Nat.le_refl _)]
  simp [List.getElem_set,nmCells]
 ·have hr:=congrArg (List.drop 2) h.rest
  rw [List.drop_take,List.drop_drop,hd] at hr
  rw [show (l.length-(j+1))*2=(l.length-j)*2-2 by omega]
  have e2:((cur.set (i*2) (.string (strOf x.1))).set (i*2+1) (.int .i64 x.2)).drop ((j+1)*2)=cur.drop ((j+1)*2):=by
   rw [List.drop_set_of_lt (by omega),List.drop_set_of_lt (by omega)]
  rw [e2,show (j+1)*2=j*2+2 by omega]
  exact hr
theorem HalfNm.cell {l:List Nm} {p:Nm→Bool} {cap i j:Nat} {cur:List Value} (h:HalfNm l p cap i j cur) {x:Nm} (hx:l[j]?=some x):cur[j*2]?=some (.string (strOf x.1))∧cur[j*2+1]?=some (.int .i64 x.2):=by
 have hj:=(List.getElem?_eq_some_iff.1 hx).1
 have hd:l.drop j=x :: l.drop (j+1):=by
  rw [List.drop_eq_getElem_cons hj,(List.getElem?_eq_some_iff.1 hx).2]
 have key:∀ m,m<2→cur[j*2+m]?=(nmCells (x :: l.drop (j+1)))[m]?:=fun m hm=>by
  rw [← hd,← h.rest,List.getElem?_take_of_lt (by omega),List.getElem?_drop]
 exact ⟨key 0 (by omega),key 1 (by omega)⟩
def DelNm (v:Value) (l:List Nm) (p:Nm→Bool) (w:World) (e:Ending) (w':World):Prop :=
 ∃ v',e=.returned v'∧w'.ownsRow 0 116 2 v' (l.filter fun x=>!p x).length (nmCells (l.filter fun x=>!p x))∧w.grownBy w' v.ownBlock∧(v'.ownBlock=v.ownBlock)
theorem zeroNm (w:World):(zeroValue 116).run Tryz.prog w=.ok (.agg #[.string .empty,.int .i64 0]) w:=by kernel_rfl
set_option maxHeartbeats 2000000 in
set_option maxRecDepth 100000 in
theorem deleteNm_any (w:World) (v:Value) (l:List Nm) (f:FuncId) (cb:Array Value) (p:Nm→Bool) (hent:∀ (args:Array Value) (w:World),(callFunc f args).run Tryz.prog w=.ok (.enter f args) w)
    (hown:w.ownsRow 0 116 2 v l.length (nmCells l)) (hl:l.length≤1000000000) (hp:ToldNm v w f cb p l) :
    Calls Tryz.prog 152 #[v,.func (.func f) #[] cb] w (DelNm v l p w):=by
 have HI:=Lib.hid (indexNm_any w v l f cb p hent hown hl hp)
 rcases idxNm_split p l 0 with ⟨h1,h2⟩|⟨m,x0,hm,h1,h3,h4,h5⟩
 ·rw [h1] at HI
  have HOWN:=Lib.hid hown
  have HF:Hid ((l.filter fun x=>!p x)=l):=by
   show _=_
   rw [List.filter_eq_self]
   intro x hx
   rw [h2 x hx];rfl
  clear hown hp h1 h2
  go_enter Tryz.func152,Tryz.ntmps152
  go_wp2_with fail
  refine HI.out.mono ?_
  rintro e w1 ⟨rfl,hb⟩
  have HB:=Lib.hid hb
  clear hb
  go_wp2_with fail
  go_ret
  refine ⟨_,rfl,by rw [HF.out];exact own_keep HOWN.out fun b hb=>HB.out.block b (own_blk HOWN.out hb).2.1,below_grown HB.out _,rfl⟩
 ·rw [h1,Nat.zero_add] at HI
  rcases hown.2 with ⟨_,h0⟩|⟨g,cap,cur0,rfl,hB,hg,hnc,hcm,hsz,htk⟩
  ·omega
  have hblk:Blk w g 116 cur0.toList:=by simpa [Blk] using hg
  have hlen0:cur0.toList.length=cap*2:=by simpa using hsz
  have hhalf:HalfNm l p cap m (m+1) cur0.toList:=by
   have e:((l.take (m+1)).filter fun x=>!p x)=l.take m:=by
    rw [take_next h3,List.filter_append]
    simp only [List.filter_cons,h4,Bool.not_true,Bool.false_eq_true,if_false,List.filter_nil,List.append_nil]
    rw [List.filter_eq_self]
    intro x hx
    rw [h5 x hx];rfl
   refine ⟨by rw [e,List.length_take];omega,hlen0,?_,?_⟩
   ·rw [e,nmCells_take,← htk,List.take_take,Nat.min_eq_left (by omega)]
   ·rw [nmCells_drop,← htk,List.drop_take]
    congr 1;omega
  have HP:=Lib.hid hp
  have HH0:=Lib.hid hhalf
  have HBL:=Lib.hid hblk
  have HCAP:Hid (l.length≤cap∧cap≤maxLen):=⟨hnc,hcm⟩
  have hc63:cap≤9223372036854775807:=by unfold maxLen at hcm;omega
  have hcl:=hnc
  have q1:∀ w' (i:Nat),i≤l.length→(Instr.sliceAt 92 (.slice (some ⟨g,0,none⟩) l.length cap) (some (.int .i64 (i:Int))) none none).run Tryz.prog w'=.ok (.slice (cutNm (some ⟨g,0,none⟩) i cap) (l.length-i) (cap-i)) w':=fun w' i hi=>slNm_l w' (some ⟨g,0,none⟩) l.length cap i hi
  have q2:∀ w' (i:Nat),i≤cap→(Instr.sliceAt 92 (.slice (some ⟨g,0,none⟩) l.length cap) none (some (.int .i64 (i:Int))) none).run Tryz.prog w'=.ok (.slice (some ⟨g,0,none⟩) i cap) w':=fun w' i hi=>slNm_h w' (some ⟨g,0,none⟩) l.length cap i hi
  have Q1:=Lib.hid q1
  have Q2:=Lib.hid q2
  clear q1 q2 hown hp h1 h3 h4 h5 hg hnc hcm hsz htk hblk hlen0 hhalf hB
  go_enter Tryz.func152,Tryz.ntmps152
  go_wp2_with fail
  refine HI.out.mono ?_
  rintro e w1 ⟨rfl,hb⟩
  have HB1:Hid (w.grownBy w1 (some g)):=below_grown hb _
  have HBL1:Hid (Blk w1 g 116 cur0.toList):=HBL.out.below hb HBL.out.lt
  clear hb HBL
  have wm:IntKind.i64.wrap ((m:Int)+1)=(m:Int)+1:=by rw [IntKind.wrap_i64];omega
  have hmm:((m:Int)==-1)=false:=by rw [beq_eq_false_iff_ne];omega
  go_wp2_with fail
  go_loopw [5,6,7] (fun t5 t6 t7 wr=>∃ (i j:Nat) (v7:Value) (cur:List Value),t5=.int .i64 i∧t6=.int .i64 j∧t7=v7∧j≤l.length∧i<j∧Hid (HalfNm l p cap i j cur)∧Hid (Blk wr g 116 cur)∧Hid (w.grownBy wr (some g))) (fun _ t6 _ _=>l.length-(match t6 with|.int _ k=>k.toNat|_=>0))
  case atStart=>exact ⟨m,m+1,_,_,rfl,by simp,rfl,by omega,by omega,HH0.out,HBL1.out,HB1.out⟩
  case round =>
   obtain ⟨i,j,v7,cur,rfl,rfl,rfl,hj,hij,HH,HBL,HB⟩:=hrel
   by_cases hk:j<l.length
   ·obtain ⟨x,hx⟩:∃ x,l[j]?=some x:=⟨_,List.getElem?_eq_getElem hk⟩
    have hlt:(j:Int)<(l.length:Int):=by omega
    have c0:wr.cell? ⟨g,j*2,none⟩=some (.string (strOf x.1)):=(HBL.out.cell _).trans (HH.out.cell hx).1
    have c1:wr.cell? ⟨g,j*2+1,none⟩=some (.int .i64 x.2):=(HBL.out.cell _).trans (HH.out.cell hx).2
    have wj:IntKind.i64.wrap ((j:Int)+1)=(j:Int)+1:=by rw [IntKind.wrap_i64];omega
    have wi:IntKind.i64.wrap ((i:Int)+1)=(i:Int)+1:=by rw [IntKind.wrap_i64];omega
    have HX:=Lib.hid hx
    have HBW:Hid (Below wr.heap.size wr (wr.alloc (.cells #[.string (strOf x.1),.int .i64 x.2] 116))):=below_new wr _
    have HC:=HP.out (wr.alloc (.cells #[.string (strOf x.1),.int .i64 x.2] 116)) (grown_below HB.out HBW.out) x (List.mem_of_getElem? hx)
    have HCC:=Lib.hid HC
    have HV:Hid (Blk (wr.alloc (.cells #[.string (strOf x.1),.int .i64 x.2] 116)) wr.heap.size 116 [.string (strOf x.1),.int .i64 x.2]):=Blk.new wr _ _
    clear HC
    clear hx
    go_wp2_with fail
    refine HCC.out.mono ?_
    rintro e w2 ⟨rfl,hb⟩
    have hbw:Below wr.heap.size wr w2:=HBW.out.trans (hb.mono HBW.out.size)
    have HB2:Hid (w.grownBy w2 (some g)):=grown_below HB.out hbw
    have HBL2:Hid (Blk w2 g 116 cur):=HBL.out.below hbw HBL.out.lt
    have hv2:=HV.out.below hb HV.out.lt
    have d0:w2.cell? ⟨wr.heap.size,0,none⟩=some (.string (strOf x.1)):=hv2.cell 0
    have d1:w2.cell? ⟨wr.heap.size,1,none⟩=some (.int .i64 x.2):=hv2.cell 1
    clear hb hbw hv2
    cases hpx:p x
    ·have HHN:=Lib.hid (HH.out.keep HCAP.out.1 HX.out hpx)
     obtain ⟨y0,s0⟩:∃ y,w2.cell? ⟨g,i*2,none⟩=some y:=⟨_,by rw [HBL2.out.cell,List.getElem?_eq_getElem (by rw [HH.out.len];have:=HCAP.out.1;omega)]⟩
     obtain ⟨y1,s1⟩:∃ y,w2.cell? ⟨g,i*2+1,none⟩=some y:=⟨_,by rw [HBL2.out.cell,List.getElem?_eq_getElem (by rw [HH.out.len];have:=HCAP.out.1;omega)]⟩
     have f0:w2.frozen? ⟨g,i*2,none⟩=false:=HBL2.out.frozen _
     have f1:w2.frozen? ⟨g,i*2+1,none⟩=false:=HBL2.out.frozen _
     go_wp2_with fail
     go_roundw
     case rel=>exact ⟨i+1,j+1,_,_,by go_num,by go_num,rfl,by omega,by omega,HHN.out,(HBL2.out.set_ _ _).set_ _ _,Keeps.setCell (g:=g) (Keeps.setCell (g:=g) HB2.out _ _) _ _⟩
     case measure=>simp;omega
    ·have HHN:=Lib.hid (HH.out.out HX.out hpx)
     go_wp2_with fail
     go_roundw
     case rel=>exact ⟨i,j+1,_,_,rfl,by go_num,rfl,by omega,by omega,HHN.out,HBL2.out,HB2.out⟩
     case measure=>simp;omega
   ·obtain rfl:j=l.length:=by omega
    have hlt:¬ ((l.length:Int)<(l.length:Int)):=by omega
    have hi1:i≤l.length:=by omega
    obtain ⟨w3,cs,hcl3,hb3,hk3,hl3⟩:=run_clear_k (P:=Tryz.prog) wr 92 116 0 (.agg #[.string .empty,.int .i64 0]) undereNm (zeroNm wr) g (i*2) (l.length-i) (cap-i) cur 116 HBL.out (by rw [HH.out.len];simp [Value.cells];omega) (by intro v hv;simp [Value.cells] at hv;first|(rcases hv with rfl|rfl <;> rfl)|(rw [hv];rfl))
    have q1:(Instr.sliceAt 92 (.slice (some ⟨g,0,none⟩) l.length cap) (some (.int .i64 (i:Int))) none none).run Tryz.prog wr=.ok (.slice (some ⟨g,i*2,none⟩) (l.length-i) (cap-i)) wr:=by rw [Q1.out wr i hi1,cutNm_at g i cap (by omega)]
    have q2:∀ w',(Instr.sliceAt 92 (.slice (some ⟨g,0,none⟩) l.length cap) none (some (.int .i64 (i:Int))) none).run Tryz.prog w'=.ok (.slice (some ⟨g,0,none⟩) i cap) w':=fun w'=>Q2.out w' i (by omega)
    have HB3:=Lib.hid hb3
    have HK3:=Lib.hid hk3
    have HL3:=Lib.hid hl3
    clear hb3 hk3 hl3
    go_wp2_with fail
    go_ret
    have hf:(l.filter fun x=>!p x).length=i:=by rw [← HH.out.cnt,List.take_length]
    have hdone:=HH.out.done
    rw [List.take_length] at hdone
    refine ⟨_,rfl,?_,?_,rfl⟩
    ·rw [hf]
     refine ⟨?_,.inr ⟨g,cap,(splice cur (i*2) cs).toArray,rfl,Nat.zero_le _,HB3.out,by have:=HCAP.out.1;omega,HCAP.out.2,?_,?_⟩⟩
     ·rw [← hdone,List.length_take,HH.out.len];have:=HCAP.out.1;omega
     ·have hlz:cs.length=(l.length-i)*2:=by rw [HL3.out];rfl
      rw [List.size_toArray,splice_length _ _ _ (by rw [hlz,HH.out.len];have:=HCAP.out.1;omega),HH.out.len]
     ·rw [← hdone]
      have hle:i*2≤cur.length:=by rw [HH.out.len];have:=HCAP.out.1;omega
      have h9:=splice_take cur (i*2) cs hle
      simpa using h9
    ·exact Keeps.trans HB.out HK3.out
end Tm
end Go.Proofs.YtbnpgakmhhfjkaaGreatDoor
namespace Go.Proofs.YtbnpgakmhhfjkaaGreatDoor
open Go.RowKit Rc
open Tr (Nm En T)
namespace Tm
theorem cell_alloc {w:World} {a:Addr} {v:Value} (o:Obj) (h:w.cell? a=some v):(w.alloc o).cell? a=some v:=by
 have hlt:a.block<w.heap.size:=by
  rcases Nat.lt_or_ge a.block w.heap.size with h'|h'
  ·exact h'
  ·simp [World.cell?,Array.getElem?_eq_none h'] at h
 exact ((below_new w o).cell hlt).trans h
def CloneSaid:Prop:=∀ (s:Bs) (w:World),s.length≤1000000→Calls Tryz.prog 144 #[.string (strOf s)] w fun e w'=>e=.returned (.string (strOf s))∧Below w.heap.size w w'
def ETurn (g:Nat) (e':En) (S:Nat→Prop) (w:World) (r:Ending) (w':World):Prop :=
 r=.returned (.tuple #[])∧∃ S',EAt g e' S' w'∧Mod w w' S∧∀ b,S' b→S b∨w.heap.size≤b
theorem EIn.names_to {g:Nat} {dv nv nv':Value} {e:En} {w w1:World} (h:EIn g dv nv e w) (l:List Nm) (ho:NOwn w1 0 nv' l) (hg:w.grownBy w1 nv.ownBlock) (hb:∀ b,nv'.ownBlock=some b→nv.ownBlock=some b∨w.heap.size≤b) :
    ∃ S',EAt g { e with names:=l } S' (w1.setCell ⟨g,7,none⟩ nv')∧Mod w (w1.setCell ⟨g,7,none⟩ nv') (EnS g dv nv)∧∀ b,S' b→EnS g dv nv b∨w.heap.size≤b:=by
 have hgn:some g≠nv.ownBlock:=fun e2=>by
  obtain ⟨_,_,cs,h1⟩:=own_blk h.names e2.symm
  exact absurd rfl (h1.ne_ h.box (by decide))
 have hgd:∀ b,dv.ownBlock=some b→some b≠nv.ownBlock:=fun b hb2 e2=>by
  obtain ⟨_,_,cs,h1⟩:=own_blk h.names e2.symm
  obtain ⟨_,_,cs2,h2⟩:=own_blk h.data hb2
  exact absurd rfl (h1.ne_ h2 (by decide))
 have hgl:=h.box.lt
 have hdg:∀ b,dv.ownBlock=some b→b≠g:=fun b hb2=>by
  obtain ⟨_,_,cs,h1⟩:=own_blk h.data hb2
  exact h1.ne_ h.box (by decide)
 have hng:∀ b,nv'.ownBlock=some b→b≠g:=fun b hb2 e2=>by
  rcases hb b hb2 with h1|h1
  ·exact hgn (by rw [h1,e2])
  ·omega
 have hbox:Blk w1 g 94 (enCells e dv nv):=(hg.block g hgl hgn).trans h.box
 refine ⟨EnS g dv nv',⟨dv,nv',⟨hbox.set_ 7 nv',own_keep h.data fun b hb2=>?_,own_keep ho fun b hb2=>?_⟩,rfl⟩,⟨hg.os,hg.tape,hg.output,by simpa [World.setCell] using hg.size,fun k hk hn=>?_⟩,?_⟩
 ·rw [Below.heap_setCell _ _ _ _ (hdg b hb2)]
  exact hg.block b (own_blk h.data hb2).2.1 (hgd b hb2)
 ·exact Below.heap_setCell _ _ _ _ (hng b hb2)
 ·rw [Below.heap_setCell _ _ _ _ (fun e2=>hn (.inl e2))]
  exact hg.block k hk fun e2=>hn (.inr (.inr e2.symm))
 ·rintro b (rfl|hb2|hb2)
  ·exact .inl (.inl rfl)
  ·exact .inl (.inr (.inl hb2))
  ·exact (hb b hb2).imp (fun h1=>.inr (.inr h1)) id
theorem ins_at {l:List Nm} {x:Bs} (k:Int) {j:Nat} (hj:j≤l.length) (h1:∀ m ∈ l.take j,Tr.less m.1 x=true) (h2:∀ n,l[j]?=some n→Tr.less n.1 x=false):Tr.ins l x k=l.take j++(x,k) :: l.drop j:=by
 induction j generalizing l with
 | zero =>
   cases l with
   | nil=>rfl
   | cons m l =>
     have:=h2 m rfl
     unfold Tr.ins
     rw [if_neg (by rw [this];simp)];rfl
 | succ j ih =>
   cases l with
   | nil=>simp at hj
   | cons m l =>
     rw [List.take_succ_cons] at h1 ⊢
     unfold Tr.ins
     rw [if_pos (h1 m (.head _)),ih (by simpa using hj) (fun y hy=>h1 y (.tail _ hy)) (fun n hn=>h2 n (by simpa using hn))]
     rfl
set_option maxHeartbeats 2000000 in
set_option maxRecDepth 100000 in
theorem put_any (hcl:CloneSaid) {g:Nat} {e:En} {S:Nat→Prop} {w:World} (h:EAt g e S w) (x:Bs) (k:Int) (hlt:e.names.length≤900000000) (hx:x.length≤1000000) :
    Calls Tryz.prog 91 #[.pointer (some ⟨g,0,none⟩),.string (strOf x),.int .i64 k] w (ETurn g { e with names:=Tr.ins e.names x k } S w):=by
 obtain ⟨dv,nv,hE,rfl⟩:=h
 have HE:=Lib.hid hE
 have c0:w.cell? ⟨g,7,none⟩=some nv:=hE.box.cell 7
 have HC:=Lib.hid c0
 have f0:w.frozen? ⟨g,7,none⟩=false:=hE.box.frozen 7
 have HF0:=Lib.hid f0
 have HG:Hid (g<w.heap.size):=hE.box.lt
 obtain ⟨A,c,hnv,hc,hA⟩:=hE.names.form
 have HA:=Lib.hid hA
 have hnf:nv.ownBlock≠some w.heap.size:=fun e2=>by have:=(own_blk hE.names e2).2.1;omega
 have HNF:=Lib.hid hnf
 obtain ⟨l,hl⟩:∃ l,l=e.names:=⟨_,rfl⟩
 have HLE:=Lib.hid hl
 have HN:Hid (NOwn w 0 nv l):=by rw [hl];exact hE.names
 rw [← hl] at HA hlt hc hnv ⊢
 have HCL:=Lib.hid hcl
 have HLT:=Lib.hid hlt
 have HX:=Lib.hid hx
 subst hnv
 clear hE hA hcl hnf hl
 go_enter Tryz.func91,Tryz.ntmps91
 go_wp2_with fail
 go_loopw [6] (fun t6 wr=>∃ j:Nat,t6=.int .i64 j∧j≤l.length∧Hid (∀ m ∈ l.take j,Tr.less m.1 x=true)∧wr=w) (fun t6 _=>l.length-(match t6 with|.int _ k=>k.toNat|_=>0))
 case atStart=>exact ⟨0,rfl,Nat.zero_le _,fun e he=>by simp at he,rfl⟩
 case round =>
  obtain ⟨j,rfl,hj,HN1,rfl⟩:=hrel
  have key:(∃ n,l[j]?=some n∧Tr.less n.1 x=true)∨(∀ n,l[j]?=some n→Tr.less n.1 x=false):=by
   cases hn:l[j]? with
   | none=>exact .inr fun n h=>by cases h
   | some n =>
     cases hb:Tr.less n.1 x
     ·exact .inr fun m hm=>by injection hm with hm;rw [← hm];exact hb
     ·exact .inl ⟨n,rfl,hb⟩
  rcases key with ⟨n,hn,hb⟩|hstop
  ·have hk:=(List.getElem?_eq_some_iff.1 hn).1
   obtain ⟨q,rfl,_,_,hql,hcell⟩:=HA.out (by omega)
   have c1:=(hcell j n hn).1
   have hlt2:(j:Int)<(l.length:Int):=by omega
   have HNN:Hid (∀ m ∈ l.take (j+1),Tr.less m.1 x=true):=fun m hm=>by
    rw [take_next hn,List.mem_append] at hm
    rcases hm with hm|hm
    ·exact HN1.out m hm
    ·simp only [List.mem_singleton] at hm
     rw [hm];exact hb
   have hbb:Op.bytesLess (strOf n.1).toList (strOf x).toList=true:=by rw [strOf_list,strOf_list];exact hb
   clear hn hb hcell hql
   go_wp2_with fail
   go_roundw
   case rel=>exact ⟨j+1,by go_num,by omega,HNN.out,by first|rfl|trivial⟩
   case measure=>simp;omega
  ·have HINS:=Lib.hid (ins_at k hj HN1.out hstop)
   have hgo:Hid (∀ P:Prop,(∀ n,l[j]?=some n→(j:Int)<(l.length:Int)→Op.bytesLess (strOf n.1).toList (strOf x).toList=false→P)→(¬ (j:Int)<(l.length:Int)→P)→P):=by
    intro P h1 h2
    by_cases hk:j<l.length
    ·exact h1 l[j] (List.getElem?_eq_getElem hk) (by omega) (by rw [strOf_list,strOf_list];exact hstop _ (List.getElem?_eq_getElem hk))
    ·exact h2 (by omega)
   have HGN:Hid (some g≠(Value.slice A l.length c).ownBlock):=fun e2=>by
    obtain ⟨_,_,cs,h1⟩:=own_blk HN.out e2.symm
    exact absurd rfl (h1.ne_ HE.out.box (by decide))
   have HFR:Hid (∀ w2,wr.grownBy w2 (Value.slice A l.length c).ownBlock→w2.frozen? ⟨g,7,none⟩=false):=fun w2 hg=>by
    have:Blk w2 g 94 (enCells e dv (.slice A l.length c)):=(hg.block g HG.out HGN.out).trans HE.out.box
    exact this.frozen 7
   have HINS2:Hid (∀ w1,Below wr.heap.size wr w1→Calls Tryz.prog 143 #[.slice A l.length c,.int .i64 (j:Nat),.slice (some ⟨w1.heap.size,0,none⟩) 1 1] (w1.alloc (.cells #[.string (strOf x),.int .i64 k] 116)) fun r w'=>∃ nv',r=.returned nv'∧NOwn w' 0 nv' (Tr.ins l x k)∧wr.grownBy w' (Value.slice A l.length c).ownBlock∧∀ b,nv'.ownBlock=some b→(Value.slice A l.length c).ownBlock=some b∨wr.heap.size≤b):=fun w1 hb=>by
    have hb2:Below wr.heap.size wr (w1.alloc (.cells #[.string (strOf x),.int .i64 k] 116)):=hb.alloc hb.size _
    refine (insNm_any _ 0 _ l.length j (nmCells l) [.string (strOf x),.int .i64 k] (own_keep HN.out fun b hb3=>hb2.block b (own_blk HN.out hb3).2.1) (Nat.zero_le _) hj (by have:=HLT.out;omega) (nmCells_one l) w1.heap.size (Blk.new w1 _ _) (fun e2=>by have:=(own_blk HN.out e2).2.1;have:=hb.size;omega) rfl (fun u hu=>by simp at hu;rcases hu with rfl|rfl <;> rfl)).mono ?_
    rintro r w' ⟨v',rfl,h1,h2,h3⟩
    refine ⟨v',rfl,?_,⟨h2.os.trans hb2.os,h2.tape.trans hb2.tape,h2.output.trans hb2.output,Nat.le_trans hb2.size h2.size,fun b hlt hne=>(h2.block b (Nat.lt_of_lt_of_le hlt hb2.size) hne).trans (hb2.block b hlt)⟩,fun b hb3=>(h3 b hb3).imp id fun h4=>Nat.le_trans hb2.size h4⟩
    have e1:nmCells (Tr.ins l x k)=(nmCells l).take (j*2)++([.string (strOf x),.int .i64 k]++(nmCells l).drop (j*2)):=by
     rw [HINS.out,nmCells_append,nmCells_cons,nmCells_take,nmCells_drop];rfl
    have e2:(Tr.ins l x k).length=l.length+1:=by rw [(Tr.ins_perm l x k).length_eq];rfl
    unfold NOwn
    rw [e1,e2]
    exact h1
   have HEND:Hid (∀ nv' w2,NOwn w2 0 nv' (Tr.ins l x k)→wr.grownBy w2 (Value.slice A l.length c).ownBlock→(∀ b,nv'.ownBlock=some b→(Value.slice A l.length c).ownBlock=some b∨wr.heap.size≤b)→∃ S',EAt g { e with names:=Tr.ins l x k } S' (w2.setCell ⟨g,7,none⟩ nv')∧Mod wr (w2.setCell ⟨g,7,none⟩ nv') (EnS g dv (.slice A l.length c))∧∀ b,S' b→EnS g dv (.slice A l.length c) b∨wr.heap.size≤b) :=
    fun nv' w2 ho hg hb=>HE.out.names_to (Tr.ins l x k) ho hg hb
   clear hstop
   refine hgo.out _ (fun n hn hlt2 hbb=>?_) (fun hge=>?_)
   ·obtain ⟨q,rfl,_,_,hql,hcell⟩:=HA.out (by omega)
    have c1:=(hcell j n hn).1
    clear hn hcell hql
    go_wp2_with fail
    go_region_with (first
     | (go_at_call 144;refine (HCL.out x _ HX.out).mono ?_;rintro e1 w1 ⟨rfl,hb⟩;have HB1:Hid (Below wr.heap.size wr w1):=undrew hb;have hc1:=(HB1.out.cell (p:=⟨g,7,none⟩) HG.out).trans HC.out;have hc1a:=fun o=>(cell_alloc o hc1);clear hb)
     | (go_at_call 143;refine (HINS2.out w1 HB1.out).mono ?_;rintro e2 w2 ⟨nv',rfl,ho,hgr,hbl⟩;obtain ⟨A9,c9,rfl,_,_⟩:=ho.form;have HO:=Lib.hid ho;have HGR:=Lib.hid hgr;have HBL:=Lib.hid hbl;have hc2:w2.cell? ⟨g,7,none⟩=some (.slice (some ⟨q,0,none⟩) l.length c):=(HGR.out.cell HC.out (HGN.out));have hf2:w2.frozen? ⟨g,7,none⟩=false:=HFR.out w2 HGR.out;clear ho hgr hbl))
    all_goals
     refine bodyPost_end (results_none rfl _ _ _) rfl ?_
     exact ⟨rfl,HEND.out _ w2 HO.out HGR.out HBL.out⟩
   ·
    go_wp2_with fail
    go_region_with (first
     | (go_at_call 144;refine (HCL.out x _ HX.out).mono ?_;rintro e1 w1 ⟨rfl,hb⟩;have HB1:Hid (Below wr.heap.size wr w1):=undrew hb;have hc1:=(HB1.out.cell (p:=⟨g,7,none⟩) HG.out).trans HC.out;have hc1a:=fun o=>(cell_alloc o hc1);clear hb)
     | (go_at_call 143;refine (HINS2.out w1 HB1.out).mono ?_;rintro e2 w2 ⟨nv',rfl,ho,hgr,hbl⟩;obtain ⟨A9,c9,rfl,_,_⟩:=ho.form;have HO:=Lib.hid ho;have HGR:=Lib.hid hgr;have HBL:=Lib.hid hbl;have hc2:w2.cell? ⟨g,7,none⟩=some (.slice (A) l.length c):=(HGR.out.cell HC.out (HGN.out));have hf2:w2.frozen? ⟨g,7,none⟩=false:=HFR.out w2 HGR.out;clear ho hgr hbl))
    all_goals
     refine bodyPost_end (results_none rfl _ _ _) rfl ?_
     exact ⟨rfl,HEND.out _ w2 HO.out HGR.out HBL.out⟩
end Tm
end Go.Proofs.YtbnpgakmhhfjkaaGreatDoor
namespace Go.Proofs.YtbnpgakmhhfjkaaGreatDoor
open Go.RowKit Rc
open Tr (Nm En T)
namespace Tm
set_option maxHeartbeats 1000000 in
set_option maxRecDepth 100000 in
theorem drop1_any (W:World) (b:Nat) (x:Bs) (m:Nm) (hc:W.cell? ⟨b,0,none⟩=some (.string (strOf x))) :
    Calls Tryz.prog 153 #[.agg #[.string (strOf m.1),.int .i64 m.2],.pointer (some ⟨b,0,none⟩)] W fun e w'=>e=.returned (.bool (m.1==x))∧Below W.heap.size W w':=by
 have hc2:=cell_alloc (.cells #[.string (strOf m.1),.int .i64 m.2] 116) hc
 have HB:=Lib.hid (below_new W (.cells #[.string (strOf m.1),.int .i64 m.2] 116))
 obtain ⟨q,hq⟩:∃ q,q=(m.1==x):=⟨_,rfl⟩
 have HQ:=Lib.hid hq
 have hb:((strOf m.1).toList==(strOf x).toList)=q:=by rw [hq];rw [strOf_beq];by_cases h:m.1=x <;> simp [h]
 rw [← hq]
 clear hc hq
 go_enter Tryz.func153,Tryz.ntmps153
 go_wp2_with fail
 go_ret
 exact ⟨rfl,HB.out⟩
set_option maxHeartbeats 1000000 in
set_option maxRecDepth 100000 in
theorem drop_any {g:Nat} {e:En} {S:Nat→Prop} {w:World} (h:EAt g e S w) (x:Bs) (hlt:e.names.length≤1000000000) :
    Calls Tryz.prog 105 #[.pointer (some ⟨g,0,none⟩),.string (strOf x)] w (ETurn g { e with names:=Tr.del e.names x } S w):=by
 obtain ⟨dv,nv,hE,rfl⟩:=h
 obtain ⟨wb,hwb⟩:∃ wb,wb=w.alloc (.cells #[.string (strOf x)] 9):=⟨_,rfl⟩
 have hbw:Below w.heap.size w wb:=by rw [hwb];exact below_new w _
 have hEb:=hE.keep (fun b hb=>hbw.block b (hE.kind hb).1)
 have hblk:Blk wb w.heap.size 9 [.string (strOf x)]:=by rw [hwb];exact Blk.new w _ _
 have c0:wb.cell? ⟨g,7,none⟩=some nv:=hEb.box.cell 7
 have hnf:nv.ownBlock≠some w.heap.size:=fun e2=>by have:=(own_blk hE.names e2).2.1;omega
 have hgn:some g≠nv.ownBlock:=fun e2=>by
  obtain ⟨_,_,cs,h1⟩:=own_blk hE.names e2.symm
  exact absurd rfl (h1.ne_ hE.box (by decide))
 have hent:∀ (args:Array Value) (w:World),(callFunc 153 args).run Tryz.prog w=.ok (.enter 153 args) w:=enters_of Tryz.func153 (by kernel_rfl) rfl
 have hdel:=deleteNm_any wb nv e.names 153 #[.pointer (some ⟨w.heap.size,0,none⟩)] (fun m=>m.1==x) hent hEb.names hlt (fun W hW m _=>by
  refine drop1_any W w.heap.size x m ?_
  have h1:=hW.block w.heap.size hblk.lt (fun e2=>hnf e2.symm)
  have h2:Blk W w.heap.size 9 [.string (strOf x)]:=h1.trans hblk
  exact h2.cell 0)
 have HEND:Hid (∀ nv' w2,NOwn w2 0 nv' (Tr.del e.names x)→wb.grownBy w2 nv.ownBlock→nv'.ownBlock=nv.ownBlock→∃ S',EAt g { e with names:=Tr.del e.names x } S' (w2.setCell ⟨g,7,none⟩ nv')∧Mod w (w2.setCell ⟨g,7,none⟩ nv') (EnS g dv nv)∧∀ b,S' b→EnS g dv nv b∨w.heap.size≤b):=fun nv' w2 ho hg hb=>by
  obtain ⟨S',h1,h2,h3⟩:=hEb.names_to (Tr.del e.names x) ho hg (fun b h=>.inl (hb ▸ h))
  refine ⟨S',h1,(Mod.of_below hbw _).trans h2,fun b hb2=>(h3 b hb2).imp id fun h=>Nat.le_trans hbw.size h⟩
 have HFR:Hid (∀ w2,wb.grownBy w2 nv.ownBlock→w2.cell? ⟨g,7,none⟩=some nv∧w2.frozen? ⟨g,7,none⟩=false):=fun w2 hg=>by
  have h2:Blk w2 g 94 (enCells e dv nv):=(hg.block g hEb.box.lt hgn).trans hEb.box
  exact ⟨h2.cell 7,h2.frozen 7⟩
 have HDEL:=Lib.hid hdel
 obtain ⟨A,c,hnv,_,_⟩:=hE.names.form
 subst hnv
 have HWB:=Lib.hid hwb
 clear hdel hEb hE hbw hblk hnf hgn hent
 subst hwb
 go_enter Tryz.func105,Tryz.ntmps105
 go_wp2_with fail
 refine HDEL.out.mono ?_
 rintro r w2 ⟨nv',rfl,ho,hg,hb⟩
 have ho':NOwn w2 0 nv' (Tr.del e.names x):=ho
 obtain ⟨A9,c9,rfl,_,_⟩:=ho'.form
 have HO:=Lib.hid ho'
 have HG:=Lib.hid hg
 have HB:=Lib.hid hb
 obtain ⟨hc2,hf2⟩:=HFR.out w2 hg
 clear ho ho' hg hb
 go_wp2_with fail
 refine bodyPost_end (results_none rfl _ _ _) rfl ?_
 exact ⟨rfl,HEND.out _ w2 HO.out HG.out HB.out⟩
set_option maxHeartbeats 1000000 in
set_option maxRecDepth 100000 in
theorem forget1_any (W:World) (b:Nat) (x:Int) (m:Nm) (hc:W.cell? ⟨b,0,none⟩=some (.int .i64 x)) :
    Calls Tryz.prog 198 #[.agg #[.string (strOf m.1),.int .i64 m.2],.pointer (some ⟨b,0,none⟩)] W fun e w'=>e=.returned (.bool (m.2==x))∧Below W.heap.size W w':=by
 have hc2:=cell_alloc (.cells #[.string (strOf m.1),.int .i64 m.2] 116) hc
 have HB:=Lib.hid (below_new W (.cells #[.string (strOf m.1),.int .i64 m.2] 116))
 obtain ⟨q,hq⟩:∃ q,q=(m.2==x):=⟨_,rfl⟩
 have HQ:=Lib.hid hq
 have hb:(m.2==x)=q:=by rw [hq]
 rw [← hq]
 clear hc hq
 go_enter Tryz.func198,Tryz.ntmps198
 go_wp2_with fail
 go_ret
 exact ⟨rfl,HB.out⟩
set_option maxHeartbeats 1000000 in
set_option maxRecDepth 100000 in
theorem forget_any {g:Nat} {e:En} {S:Nat→Prop} {w:World} (h:EAt g e S w) (x:Int) (hlt:e.names.length≤1000000000) :
    Calls Tryz.prog 174 #[.pointer (some ⟨g,0,none⟩),.int .i64 x] w (ETurn g { e with names:=Tr.strike e.names x } S w):=by
 obtain ⟨dv,nv,hE,rfl⟩:=h
 obtain ⟨wb,hwb⟩:∃ wb,wb=w.alloc (.cells #[.int .i64 x] 3):=⟨_,rfl⟩
 have hbw:Below w.heap.size w wb:=by rw [hwb];exact below_new w _
 have hEb:=hE.keep (fun b hb=>hbw.block b (hE.kind hb).1)
 have hblk:Blk wb w.heap.size 3 [.int .i64 x]:=by rw [hwb];exact Blk.new w _ _
 have c0:wb.cell? ⟨g,7,none⟩=some nv:=hEb.box.cell 7
 have hnf:nv.ownBlock≠some w.heap.size:=fun e2=>by have:=(own_blk hE.names e2).2.1;omega
 have hgn:some g≠nv.ownBlock:=fun e2=>by
  obtain ⟨_,_,cs,h1⟩:=own_blk hE.names e2.symm
  exact absurd rfl (h1.ne_ hE.box (by decide))
 have hent:∀ (args:Array Value) (w:World),(callFunc 198 args).run Tryz.prog w=.ok (.enter 198 args) w:=enters_of Tryz.func198 (by kernel_rfl) rfl
 have hdel:=deleteNm_any wb nv e.names 198 #[.pointer (some ⟨w.heap.size,0,none⟩)] (fun m=>m.2==x) hent hEb.names hlt (fun W hW m _=>by
  refine forget1_any W w.heap.size x m ?_
  have h1:=hW.block w.heap.size hblk.lt (fun e2=>hnf e2.symm)
  have h2:Blk W w.heap.size 3 [.int .i64 x]:=h1.trans hblk
  exact h2.cell 0)
 have HEND:Hid (∀ nv' w2,NOwn w2 0 nv' (Tr.strike e.names x)→wb.grownBy w2 nv.ownBlock→nv'.ownBlock=nv.ownBlock→∃ S',EAt g { e with names:=Tr.strike e.names x } S' (w2.setCell ⟨g,7,none⟩ nv')∧Mod w (w2.setCell ⟨g,7,none⟩ nv') (EnS g dv nv)∧∀ b,S' b→EnS g dv nv b∨w.heap.size≤b):=fun nv' w2 ho hg hb=>by
  obtain ⟨S',h1,h2,h3⟩:=hEb.names_to (Tr.strike e.names x) ho hg (fun b h=>.inl (hb ▸ h))
  refine ⟨S',h1,(Mod.of_below hbw _).trans h2,fun b hb2=>(h3 b hb2).imp id fun h=>Nat.le_trans hbw.size h⟩
 have HFR:Hid (∀ w2,wb.grownBy w2 nv.ownBlock→w2.cell? ⟨g,7,none⟩=some nv∧w2.frozen? ⟨g,7,none⟩=false):=fun w2 hg=>by
  have h2:Blk w2 g 94 (enCells e dv nv):=(hg.block g hEb.box.lt hgn).trans hEb.box
  exact ⟨h2.cell 7,h2.frozen 7⟩
 have HDEL:=Lib.hid hdel
 obtain ⟨A,c,hnv,_,_⟩:=hE.names.form
 subst hnv
 have HWB:=Lib.hid hwb
 clear hdel hEb hE hbw hblk hnf hgn hent
 subst hwb
 go_enter Tryz.func174,Tryz.ntmps174
 go_wp2_with fail
 refine HDEL.out.mono ?_
 rintro r w2 ⟨nv',rfl,ho,hg,hb⟩
 have ho':NOwn w2 0 nv' (Tr.strike e.names x):=ho
 obtain ⟨A9,c9,rfl,_,_⟩:=ho'.form
 have HO:=Lib.hid ho'
 have HG:=Lib.hid hg
 have HB:=Lib.hid hb
 obtain ⟨hc2,hf2⟩:=HFR.out w2 hg
 clear ho ho' hg hb
 go_wp2_with fail
 refine bodyPost_end (results_none rfl _ _ _) rfl ?_
 exact ⟨rfl,HEND.out _ w2 HO.out HG.out HB.out⟩
end Tm
end Go.Proofs.YtbnpgakmhhfjkaaGreatDoor
namespace Go.Proofs.YtbnpgakmhhfjkaaGreatDoor
open Go.RowKit Rc
namespace Tm
theorem Tryz.infoPt:(Tryz.prog.info? 90).map (fun i=>(i.zero,i.size,i.bytes))=some (some (.pointer none),1,8):=by kernel_rfl
theorem underPt:Tryz.prog.underlying 111=some (.slice (Tryz.prog.elem 111)):=by kernel_rfl
theorem underePt:Tryz.prog.underlying 111=some (.slice 90):=by kernel_rfl
theorem sizePt (w:World):(sizeOf (Tryz.prog.elem 111)).run Tryz.prog w=.ok 1 w:=by kernel_rfl
theorem sizeePt (w:World):(Go.sizeOf 90).run Tryz.prog w=.ok 1 w:=by kernel_rfl
theorem iszPt:(Tryz.prog.info? 90).map (·.size)=some 1:=by kernel_rfl
def cutPt (A:Option Addr) (n cap:Nat):Option Addr:=if cap=n then A else A.map (·.add (n))
theorem slPt_l (w:World) (A:Option Addr) (len cap n:Nat) (h:n≤len):(Instr.sliceAt 111 (.slice A len cap) (some (.int .i64 n)) none none).run Tryz.prog w=.ok (.slice (cutPt A n cap) (len-n) (cap-n)) w:=by
 rw [run_sliceAt_slice w _ _ _ _ _ underPt,run_slice_l w _ _ _ _ underPt .i64 n (by omega) (by omega),sizePt]
 simp [Result.andThen,sliced,cutPt]
theorem slPt_h (w:World) (A:Option Addr) (len cap n:Nat) (h:n≤cap):(Instr.sliceAt 111 (.slice A len cap) none (some (.int .i64 n)) none).run Tryz.prog w=.ok (.slice A n cap) w:=by
 rw [run_sliceAt_slice w _ _ _ _ _ underPt,run_slice_h w _ _ _ _ underPt .i64 n (by omega) (by omega),sizePt]
 have e:∀ a:Addr,a.add 0=a:=fun a=>by unfold Addr.add;simp
 cases A <;> simp [Result.andThen,sliced,e]
theorem cutPt_at (g n cap:Nat) (h:n<cap):cutPt (some ⟨g,0,none⟩) n cap=some ⟨g,n,none⟩:=by
 unfold cutPt
 rw [if_neg (by omega)]
 simp [add_plain]
theorem slPt_l1 (w:World) (g len cap n:Nat) (h:n≤len) (h2:n<cap):(Instr.sliceAt 111 (.slice (some ⟨g,0,none⟩) len cap) (some (.int .i64 n)) none none).run Tryz.prog w=.ok (.slice (some ⟨g,n,none⟩) (len-n) (cap-n)) w:=by
 rw [slPt_l w _ len cap n h,cutPt_at g n cap h2]
def InsPt (B:Nat) (v:Value) (n i:Nat) (xs ys:List Value) (w:World) (e:Ending) (w':World):Prop :=
 ∃ v',e=.returned v'∧w'.ownsRow B 90 1 v' (n+1) (xs.take (i)++(ys++xs.drop (i)))∧w.grownBy w' v.ownBlock∧∀ b,v'.ownBlock=some b→v.ownBlock=some b∨w.heap.size≤b
set_option maxHeartbeats 1000000 in
set_option maxRecDepth 100000 in
theorem insPt_end (w:World) (B:Nat) (v:Value) (n:Nat) (xs ys:List Value) (hown:w.ownsRow B 90 1 v n xs) (hB:B≤w.heap.size) (hn:n≤1000000000) (g:Nat) (hg:Blk w g 90 ys) (hy:ys.length=1) (hy1:∀ u ∈ ys,u.oneCell'=true) :
    Calls Tryz.prog 90 #[v,.int .i64 (n:Nat),.slice (some ⟨g,0,none⟩) 1 1] w (InsPt B v n n xs ys w):=by
 obtain ⟨i0,hi,hz0,hz1,hz2⟩:=info_parts Tryz.infoPt
 have HI0:=Lib.hid hi
 have HZ0:=Lib.hid hz0
 have HZ1:=Lib.hid hz1
 have HZ2:=Lib.hid hz2
 have HO:=Lib.hid hown
 have HG:=Lib.hid hg
 have HB:=Lib.hid hB
 have HY:Hid (ys.length=1*1):=by show _=_;rw [hy]
 have HY1:=Lib.hid hy1
 have HSRC:Hid (∀ j u,ys[j]?=some u→w.cell? ((⟨g,0,none⟩:Addr).add j)=some u):=fun j u hj=>hg.src0 hj
 have HXT:Hid (xs.take (n)++(ys++xs.drop (n))=xs++ys):=by
  show _=_
  have hx0:=hown.1
  rw [List.take_of_length_le (by omega),List.drop_eq_nil_of_le (by omega),List.append_nil]
 obtain ⟨A,c,rfl,hc,hh⟩:=own_form hown
 clear hh hown hg hi hz0 hz1 hz2 hy hy1 hB
 have q1:=fun w'=>slPt_l w' A n c n (Nat.le_refl _)
 go_enter Tryz.func90,Tryz.ntmps90
 go_wp2_with (at_builtin;refine wpList_append_own_at _ rfl (.tmp 23) (.tmp 24) 111 rfl B 90 i0 _ 1 8 underePt HI0.out HZ0.out HZ1.out HZ2.out rfl (by decide) _ n xs rfl HO.out ⟨g,0,none⟩ 1 1 ys rfl HY.out HSRC.out HY1.out (by unfold maxLen;omega) (by omega) HB.out ?_;intro v1 w1 h1 h2 h3 h4;have HO1:=Lib.hid h1;have HG1:=Lib.hid h2;have HL1:=Lib.hid h4;clear h1 h2 h3 h4)
 go_ret
 exact ⟨_,rfl,by rw [HXT.out];exact HO1.out,HG1.out,fun b hb=>by
  rcases HL1.out with h|h
  ·exact .inl (h.symm.trans hb)
  ·exact .inr (by have e:=h.symm.trans hb;injection e with e;omega)⟩
theorem overPt (w:World) (g b o l1 l2 c1 c2:Nat) (hne:g≠b) (cs cs2:List Value) (t2:TypeId) (h1:Blk w g 90 cs) (h2:Blk w b t2 cs2) (h3:cs2.length≠0) :
    (callFunc 141 #[.slice (some ⟨g,0,none⟩) l1 c1,.slice (some ⟨b,o,none⟩) l2 c2]).run Tryz.prog w=.ok (.value (.bool false)) w:=by
 have sh:∀ {x:Nat} {t:TypeId} {c:List Value},Blk w x t c→w.shape? x=some (t,c.length):=fun {x t c} h=>by
  unfold Blk at h
  simp [World.shape?,h]
 rw [run_callFunc_extern Tryz.func141 (by kernel_rfl) (by kernel_rfl) (by kernel_rfl) (e:=Extern.SlicesOverlaps.overlaps #[111,111] #[4]) (by kernel_rfl),
  Lib.run_overlaps_apart w 111 4 90 underePt 1 sizeePt ⟨g,0,none⟩ ⟨b,o,none⟩ l1 c1 l2 c2 hne 90 t2 cs.length cs2.length (sh h1) (sh h2) h3 (h1.frozen 0) (h1.frozen cs.length)]
 rfl
set_option maxHeartbeats 1000000 in
set_option maxRecDepth 100000 in
theorem insPt_room (w:World) (B g n cap i:Nat) (cur xs ys:List Value) (hr:Blk w g 90 cur) (hBg:B≤g) (hin:i<n) (hnc:n+1≤cap) (hcl:cur.length=cap*1) (hcm:cap≤maxLen) (htk:cur.take (n)=xs) (hx1:∀ u ∈ xs,u.oneCell'=true)
    (b:Nat) (hb:Blk w b 90 ys) (hne:b≠g) (hy:ys.length=1) (hy1:∀ u ∈ ys,u.oneCell'=true) :
    Calls Tryz.prog 90 #[.slice (some ⟨g,0,none⟩) n cap,.int .i64 (i:Nat),.slice (some ⟨b,0,none⟩) 1 1] w (InsPt B (.slice (some ⟨g,0,none⟩) n cap) n i xs ys w):=by
 have hxl:xs.length=n:=by rw [← htk,List.length_take];omega
 have hm63:cap≤9223372036854775807:=by unfold maxLen at hcm;omega
 have HR:=Lib.hid hr
 have HBK:=Lib.hid hb
 have HX1:Hid (∀ u ∈ xs.drop (i),u.oneCell'=true):=fun u hu=>hx1 u (List.mem_of_mem_drop hu)
 have HY1:=Lib.hid hy1
 have HNE:=Lib.hid hne
 have HROW:=Lib.hid (ins_row cur xs ys (i) 1 (n) htk (by omega) (by omega) hy)
 have HDL:Hid ((xs.drop (i)).length=(n-i)*1):=by show _=_;rw [List.length_drop,hxl];omega
 have HYL:Hid (ys.length=1*1):=by show _=_;rw [hy]
 have HC0:Hid (cur.length=cap*1):=hcl
 have HCM:=Lib.hid hcm
 have HSRC:Hid (∀ j v,(xs.drop (i))[j]?=some v→w.drew.cell? ((⟨g,i,none⟩:Addr).add j)=some v):=fun j v hj=>by
  rw [add_plain]
  have e:w.cell? ⟨g,i+j,none⟩=cur[i+j]?:=hr.cell _
  show w.cell? _=_
  rw [e]
  rw [List.getElem?_drop,← htk,List.getElem?_take] at hj
  split at hj
  ·exact hj
  ·cases hj
 have hov:∀ l2 c1 c2,(callFunc 141 #[.slice (some ⟨b,0,none⟩) 1 c1,.slice (some ⟨g,i+1,none⟩) l2 c2]).run Tryz.prog w=.ok (.value (.bool false)) w:=fun l2 c1 c2=>overPt w b g _ 1 l2 c1 c2 hne ys cur _ hb hr (by omega)
 have q1:=fun w'=>slPt_l1 w' g n cap i (by omega) (by omega)
 have q2:∀ w',(Instr.sliceAt 111 (.slice (some ⟨g,0,none⟩) n cap) none (some (.int .i64 ((n:Int)+1))) none).run Tryz.prog w'=.ok (.slice (some ⟨g,0,none⟩) (n+1) cap) w':=fun w'=>slPt_h w' (some ⟨g,0,none⟩) n cap (n+1) hnc
 have q3:∀ w',(Instr.sliceAt 111 (.slice (some ⟨g,0,none⟩) (n+1) cap) (some (.int .i64 ((i:Int)+1))) none none).run Tryz.prog w'=.ok (.slice (some ⟨g,i+1,none⟩) (n-i) (cap-(i+1))) w':=fun w'=>by
  have h:=slPt_l1 w' g (n+1) cap (i+1) (by omega) (by omega)
  rw [show n+1-(i+1)=n-i by omega] at h
  exact h
 have q4:∀ w',(Instr.sliceAt 111 (.slice (some ⟨g,0,none⟩) (n+1) cap) (some (.int .i64 (i:Int))) none none).run Tryz.prog w'=.ok (.slice (some ⟨g,i,none⟩) (n+1-i) (cap-i)) w':=fun w'=>slPt_l1 w' g (n+1) cap i (by omega) (by omega)
 have w1:IntKind.i64.wrap ((n:Int)+1)=(n:Int)+1:=by rw [IntKind.wrap_i64];omega
 have w2:IntKind.i64.wrap ((i:Int)+1)=(i:Int)+1:=by rw [IntKind.wrap_i64];omega
 have g1:¬ ((i:Int)=(n:Int)):=by omega
 have g2:¬ ((cap:Int)<(n:Int)+1):=by omega
 have HMIN:Hid (n-i=Nat.min (n+1-i) (n-i)):=(Nat.min_eq_right (by omega)).symm
 have HMIN2:Hid (1=Nat.min 1 (n+1-i)):=(Nat.min_eq_left (by omega)).symm
 have HFIT1:Hid (i+1+(xs.drop (i)).length≤cur.length):=by show _≤_;rw [HDL.out,hcl];omega
 have HFIT2:Hid (i+ys.length≤(splice cur (i+1) (xs.drop (i))).length):=by
  show _≤_
  rw [splice_length _ _ _ (by rw [HDL.out,hcl];omega),hy,hcl];omega
 have HE:Hid (i+1=i+1):=by show _=_;omega
 have HIN:Hid (i<n∧n+1≤cap∧B≤g):=⟨hin,hnc,hBg⟩
 clear hr hb hx1 hy1 hne hcl hcm htk hy hxl hBg
 go_enter Tryz.func90,Tryz.ntmps90
 go_upto_region 15 with (simp only [hov])
 obtain ⟨W1,hcp,hb1,hk1⟩:=run_copy_k (P:=Tryz.prog) w.drew 111 111 3 90 1 underePt iszPt g (i+1) (n-i) (cap-(i+1)) ⟨g,i,none⟩ (n+1-i) (cap-i) cur 90 HR.out.drew (xs.drop (i)) (n-i) HMIN.out HDL.out HSRC.out HFIT1.out HX1.out
 rw [HE.out] at hb1
 have HCP:=Lib.hid hcp
 have HB1:=Lib.hid hb1
 have HK1:=Lib.hid hk1
 clear hcp hb1 hk1
 have HSRC2:Hid (∀ j v,ys[j]?=some v→W1.cell? ((⟨b,0,none⟩:Addr).add j)=some v):=fun j v hj=>by
  have h:=HBK.out.src0 hj
  rw [add_plain] at h ⊢
  exact (HK1.out.cell (p:=⟨b,0+j,none⟩) HBK.out.lt HNE.out).trans h
 go_still_tail 8,(by kernel_rfl)
 obtain ⟨W2,hcp2,hb2,hk2⟩:=run_copy_k (P:=Tryz.prog) W1 111 111 3 90 1 underePt iszPt g (i) (n+1-i) (cap-i) ⟨b,0,none⟩ 1 1 _ 90 HB1.out ys 1 HMIN2.out HYL.out HSRC2.out HFIT2.out HY1.out
 have HB2:=Lib.hid hb2
 have HK2:=Lib.hid hk2
 clear hb2 hk2
 have hcp:=HCP.out
 go_wp2_with fail
 go_ret
 refine ⟨_,rfl,⟨?_,.inr ⟨g,cap,_,rfl,HIN.out.2.2,HB2.out,HIN.out.2.1,HCM.out,?_,?_⟩⟩,?_,?_⟩
 ·have h:=congrArg List.length HROW.out.2
  rw [← h,List.length_take,HROW.out.1,HC0.out]
  have:=HIN.out.2.1
  omega
 ·have h:=HROW.out.1
  rw [HC0.out] at h
  simpa using h
 ·have h:=HROW.out.2
  rw [show n+1=n+1 by omega] at h
  simpa using h
 ·exact Keeps.trans (Keeps.trans ((Keeps.refl w g).drew) HK1.out) HK2.out
 ·exact fun b hb=>.inl hb
set_option maxHeartbeats 1000000 in
set_option maxRecDepth 100000 in
theorem insPt_grow (w:World) (B g n i:Nat) (cur xs ys:List Value) (hr:Blk w g 90 cur) (hBw:B≤w.heap.size) (hin:i<n) (hn:n≤1000000000) (hcl:cur.length=n) (htk:cur.take (n)=xs) (hx1:∀ u ∈ xs,u.oneCell'=true)
    (b:Nat) (hb:Blk w b 90 ys) (hy:ys.length=1) (hy1:∀ u ∈ ys,u.oneCell'=true) :
    Calls Tryz.prog 90 #[.slice (some ⟨g,0,none⟩) n n,.int .i64 (i:Nat),.slice (some ⟨b,0,none⟩) 1 1] w (InsPt B (.slice (some ⟨g,0,none⟩) n n) n i xs ys w):=by
 have hxe:xs=cur:=by rw [← htk,List.take_of_length_le (by omega)]
 subst hxe
 obtain ⟨i0,hi,hz0,hz1,hz2⟩:=info_parts Tryz.infoPt
 have hxl:xs.length=n:=hcl
 have hold:(Builtin.firstCells i0.size i (.slice (some ⟨g,0,none⟩) i n)).run Tryz.prog w.drew=.ok (xs.take (i)).toArray w.drew:=by
  rw [hz1]
  refine run_firstCells_some w.drew 1 i ⟨g,0,none⟩ i n (xs.take (i)) (by rw [List.length_take];omega) (fun j v hj=>?_)
  rw [List.getElem?_take] at hj
  split at hj
  ·exact (hr.drew).src0 hj
  ·cases hj
 have hrz:∀ ty,(Builtin.append_ #[111,3] ty #[.slice (some ⟨g,0,none⟩) i n,.int .i64 ((n:Int)+1-(i:Int))]).run Tryz.prog w=.ok (.slice (some ⟨w.heap.size,0,none⟩) (n+1) (grownCap w (n+1) n 90)) (w.drew.alloc (.cells ((xs.take (i)).toArray++Builtin.zeroCells (.pointer none:Value).cells (n+1-i)++Builtin.zeroCells (.pointer none:Value).cells (grownCap w (n+1) n 90-(n+1))) 90)):=fun ty=>by
  have h:=Lib.run_append_grow_zeros (P:=Tryz.prog) w 111 3 ty 90 i0 _ .i64 .i64 underePt (by kernel_rfl) hi hz0 (some ⟨g,0,none⟩) i n (xs.take (i)) hold (n+1-i) (by omega) (by rw [hz1];omega) (by omega) (by omega) (by rw [hz2];omega) (by rw [hz2];exact growslice_fits (by omega) (by omega))
  rw [show i+(n+1-i)=n+1 by omega] at h
  rw [show (n:Int)+1-(i:Int)=((n+1-i:Nat):Int) by omega]
  exact h
 obtain ⟨G,hG⟩:∃ G,G=grownCap w (n+1) n 90:=⟨_,rfl⟩
 rw [← hG] at hrz
 have hGn:n+1≤G:=by rw [hG];exact grownCap_ge w _ _ _
 have hGm:G≤maxLen:=by rw [hG];exact grownCap_le_maxLen w (n+1) n 90 (by unfold maxLen;omega)
 have hG63:G≤9223372036854775807:=by unfold maxLen at hGm;omega
 obtain ⟨ROW,hROW⟩:∃ ROW:Array Value,ROW=(xs.take (i)).toArray++Builtin.zeroCells (.pointer none:Value).cells (n+1-i)++Builtin.zeroCells (.pointer none:Value).cells (G-(n+1)):=⟨_,rfl⟩
 rw [← hROW] at hrz
 have hRl:ROW.toList.length=G*1:=by
  rw [hROW]
  simp [Builtin.zeroCells,Value.cells,hxl]
  omega
 have hRt:ROW.toList.take (i)=xs.take (i):=by
  rw [hROW]
  simp only [Array.toList_append,List.append_assoc]
  rw [List.take_append_of_le_length (by rw [List.length_take];omega),List.take_of_length_le (by rw [List.length_take];omega)]
 obtain ⟨W0,hW0⟩:∃ W0,W0=w.drew.alloc (.cells ROW 90):=⟨_,rfl⟩
 rw [← hW0] at hrz
 have hB0:Blk W0 w.heap.size 90 ROW.toList:=by rw [hW0];simpa using Blk.new w.drew 90 ROW.toList
 have hK0:Below w.heap.size w W0:=by rw [hW0];exact undrew (below_new w.drew (.cells ROW 90))
 have HRZ:=Lib.hid hrz
 have HB0:=Lib.hid hB0
 have HK0:=Lib.hid hK0
 have HX1:Hid (∀ u ∈ xs.drop (i),u.oneCell'=true):=fun u hu=>hx1 u (List.mem_of_mem_drop hu)
 have HY1:=Lib.hid hy1
 have HROW:=Lib.hid (ins_new ROW.toList xs ys (i) 1 (n) hxl hRt (by rw [hRl];omega) (by omega) hy)
 have HDL:Hid ((xs.drop (i)).length=(n-i)*1):=by show _=_;rw [List.length_drop,hxl];omega
 have HYL:Hid (ys.length=1*1):=by show _=_;rw [hy]
 have HC0:Hid (ROW.toList.length=G*1):=hRl
 have HCM:=Lib.hid hGm
 have HSY:Hid (∀ j v,ys[j]?=some v→W0.cell? ((⟨b,0,none⟩:Addr).add j)=some v):=fun j v hj=>by
  have h:=hb.src0 hj
  rw [add_plain] at h ⊢
  exact (hK0.cell (p:=⟨b,0+j,none⟩) hb.lt).trans h
 have HSX:Hid (∀ W,Keeps W0 W w.heap.size→∀ j v,(xs.drop (i))[j]?=some v→W.drew.cell? ((⟨g,i,none⟩:Addr).add j)=some v):=fun W hK j v hj=>by
  rw [add_plain]
  have hgl:=hr.lt
  have e1:W.cell? ⟨g,i+j,none⟩=W0.cell? ⟨g,i+j,none⟩:=hK.cell (p:=⟨g,i+j,none⟩) (Nat.lt_of_lt_of_le hgl hK0.size) (by show g≠_;omega)
  have e2:W0.cell? ⟨g,i+j,none⟩=w.cell? ⟨g,i+j,none⟩:=hK0.cell (p:=⟨g,i+j,none⟩) hgl
  show W.cell? _=_
  rw [e1,e2,hr.cell]
  rw [List.getElem?_drop] at hj
  exact hj
 have q1:=fun w'=>slPt_l1 w' g n n i (by omega) (by omega)
 have q2:=fun w'=>slPt_h w' (some ⟨g,0,none⟩) n n i (by omega)
 have q3:∀ w',(Instr.sliceAt 111 (.slice (some ⟨w.heap.size,0,none⟩) (n+1) G) (some (.int .i64 (i:Int))) none none).run Tryz.prog w'=.ok (.slice (some ⟨w.heap.size,i,none⟩) (n+1-i) (G-i)) w':=fun w'=>slPt_l1 w' w.heap.size (n+1) G i (by omega) (by omega)
 have q4:∀ w',(Instr.sliceAt 111 (.slice (some ⟨w.heap.size,0,none⟩) (n+1) G) (some (.int .i64 ((i:Int)+1))) none none).run Tryz.prog w'=.ok (.slice (some ⟨w.heap.size,i+1,none⟩) (n-i) (G-(i+1))) w':=fun w'=>by
  have h:=slPt_l w' (some ⟨w.heap.size,0,none⟩) (n+1) G (i+1) (by omega)
  rw [show n+1-(i+1)=n-i by omega] at h
  rw [show cutPt (some ⟨w.heap.size,0,none⟩) (i+1) G=some ⟨w.heap.size,i+1,none⟩ from cutPt_at _ _ _ (by omega)] at h
  exact h
 have w1:IntKind.i64.wrap ((n:Int)+1)=(n:Int)+1:=by rw [IntKind.wrap_i64];omega
 have w2:IntKind.i64.wrap ((i:Int)+1)=(i:Int)+1:=by rw [IntKind.wrap_i64];omega
 have w3:IntKind.i64.wrap ((n:Int)+1-(i:Int))=(n:Int)+1-(i:Int):=by rw [IntKind.wrap_i64];omega
 have g1:¬ ((i:Int)=(n:Int)):=by omega
 have g2:(n:Int)<(n:Int)+1:=by omega
 have HMIN:Hid (n-i=Nat.min (n-i) (n-i)):=(Nat.min_self _).symm
 have HMIN2:Hid (1=Nat.min 1 (n+1-i)):=(Nat.min_eq_left (by omega)).symm
 have HFIT1:Hid (i+ys.length≤ROW.toList.length):=by show _≤_;rw [hRl,hy];omega
 have HFIT2:Hid (i+1+(xs.drop (i)).length≤(splice ROW.toList (i) ys).length):=by
  show _≤_
  rw [splice_length _ _ _ (by rw [hRl,hy];omega),HDL.out,hRl];omega
 have HE:Hid (i+1=i+1):=by show _=_;omega
 have HIN:Hid (i<n∧n+1≤G∧B≤w.heap.size):=⟨hin,hGn,hBw⟩
 clear hrz hB0 hK0 hW0 hROW hRl hRt hr hb hx1 hy1 hcl htk hy hxl hold hi hz0 hz1 hz2 hG hBw
 go_enter Tryz.func90,Tryz.ntmps90
 obtain ⟨W1,hcp1,hb1,hk1⟩:=run_copy_k (P:=Tryz.prog) W0 111 111 3 90 1 underePt iszPt w.heap.size (i) (n+1-i) (G-i) ⟨b,0,none⟩ 1 1 ROW.toList 90 HB0.out ys 1 HMIN2.out HYL.out HSY.out HFIT1.out HY1.out
 have HB1:=Lib.hid hb1
 have HK1:=Lib.hid hk1
 clear hb1 hk1
 go_upto_region 11 with (at_builtin;refine Lib.wpList_append_run _ rfl _ _ _ _ rfl _ _ rfl rfl _ _ (HRZ.out _) ?_)
 obtain ⟨W2,hcp,hb2,hk2⟩:=run_copy_k (P:=Tryz.prog) W1.drew 111 111 3 90 1 underePt iszPt w.heap.size (i+1) (n-i) (G-(i+1)) ⟨g,i,none⟩ (n-i) (n-i) _ 90 HB1.out.drew (xs.drop (i)) (n-i) HMIN.out HDL.out (HSX.out W1 HK1.out) HFIT2.out HX1.out
 rw [HE.out] at hb2
 have HCP:=Lib.hid hcp
 have HB2:=Lib.hid hb2
 have HK2:=Lib.hid hk2
 clear hcp hb2 hk2
 go_still_tail 8,(by kernel_rfl)
 have hcp:=HCP.out
 go_wp2_with fail
 go_ret
 refine ⟨_,rfl,⟨?_,.inr ⟨w.heap.size,G,_,rfl,HIN.out.2.2,HB2.out,HIN.out.2.1,HCM.out,?_,?_⟩⟩,?_,?_⟩
 ·have h:=congrArg List.length HROW.out.2
  rw [← h,List.length_take,HROW.out.1,HC0.out]
  have:=HIN.out.2.1
  omega
 ·have h:=HROW.out.1
  rw [HC0.out] at h
  simpa using h
 ·have h:=HROW.out.2
  rw [show n+1=n+1 by omega] at h
  simpa using h
 ·have h:=Keeps.below HK0.out ((HK1.out.drew).trans HK2.out) (Nat.le_refl _) HK0.out.size
  exact ⟨h.os,h.tape,h.output,h.size,fun j hj _=>h.block j hj⟩
 ·intro b hb
  have e:w.heap.size=b:=by simpa [Value.ownBlock] using hb
  exact .inr (by omega)
theorem insPt_any (w:World) (B:Nat) (v:Value) (n i:Nat) (xs ys:List Value) (hown:w.ownsRow B 90 1 v n xs) (hB:B≤w.heap.size) (hin:i≤n) (hn:n≤1000000000) (hx1:∀ u ∈ xs,u.oneCell'=true) (g:Nat) (hg:Blk w g 90 ys) (hne:v.ownBlock≠some g) (hy:ys.length=1) (hy1:∀ u ∈ ys,u.oneCell'=true) :
    Calls Tryz.prog 90 #[v,.int .i64 (i:Nat),.slice (some ⟨g,0,none⟩) 1 1] w (InsPt B v n i xs ys w):=by
 rcases Nat.lt_or_ge i n with h|h
 ·rcases hown.2 with ⟨rfl,rfl⟩|⟨b,cap,cur,rfl,h1,h2,h3,h4,h5,h6⟩
  ·omega
  ·have hb:Blk w b 90 cur.toList:=by simpa [Blk] using h2
   have hl:cur.toList.length=cap*1:=by simpa using h5
   rcases Nat.lt_or_ge n cap with h7|h7
   ·exact insPt_room w B b n cap i cur.toList xs ys hb h1 h h7 (by omega) h4 (by simpa using h6) hx1 g hg (fun e=>hne (by simp [Value.ownBlock,e])) hy hy1
   ·obtain rfl:cap=n:=by omega
    exact insPt_grow w B b cap i cur.toList xs ys hb hB h hn (by omega) (by simpa using h6) hx1 g hg hy hy1
 ·obtain rfl:i=n:=by omega
  exact insPt_end w B v i xs ys hown hB hn g hg hy hy1
end Tm
end Go.Proofs.YtbnpgakmhhfjkaaGreatDoor
