/-
  OWN WORK. TrInsE, TrDelE, TrTree, BaCell, TrFile, RfAt, RfNode, TrStep
-/
import Derived.Test.YtjoedamiilgajaaGreatQ03
import Derived.RangeFuncBox
import Derived.Test.YtjoedamiilgajaaGreatQ04
import Derived.Test.YtjoedamiilgajaaGreatQ01
import Derived.Laws.ResultCell
set_option maxHeartbeats 2000000
namespace Go.Proofs.YtjoedamiilgajaaGreat
open Go.RowKit Rc
namespace Tm
theorem Tryz.infoPt:(Tryz.prog.info? 76).map (fun i=>(i.zero,i.size,i.bytes))=some (some (.pointer none),1,8):=by kernel_rfl
theorem underPt:Tryz.prog.underlying 78=some (.slice (Tryz.prog.elem 78)):=by kernel_rfl
theorem underePt:Tryz.prog.underlying 78=some (.slice 76):=by kernel_rfl
theorem sizePt (w:World):(sizeOf (Tryz.prog.elem 78)).run Tryz.prog w=.ok 1 w:=by kernel_rfl
theorem sizeePt (w:World):(Go.sizeOf 76).run Tryz.prog w=.ok 1 w:=by kernel_rfl
theorem iszPt:(Tryz.prog.info? 76).map (·.size)=some 1:=by kernel_rfl
def cutPt (A:Option Addr) (n cap:Nat):Option Addr:=if cap=n then A else A.map (·.add (n))
theorem slPt_l (w:World) (A:Option Addr) (len cap n:Nat) (h:n≤len):(Instr.sliceAt 78 (.slice A len cap) (some (.int .i64 n)) none none).run Tryz.prog w=.ok (.slice (cutPt A n cap) (len-n) (cap-n)) w:=by
 rw [run_sliceAt_slice w _ _ _ _ _ underPt,run_slice_l w _ _ _ _ underPt .i64 n (by omega) (by omega),sizePt]
 simp [Result.andThen,sliced,cutPt]
theorem slPt_h (w:World) (A:Option Addr) (len cap n:Nat) (h:n≤cap):(Instr.sliceAt 78 (.slice A len cap) none (some (.int .i64 n)) none).run Tryz.prog w=.ok (.slice A n cap) w:=by
 rw [run_sliceAt_slice w _ _ _ _ _ underPt,run_slice_h w _ _ _ _ underPt .i64 n (by omega) (by omega),sizePt]
 have e:∀ a:Addr,a.add 0=a:=fun a=>by unfold Addr.add;simp
 cases A <;> simp [Result.andThen,sliced,e]
theorem cutPt_at (g n cap:Nat) (h:n<cap):cutPt (some ⟨g,0,none⟩) n cap=some ⟨g,n,none⟩:=by
 unfold cutPt
 rw [if_neg (by omega)]
 simp [add_plain]
theorem slPt_l1 (w:World) (g len cap n:Nat) (h:n≤len) (h2:n<cap):(Instr.sliceAt 78 (.slice (some ⟨g,0,none⟩) len cap) (some (.int .i64 n)) none none).run Tryz.prog w=.ok (.slice (some ⟨g,n,none⟩) (len-n) (cap-n)) w:=by
 rw [slPt_l w _ len cap n h,cutPt_at g n cap h2]
def InsPt (B:Nat) (v:Value) (n i:Nat) (xs ys:List Value) (w:World) (e:Ending) (w':World):Prop :=
 ∃ v',e=.returned v'∧w'.ownsRow B 76 1 v' (n+1) (xs.take (i)++(ys++xs.drop (i)))∧w.grownBy w' v.ownBlock∧∀ b,v'.ownBlock=some b→v.ownBlock=some b∨w.heap.size≤b
set_option maxRecDepth 100000 in
theorem insPt_end (w:World) (B:Nat) (v:Value) (n:Nat) (xs ys:List Value) (hown:w.ownsRow B 76 1 v n xs) (hB:B≤w.heap.size) (hn:n≤1000000000) (g:Nat) (hg:Blk w g 76 ys) (hy:ys.length=1) (hy1:∀ u ∈ ys,u.oneCell'=true) :
    Calls Tryz.prog 50 #[v,.int .i64 (n:Nat),.slice (some ⟨g,0,none⟩) 1 1] w (InsPt B v n n xs ys w):=by
 obtain ⟨i0,hi,hz0,hz1,hz2⟩:=info_parts Tryz.infoPt
 have HI0:=Lib.hid hi
 have HZ0:=Lib.hid hz0
 have HZ1:=Lib.hid hz1
 have HZ2:=Lib.hid hz2
 have HO:=Lib.hid hown
 have HG:=Lib.hid hg
 have HB:=Lib.hid hB
 have HY:Hid (ys.length=1*1):=by show _=_;rw [hy]
 have HY1:=Lib.hid hy1
 have HSRC:Hid (∀ j u,ys[j]?=some u→w.cell? ((⟨g,0,none⟩:Addr).add j)=some u):=fun j u hj=>hg.src0 hj
 have HXT:Hid (xs.take (n)++(ys++xs.drop (n))=xs++ys):=by
  show _=_
  have hx0:=hown.1
  rw [List.take_of_length_le (by omega),List.drop_eq_nil_of_le (by omega),List.append_nil]
 obtain ⟨A,c,rfl,hc,hh⟩:=oF hown
 clear hh hown hg hi hz0 hz1 hz2 hy hy1 hB
 have q1:=fun w'=>slPt_l w' A n c n (Nat.le_refl _)
 go_enter Tryz.func50,Tryz.ntmps50
 go_wp2_with (at_builtin;refine wpList_append_own_at _ rfl (.tmp 23) (.tmp 24) 78 rfl B 76 i0 _ 1 8 underePt HI0.out HZ0.out HZ1.out HZ2.out rfl (by decide) _ n xs rfl HO.out ⟨g,0,none⟩ 1 1 ys rfl HY.out HSRC.out HY1.out (by unfold maxLen;omega) (by omega) HB.out ?_;intro v1 w1 h1 h2 h3 h4;have HO1:=Lib.hid h1;have HG1:=Lib.hid h2;have HL1:=Lib.hid h4;clear h1 h2 h3 h4)
 go_ret
 exact ⟨_,rfl,by rw [HXT.out];exact HO1.out,HG1.out,fun b hb=>by
  rcases HL1.out with h|h
  ·exact .inl (h.symm.trans hb)
  ·exact .inr (by have e:=h.symm.trans hb;injection e with e;omega)⟩
theorem overPt (w:World) (g b o l1 l2 c1 c2:Nat) (hne:g≠b) (cs cs2:List Value) (t2:TypeId) (h1:Blk w g 76 cs) (h2:Blk w b t2 cs2) (h3:cs2.length≠0) :
    (callFunc 106 #[.slice (some ⟨g,0,none⟩) l1 c1,.slice (some ⟨b,o,none⟩) l2 c2]).run Tryz.prog w=.ok (.value (.bool false)) w:=by
 have sh:∀ {x:Nat} {t:TypeId} {c:List Value},Blk w x t c→w.shape? x=some (t,c.length):=fun {x t c} h=>by
  unfold Blk at h
  simp [World.shape?,h]
 rw [run_callFunc_extern Tryz.func106 (by kernel_rfl) (by kernel_rfl) (by kernel_rfl) (e:=Extern.SlicesOverlaps.overlaps #[78,78] #[4]) (by kernel_rfl),
  Lib.run_overlaps_apart w 78 4 76 underePt 1 sizeePt ⟨g,0,none⟩ ⟨b,o,none⟩ l1 c1 l2 c2 hne 76 t2 cs.length cs2.length (sh h1) (sh h2) h3 (h1.frozen 0) (h1.frozen cs.length)]
 rfl
set_option maxRecDepth 100000 in
theorem insPt_room (w:World) (B g n cap i:Nat) (cur xs ys:List Value) (hr:Blk w g 76 cur) (hBg:B≤g) (hin:i<n) (hnc:n+1≤cap) (hcl:cur.length=cap*1) (hcm:cap≤maxLen) (htk:cur.take (n)=xs) (hx1:∀ u ∈ xs,u.oneCell'=true)
    (b:Nat) (hb:Blk w b 76 ys) (hne:b≠g) (hy:ys.length=1) (hy1:∀ u ∈ ys,u.oneCell'=true) :
    Calls Tryz.prog 50 #[.slice (some ⟨g,0,none⟩) n cap,.int .i64 (i:Nat),.slice (some ⟨b,0,none⟩) 1 1] w (InsPt B (.slice (some ⟨g,0,none⟩) n cap) n i xs ys w):=by
 have hxl:xs.length=n:=by rw [← htk,List.length_take];omega
 have hm63:cap≤9223372036854775807:=by unfold maxLen at hcm;omega
 have HR:=Lib.hid hr
 have HBK:=Lib.hid hb
 have HX1:Hid (∀ u ∈ xs.drop (i),u.oneCell'=true):=fun u hu=>hx1 u (List.mem_of_mem_drop hu)
 have HY1:=Lib.hid hy1
 have HNE:=Lib.hid hne
 have HROW:=Lib.hid (ins_row cur xs ys (i) 1 (n) htk (by omega) (by omega) hy)
 have HDL:Hid ((xs.drop (i)).length=(n-i)*1):=by show _=_;rw [List.length_drop,hxl];omega
 have HYL:Hid (ys.length=1*1):=by show _=_;rw [hy]
 have HC0:Hid (cur.length=cap*1):=hcl
 have HCM:=Lib.hid hcm
 have HSRC:Hid (∀ j v,(xs.drop (i))[j]?=some v→w.drew.cell? ((⟨g,i,none⟩:Addr).add j)=some v):=fun j v hj=>by
  rw [add_plain]
  have e:w.cell? ⟨g,i+j,none⟩=cur[i+j]?:=hr.cell _
  show w.cell? _=_
  rw [e]
  rw [List.getElem?_drop,← htk,List.getElem?_take] at hj
  split at hj
  ·exact hj
  ·cases hj
 have hov:∀ l2 c1 c2,(callFunc 106 #[.slice (some ⟨b,0,none⟩) 1 c1,.slice (some ⟨g,i+1,none⟩) l2 c2]).run Tryz.prog w=.ok (.value (.bool false)) w:=fun l2 c1 c2=>overPt w b g _ 1 l2 c1 c2 hne ys cur _ hb hr (by omega)
 have q1:=fun w'=>slPt_l1 w' g n cap i (by omega) (by omega)
 have q2:∀ w',(Instr.sliceAt 78 (.slice (some ⟨g,0,none⟩) n cap) none (some (.int .i64 ((n:Int)+1))) none).run Tryz.prog w'=.ok (.slice (some ⟨g,0,none⟩) (n+1) cap) w':=fun w'=>slPt_h w' (some ⟨g,0,none⟩) n cap (n+1) hnc
 have q3:∀ w',(Instr.sliceAt 78 (.slice (some ⟨g,0,none⟩) (n+1) cap) (some (.int .i64 ((i:Int)+1))) none none).run Tryz.prog w'=.ok (.slice (some ⟨g,i+1,none⟩) (n-i) (cap-(i+1))) w':=fun w'=>by
  have h:=slPt_l1 w' g (n+1) cap (i+1) (by omega) (by omega)
  rw [show n+1-(i+1)=n-i by omega] at h
  exact h
 have q4:∀ w',(Instr.sliceAt 78 (.slice (some ⟨g,0,none⟩) (n+1) cap) (some (.int .i64 (i:Int))) none none).run Tryz.prog w'=.ok (.slice (some ⟨g,i,none⟩) (n+1-i) (cap-i)) w':=fun w'=>slPt_l1 w' g (n+1) cap i (by omega) (by omega)
 have w1:IntKind.i64.wrap ((n:Int)+1)=(n:Int)+1:=by rw [IntKind.wrap_i64];omega
 have w2:IntKind.i64.wrap ((i:Int)+1)=(i:Int)+1:=by rw [IntKind.wrap_i64];omega
 have g1:¬ ((i:Int)=(n:Int)):=by omega
 have g2:¬ ((cap:Int)<(n:Int)+1):=by omega
 have HMIN:Hid (n-i=Nat.min (n+1-i) (n-i)):=(Nat.min_eq_right (by omega)).symm
 have HMIN2:Hid (1=Nat.min 1 (n+1-i)):=(Nat.min_eq_left (by omega)).symm
 have HFIT1:Hid (i+1+(xs.drop (i)).length≤cur.length):=by show _≤_;rw [HDL.out,hcl];omega
 have HFIT2:Hid (i+ys.length≤(splice cur (i+1) (xs.drop (i))).length):=by
  show _≤_
  rw [splice_length _ _ _ (by rw [HDL.out,hcl];omega),hy,hcl];omega
 have HE:Hid (i+1=i+1):=by show _=_;omega
 have HIN:Hid (i<n∧n+1≤cap∧B≤g):=⟨hin,hnc,hBg⟩
 clear hr hb hx1 hy1 hne hcl hcm htk hy hxl hBg
 go_enter Tryz.func50,Tryz.ntmps50
 go_upto_region 15 with (simp only [hov])
 obtain ⟨W1,hcp,hb1,hk1⟩:=run_copy_k (P:=Tryz.prog) w.drew 78 78 3 76 1 underePt iszPt g (i+1) (n-i) (cap-(i+1)) ⟨g,i,none⟩ (n+1-i) (cap-i) cur 76 HR.out.drew (xs.drop (i)) (n-i) HMIN.out HDL.out HSRC.out HFIT1.out HX1.out
 rw [HE.out] at hb1
 have HCP:=Lib.hid hcp
 have HB1:=Lib.hid hb1
 have HK1:=Lib.hid hk1
 clear hcp hb1 hk1
 have HSRC2:Hid (∀ j v,ys[j]?=some v→W1.cell? ((⟨b,0,none⟩:Addr).add j)=some v):=fun j v hj=>by
  have h:=HBK.out.src0 hj
  rw [add_plain] at h ⊢
  exact (HK1.out.cell (p:=⟨b,0+j,none⟩) HBK.out.lt HNE.out).trans h
 go_still_tail 8,(by kernel_rfl)
 obtain ⟨W2,hcp2,hb2,hk2⟩:=run_copy_k (P:=Tryz.prog) W1 78 78 3 76 1 underePt iszPt g (i) (n+1-i) (cap-i) ⟨b,0,none⟩ 1 1 _ 76 HB1.out ys 1 HMIN2.out HYL.out HSRC2.out HFIT2.out HY1.out
 have HB2:=Lib.hid hb2
 have HK2:=Lib.hid hk2
 clear hb2 hk2
 have hcp:=HCP.out
 go_wp2_with fail
 go_ret
 refine ⟨_,rfl,⟨?_,.inr ⟨g,cap,_,rfl,HIN.out.2.2,HB2.out,HIN.out.2.1,HCM.out,?_,?_⟩⟩,?_,?_⟩
 ·have h:=congrArg List.length HROW.out.2
  rw [← h,List.length_take,HROW.out.1,HC0.out]
  have:=HIN.out.2.1
  omega
 ·have h:=HROW.out.1
  rw [HC0.out] at h
  simpa using h
 ·have h:=HROW.out.2
  rw [show n+1=n+1 by omega] at h
  simpa using h
 ·exact Keeps.trans (Keeps.trans ((Keeps.refl w g).drew) HK1.out) HK2.out
 ·exact fun b hb=>.inl hb
set_option maxRecDepth 100000 in
theorem insPt_grow (w:World) (B g n i:Nat) (cur xs ys:List Value) (hr:Blk w g 76 cur) (hBw:B≤w.heap.size) (hin:i<n) (hn:n≤1000000000) (hcl:cur.length=n) (htk:cur.take (n)=xs) (hx1:∀ u ∈ xs,u.oneCell'=true)
    (b:Nat) (hb:Blk w b 76 ys) (hy:ys.length=1) (hy1:∀ u ∈ ys,u.oneCell'=true) :
    Calls Tryz.prog 50 #[.slice (some ⟨g,0,none⟩) n n,.int .i64 (i:Nat),.slice (some ⟨b,0,none⟩) 1 1] w (InsPt B (.slice (some ⟨g,0,none⟩) n n) n i xs ys w):=by
 have hxe:xs=cur:=by rw [← htk,List.take_of_length_le (by omega)]
 subst hxe
 obtain ⟨i0,hi,hz0,hz1,hz2⟩:=info_parts Tryz.infoPt
 have hxl:xs.length=n:=hcl
 have hold:(Builtin.firstCells i0.size i (.slice (some ⟨g,0,none⟩) i n)).run Tryz.prog w.drew=.ok (xs.take (i)).toArray w.drew:=by
  rw [hz1]
  refine run_firstCells_some w.drew 1 i ⟨g,0,none⟩ i n (xs.take (i)) (by rw [List.length_take];omega) (fun j v hj=>?_)
  rw [List.getElem?_take] at hj
  split at hj
  ·exact (hr.drew).src0 hj
  ·cases hj
 have hrz:∀ ty,(Builtin.append_ #[78,3] ty #[.slice (some ⟨g,0,none⟩) i n,.int .i64 ((n:Int)+1-(i:Int))]).run Tryz.prog w=.ok (.slice (some ⟨w.heap.size,0,none⟩) (n+1) (grownCap w (n+1) n 76)) (w.drew.alloc (.cells ((xs.take (i)).toArray++Builtin.zeroCells (.pointer none:Value).cells (n+1-i)++Builtin.zeroCells (.pointer none:Value).cells (grownCap w (n+1) n 76-(n+1))) 76)):=fun ty=>by
  have h:=Lib.run_append_grow_zeros (P:=Tryz.prog) w 78 3 ty 76 i0 _ .i64 .i64 underePt (by kernel_rfl) hi hz0 (some ⟨g,0,none⟩) i n (xs.take (i)) hold (n+1-i) (by omega) (by rw [hz1];omega) (by omega) (by omega) (by rw [hz2];omega) (by rw [hz2];exact growslice_fits (by omega) (by omega))
  rw [show i+(n+1-i)=n+1 by omega] at h
  rw [show (n:Int)+1-(i:Int)=((n+1-i:Nat):Int) by omega]
  exact h
 obtain ⟨G,hG⟩:∃ G,G=grownCap w (n+1) n 76:=⟨_,rfl⟩
 rw [← hG] at hrz
 have hGn:n+1≤G:=by rw [hG];exact grownCap_ge w _ _ _
 have hGm:G≤maxLen:=by rw [hG];exact grownCap_le_maxLen w (n+1) n 76 (by unfold maxLen;omega)
 have hG63:G≤9223372036854775807:=by unfold maxLen at hGm;omega
 obtain ⟨ROW,hROW⟩:∃ ROW:Array Value,ROW=(xs.take (i)).toArray++Builtin.zeroCells (.pointer none:Value).cells (n+1-i)++Builtin.zeroCells (.pointer none:Value).cells (G-(n+1)):=⟨_,rfl⟩
 rw [← hROW] at hrz
 have hRl:ROW.toList.length=G*1:=by
  rw [hROW]
  simp [Builtin.zeroCells,Value.cells,hxl]
  omega
 have hRt:ROW.toList.take (i)=xs.take (i):=by
  rw [hROW]
  simp only [Array.toList_append,List.append_assoc]
  rw [List.take_append_of_le_length (by rw [List.length_take];omega),List.take_of_length_le (by rw [List.length_take];omega)]
 obtain ⟨W0,hW0⟩:∃ W0,W0=w.drew.alloc (.cells ROW 76):=⟨_,rfl⟩
 rw [← hW0] at hrz
 have hB0:Blk W0 w.heap.size 76 ROW.toList:=by rw [hW0];simpa using Blk.new w.drew 76 ROW.toList
 have hK0:Below w.heap.size w W0:=by rw [hW0];exact undrew (bN w.drew (.cells ROW 76))
 have HRZ:=Lib.hid hrz
 have HB0:=Lib.hid hB0
 have HK0:=Lib.hid hK0
 have HX1:Hid (∀ u ∈ xs.drop (i),u.oneCell'=true):=fun u hu=>hx1 u (List.mem_of_mem_drop hu)
 have HY1:=Lib.hid hy1
 have HROW:=Lib.hid (ins_new ROW.toList xs ys (i) 1 (n) hxl hRt (by rw [hRl];omega) (by omega) hy)
 have HDL:Hid ((xs.drop (i)).length=(n-i)*1):=by show _=_;rw [List.length_drop,hxl];omega
 have HYL:Hid (ys.length=1*1):=by show _=_;rw [hy]
 have HC0:Hid (ROW.toList.length=G*1):=hRl
 have HCM:=Lib.hid hGm
 have HSY:Hid (∀ j v,ys[j]?=some v→W0.cell? ((⟨b,0,none⟩:Addr).add j)=some v):=fun j v hj=>by
  have h:=hb.src0 hj
  rw [add_plain] at h ⊢
  exact (hK0.cell (p:=⟨b,0+j,none⟩) hb.lt).trans h
 have HSX:Hid (∀ W,Keeps W0 W w.heap.size→∀ j v,(xs.drop (i))[j]?=some v→W.drew.cell? ((⟨g,i,none⟩:Addr).add j)=some v):=fun W hK j v hj=>by
  rw [add_plain]
  have hgl:=hr.lt
  have e1:W.cell? ⟨g,i+j,none⟩=W0.cell? ⟨g,i+j,none⟩:=hK.cell (p:=⟨g,i+j,none⟩) (Nat.lt_of_lt_of_le hgl hK0.size) (by show g≠_;omega)
  have e2:W0.cell? ⟨g,i+j,none⟩=w.cell? ⟨g,i+j,none⟩:=hK0.cell (p:=⟨g,i+j,none⟩) hgl
  show W.cell? _=_
  rw [e1,e2,hr.cell]
  rw [List.getElem?_drop] at hj
  exact hj
 have q1:=fun w'=>slPt_l1 w' g n n i (by omega) (by omega)
 have q2:=fun w'=>slPt_h w' (some ⟨g,0,none⟩) n n i (by omega)
 have q3:∀ w',(Instr.sliceAt 78 (.slice (some ⟨w.heap.size,0,none⟩) (n+1) G) (some (.int .i64 (i:Int))) none none).run Tryz.prog w'=.ok (.slice (some ⟨w.heap.size,i,none⟩) (n+1-i) (G-i)) w':=fun w'=>slPt_l1 w' w.heap.size (n+1) G i (by omega) (by omega)
 have q4:∀ w',(Instr.sliceAt 78 (.slice (some ⟨w.heap.size,0,none⟩) (n+1) G) (some (.int .i64 ((i:Int)+1))) none none).run Tryz.prog w'=.ok (.slice (some ⟨w.heap.size,i+1,none⟩) (n-i) (G-(i+1))) w':=fun w'=>by
  have h:=slPt_l w' (some ⟨w.heap.size,0,none⟩) (n+1) G (i+1) (by omega)
  rw [show n+1-(i+1)=n-i by omega] at h
  rw [show cutPt (some ⟨w.heap.size,0,none⟩) (i+1) G=some ⟨w.heap.size,i+1,none⟩ from cutPt_at _ _ _ (by omega)] at h
  exact h
 have w1:IntKind.i64.wrap ((n:Int)+1)=(n:Int)+1:=by rw [IntKind.wrap_i64];omega
 have w2:IntKind.i64.wrap ((i:Int)+1)=(i:Int)+1:=by rw [IntKind.wrap_i64];omega
 have w3:IntKind.i64.wrap ((n:Int)+1-(i:Int))=(n:Int)+1-(i:Int):=by rw [IntKind.wrap_i64];omega
 have g1:¬ ((i:Int)=(n:Int)):=by omega
 have g2:(n:Int)<(n:Int)+1:=by omega
 have HMIN:Hid (n-i=Nat.min (n-i) (n-i)):=(Nat.min_self _).symm
 have HMIN2:Hid (1=Nat.min 1 (n+1-i)):=(Nat.min_eq_left (by omega)).symm
 have HFIT1:Hid (i+ys.length≤ROW.toList.length):=by show _≤_;rw [hRl,hy];omega
 have HFIT2:Hid (i+1+(xs.drop (i)).length≤(splice ROW.toList (i) ys).length):=by
  show _≤_
  rw [splice_length _ _ _ (by rw [hRl,hy];omega),HDL.out,hRl];omega
 have HE:Hid (i+1=i+1):=by show _=_;omega
 have HIN:Hid (i<n∧n+1≤G∧B≤w.heap.size):=⟨hin,hGn,hBw⟩
 clear hrz hB0 hK0 hW0 hROW hRl hRt hr hb hx1 hy1 hcl htk hy hxl hold hi hz0 hz1 hz2 hG hBw
 go_enter Tryz.func50,Tryz.ntmps50
 obtain ⟨W1,hcp1,hb1,hk1⟩:=run_copy_k (P:=Tryz.prog) W0 78 78 3 76 1 underePt iszPt w.heap.size (i) (n+1-i) (G-i) ⟨b,0,none⟩ 1 1 ROW.toList 76 HB0.out ys 1 HMIN2.out HYL.out HSY.out HFIT1.out HY1.out
 have HB1:=Lib.hid hb1
 have HK1:=Lib.hid hk1
 clear hb1 hk1
 go_upto_region 11 with (at_builtin;refine Lib.wpList_append_run _ rfl _ _ _ _ rfl _ _ rfl rfl _ _ (HRZ.out _) ?_)
 obtain ⟨W2,hcp,hb2,hk2⟩:=run_copy_k (P:=Tryz.prog) W1.drew 78 78 3 76 1 underePt iszPt w.heap.size (i+1) (n-i) (G-(i+1)) ⟨g,i,none⟩ (n-i) (n-i) _ 76 HB1.out.drew (xs.drop (i)) (n-i) HMIN.out HDL.out (HSX.out W1 HK1.out) HFIT2.out HX1.out
 rw [HE.out] at hb2
 have HCP:=Lib.hid hcp
 have HB2:=Lib.hid hb2
 have HK2:=Lib.hid hk2
 clear hcp hb2 hk2
 go_still_tail 8,(by kernel_rfl)
 have hcp:=HCP.out
 go_wp2_with fail
 go_ret
 refine ⟨_,rfl,⟨?_,.inr ⟨w.heap.size,G,_,rfl,HIN.out.2.2,HB2.out,HIN.out.2.1,HCM.out,?_,?_⟩⟩,?_,?_⟩
 ·have h:=congrArg List.length HROW.out.2
  rw [← h,List.length_take,HROW.out.1,HC0.out]
  have:=HIN.out.2.1
  omega
 ·have h:=HROW.out.1
  rw [HC0.out] at h
  simpa using h
 ·have h:=HROW.out.2
  rw [show n+1=n+1 by omega] at h
  simpa using h
 ·have h:=Keeps.below HK0.out ((HK1.out.drew).trans HK2.out) (Nat.le_refl _) HK0.out.size
  exact ⟨h.os,h.tape,h.output,h.size,fun j hj _=>h.block j hj⟩
 ·intro b hb
  have e:w.heap.size=b:=by simpa [Value.ownBlock] using hb
  exact .inr (by omega)
theorem insPt_any (w:World) (B:Nat) (v:Value) (n i:Nat) (xs ys:List Value) (hown:w.ownsRow B 76 1 v n xs) (hB:B≤w.heap.size) (hin:i≤n) (hn:n≤1000000000) (hx1:∀ u ∈ xs,u.oneCell'=true) (g:Nat) (hg:Blk w g 76 ys) (hne:v.ownBlock≠some g) (hy:ys.length=1) (hy1:∀ u ∈ ys,u.oneCell'=true) :
    Calls Tryz.prog 50 #[v,.int .i64 (i:Nat),.slice (some ⟨g,0,none⟩) 1 1] w (InsPt B v n i xs ys w):=by
 rcases Nat.lt_or_ge i n with h|h
 ·rcases hown.2 with ⟨rfl,rfl⟩|⟨b,cap,cur,rfl,h1,h2,h3,h4,h5,h6⟩
  ·omega
  ·have hb:Blk w b 76 cur.toList:=by simpa [Blk] using h2
   have hl:cur.toList.length=cap*1:=by simpa using h5
   rcases Nat.lt_or_ge n cap with h7|h7
   ·exact insPt_room w B b n cap i cur.toList xs ys hb h1 h h7 (by omega) h4 (by simpa using h6) hx1 g hg (fun e=>hne (by simp [Value.ownBlock,e])) hy hy1
   ·obtain rfl:cap=n:=by omega
    exact insPt_grow w B b cap i cur.toList xs ys hb hB h hn (by omega) (by simpa using h6) hx1 g hg hy hy1
 ·obtain rfl:i=n:=by omega
  exact insPt_end w B v i xs ys hown hB hn g hg hy hy1
end Tm
end Go.Proofs.YtjoedamiilgajaaGreat
namespace Go.Proofs.YtjoedamiilgajaaGreat
open Go.RowKit Rc
open Tr (Nm En T)
namespace Tm
def idxPt (p:Nat→Bool):List Nat→Nat→Int
 | [],_=>-1
 | x :: l,i=>if p x then (i:Int) else idxPt p l (i+1)
theorem idxPt_split (p:Nat→Bool):∀ (l:List Nat) (i:Nat),(idxPt p l i=-1∧∀ x ∈ l,p x=false)∨∃ j x,j<l.length∧idxPt p l i=((i+j:Nat):Int)∧l[j]?=some x∧p x=true∧∀ y ∈ l.take j,p y=false
 | [],i=>.inl ⟨rfl,fun x h=>by simp at h⟩
 | x :: l,i=>by
   unfold idxPt
   cases hx:p x
   ·rcases idxPt_split p l (i+1) with ⟨h1,h2⟩|⟨j,y,h1,h2,h3,h4,h5⟩
    ·exact .inl ⟨by simpa using h1,fun y hy=>by rcases List.mem_cons.1 hy with rfl|hy;exact hx;exact h2 y hy⟩
    ·refine .inr ⟨j+1,y,by simp only [List.length_cons];omega,by simp only [Bool.false_eq_true,if_false];rw [h2];congr 1;omega,by simpa using h3,h4,fun z hz=>?_⟩
     rw [List.take_succ_cons] at hz
     rcases List.mem_cons.1 hz with rfl|hz
     ·exact hx
     ·exact h5 z hz
   ·exact .inr ⟨0,x,by simp,by simp,rfl,hx,fun y hy=>by simp at hy⟩
theorem idxPt_step (p:Nat→Bool) (l:List Nat) (j i:Nat) (h:∀ y ∈ l.take j,p y=false):idxPt p l i=idxPt p (l.drop j) (i+j):=by
 induction j generalizing l i with
 | zero=>simp
 | succ j ih =>
   cases l with
   | nil=>simp [idxPt]
   | cons x l =>
     rw [List.take_succ_cons] at h
     rw [List.drop_succ_cons,idxPt,if_neg (by rw [h x (.head _)];simp),ih l (i+1) fun y hy=>h y (.tail _ hy)]
     congr 1;omega
def ToldPt (v:Value) (w:World) (f:FuncId) (cb:Array Value) (p:Nat→Bool) (l:List Nat):Prop :=
 ∀ W,w.grownBy W v.ownBlock→∀ x ∈ l,Calls Tryz.prog f (#[.pointer (some ⟨x,0,none⟩)]++cb) W fun e w'=>e=.returned (.bool (p x))∧Below W.heap.size W w'
theorem grown_below_TrDelE {w wr w':World} {row:Option Nat} (h:w.grownBy wr row) (hb:Below wr.heap.size wr w'):w.grownBy w' row :=
 ⟨hb.os.trans h.os,hb.tape.trans h.tape,hb.output.trans h.output,Nat.le_trans h.size hb.size,fun b hlt hne=>(hb.block b (Nat.lt_of_lt_of_le hlt h.size)).trans (h.block b hlt hne)⟩
theorem below_grown_TrDelE {w wr:World} (h:Below w.heap.size w wr) (row:Option Nat):w.grownBy wr row:=⟨h.os,h.tape,h.output,h.size,fun b hlt _=>h.block b hlt⟩
set_option maxRecDepth 100000 in
theorem indexPt_any (w:World) (v:Value) (l:List Nat) (f:FuncId) (cb:Array Value) (p:Nat→Bool) (hent:∀ (args:Array Value) (w:World),(callFunc f args).run Tryz.prog w=.ok (.enter f args) w)
    (hown:w.ownsRow 0 76 1 v l.length (ptrCells l)) (hl:l.length≤1000000000) (hp:ToldPt v w f cb p l) :
    Calls Tryz.prog 148 #[v,.func (.func f) #[] cb] w fun e w'=>e=.returned (.int .i64 (idxPt p l 0))∧Below w.heap.size w w':=by
 have HP:=Lib.hid hp
 have HO:=Lib.hid hown
 obtain ⟨A,c,rfl,hc,hA⟩:=oF hown
 have HA:=Lib.hid hA
 clear hp hown hA
 go_enter Tryz.func148,Tryz.ntmps148
 go_wp2_with fail
 go_loopw [8] (fun t8 wr=>∃ j:Nat,t8=.int .i64 j∧j≤l.length∧Hid (∀ y ∈ l.take j,p y=false)∧Hid (Below w.heap.size w wr)) (fun t8 _=>l.length-(match t8 with|.int _ k=>k.toNat|_=>0))
 case atStart=>exact ⟨0,rfl,Nat.zero_le _,fun y hy=>by simp at hy,Below.refl _ _⟩
 case round =>
  obtain ⟨j,rfl,hj,HN,HB⟩:=hrel
  by_cases hk:j<l.length
  ·obtain ⟨x,hx⟩:∃ x,l[j]?=some x:=⟨_,List.getElem?_eq_getElem hk⟩
   have hlt:(j:Int)<(l.length:Int):=by omega
   obtain ⟨g,hAg,hob,_,hgl,hcell⟩:=HA.out (by omega)
   subst hAg
   have c0:wr.cell? ⟨g,j,none⟩=some (.pointer (some ⟨x,0,none⟩)):=(HB.out.cell (p:=⟨g,j,none⟩) hgl).trans (hcell _ _ (by simp [ptrCells,hx]))
   have HX:=Lib.hid hx
   have HC:=HP.out wr (below_grown_TrDelE HB.out _) x (List.mem_of_getElem? hx)
   have HCC:=Lib.hid HC
   clear hx hcell HC hob hgl
   go_wp2_with fail
   refine HCC.out.mono ?_
   rintro e w1 ⟨rfl,hb⟩
   have HB1:Hid (Below w.heap.size w w1):=HB.out.trans (hb.mono HB.out.size)
   clear hb
   cases hpx:p x
   ·have HN1:Hid (∀ y ∈ l.take (j+1),p y=false):=fun y hy=>by
     rw [List.take_succ_eq_append_getElem hk,List.mem_append] at hy
     rcases hy with hy|hy
     ·exact HN.out y hy
     ·have e:l[j]=x:=(List.getElem?_eq_some_iff.1 HX.out).2
      simp only [List.mem_singleton] at hy
      rw [hy,e];exact hpx
    go_wp2_with fail
    go_roundw
    case rel=>exact ⟨j+1,by go_num,by omega,HN1.out,HB1.out⟩
    case measure=>simp;omega
   ·have HI:Hid (idxPt p l 0=(j:Int)):=by
     show _=_
     rw [idxPt_step p l j 0 HN.out,List.drop_eq_getElem_cons hk]
     have e:l[j]=x:=(List.getElem?_eq_some_iff.1 HX.out).2
     rw [idxPt,e,if_pos hpx,Nat.zero_add]
    go_wp2_with fail
    go_ret
    exact ⟨by rw [HI.out];rfl,HB1.out⟩
  ·obtain rfl:j=l.length:=by omega
   have HI:Hid (idxPt p l 0=-1):=by
    show _=_
    rcases idxPt_split p l 0 with h|⟨j,x,h1,_,h3,h4,_⟩
    ·exact h.1
    ·have h5:=HN.out x (by rw [List.take_length];exact List.mem_of_getElem? h3)
     rw [h5] at h4;cases h4
   go_wp2_with fail
   go_ret
   exact ⟨by rw [HI.out];rfl,HB.out⟩
structure HalfPt (l:List Nat) (p:Nat→Bool) (cap i j:Nat) (cur:List Value):Prop where
 cnt:((l.take j).filter fun x=>!p x).length=i
 len:cur.length=cap*1
 done:cur.take (i)=ptrCells ((l.take j).filter fun x=>!p x)
 rest:(cur.drop (j)).take ((l.length-j)*1)=ptrCells (l.drop j)
theorem HalfPt.le {l:List Nat} {p:Nat→Bool} {cap i j:Nat} {cur:List Value} (h:HalfPt l p cap i j cur):i≤j:=by
 rw [← h.cnt]
 exact Nat.le_trans (List.length_filter_le _ _) (by rw [List.length_take];omega)
theorem take_next_TrDelE {α:Type} {l:List α} {j:Nat} {x:α} (hx:l[j]?=some x):l.take (j+1)=l.take j++[x]:=by
 have hj:=(List.getElem?_eq_some_iff.1 hx).1
 rw [List.take_succ_eq_append_getElem hj,(List.getElem?_eq_some_iff.1 hx).2]
theorem HalfPt.out {l:List Nat} {p:Nat→Bool} {cap i j:Nat} {cur:List Value} (h:HalfPt l p cap i j cur) {x:Nat} (hx:l[j]?=some x) (hp:p x=true):HalfPt l p cap i (j+1) cur:=by
 have e:((l.take (j+1)).filter fun x=>!p x)=(l.take j).filter fun x=>!p x:=by
  rw [take_next_TrDelE hx,List.filter_append];simp [hp]
 refine ⟨by rw [e];exact h.cnt,h.len,by rw [e];exact h.done,?_⟩
 have hr:=congrArg (List.drop 1) h.rest
 rw [List.drop_take,List.drop_drop] at hr
 have hd:l.drop j=x :: l.drop (j+1):=by
  have hj:=(List.getElem?_eq_some_iff.1 hx).1
  rw [List.drop_eq_getElem_cons hj,(List.getElem?_eq_some_iff.1 hx).2]
 rw [hd] at hr
 rw [show j+1=j+1 by omega,show (l.length-(j+1))*1=(l.length-j)*1-1 by omega]
 exact hr
theorem HalfPt.keep {l:List Nat} {p:Nat→Bool} {cap i j:Nat} {cur:List Value} (h:HalfPt l p cap i j cur) (hc:l.length≤cap) {x:Nat} (hx:l[j]?=some x) (hp:p x=false):HalfPt l p cap (i+1) (j+1) (cur.set i (.pointer (some ⟨x,0,none⟩))):=by
 have hj:=(List.getElem?_eq_some_iff.1 hx).1
 have hij:=h.le
 have e:((l.take (j+1)).filter fun x=>!p x)=((l.take j).filter fun x=>!p x)++[x]:=by
  rw [take_next_TrDelE hx,List.filter_append];simp [hp]
 have hd:l.drop j=x :: l.drop (j+1):=by
  rw [List.drop_eq_getElem_cons hj,(List.getElem?_eq_some_iff.1 hx).2]
 refine ⟨by rw [e,List.length_append,h.cnt];rfl,by simp [h.len],?_,?_⟩
 ·rw [e,ptrCells_append,← h.done]
  have hlt:i<(cur.set i (.pointer (some ⟨x,0,none⟩))).length:=by simp [h.len];omega
  rw [List.take_succ_eq_append_getElem hlt,List.take_set_of_le (Nat.le_refl _)]
  simp [List.getElem_set,ptrCells]
 ·have hr:=congrArg (List.drop 1) h.rest
  rw [List.drop_take,List.drop_drop,hd] at hr
  rw [show (l.length-(j+1))*1=(l.length-j)*1-1 by omega]
  have e2:(cur.set i (.pointer (some ⟨x,0,none⟩))).drop (j+1)=cur.drop (j+1):=by
   rw [List.drop_set_of_lt (by omega)]
  rw [e2,show j+1=j+1 by omega]
  exact hr
theorem HalfPt.cell {l:List Nat} {p:Nat→Bool} {cap i j:Nat} {cur:List Value} (h:HalfPt l p cap i j cur) {x:Nat} (hx:l[j]?=some x):cur[j]?=some (.pointer (some ⟨x,0,none⟩)):=by
 have hj:=(List.getElem?_eq_some_iff.1 hx).1
 have hd:l.drop j=x :: l.drop (j+1):=by
  rw [List.drop_eq_getElem_cons hj,(List.getElem?_eq_some_iff.1 hx).2]
 have key:∀ m,m<1→cur[j+m]?=(ptrCells (x :: l.drop (j+1)))[m]?:=fun m hm=>by
  rw [← hd,← h.rest,List.getElem?_take_of_lt (by omega),List.getElem?_drop]
 exact key 0 (by omega)
def DelPt (v:Value) (l:List Nat) (p:Nat→Bool) (w:World) (e:Ending) (w':World):Prop :=
 ∃ v',e=.returned v'∧w'.ownsRow 0 76 1 v' (l.filter fun x=>!p x).length (ptrCells (l.filter fun x=>!p x))∧w.grownBy w' v.ownBlock∧(v'.ownBlock=v.ownBlock)
theorem zeroPt (w:World):(zeroValue 76).run Tryz.prog w=.ok (.pointer none) w:=by kernel_rfl
set_option maxRecDepth 100000 in
theorem deletePt_any (w:World) (v:Value) (l:List Nat) (f:FuncId) (cb:Array Value) (p:Nat→Bool) (hent:∀ (args:Array Value) (w:World),(callFunc f args).run Tryz.prog w=.ok (.enter f args) w)
    (hown:w.ownsRow 0 76 1 v l.length (ptrCells l)) (hl:l.length≤1000000000) (hp:ToldPt v w f cb p l) :
    Calls Tryz.prog 113 #[v,.func (.func f) #[] cb] w (DelPt v l p w):=by
 have HI:=Lib.hid (indexPt_any w v l f cb p hent hown hl hp)
 rcases idxPt_split p l 0 with ⟨h1,h2⟩|⟨m,x0,hm,h1,h3,h4,h5⟩
 ·rw [h1] at HI
  have HOWN:=Lib.hid hown
  have HF:Hid ((l.filter fun x=>!p x)=l):=by
   show _=_
   rw [List.filter_eq_self]
   intro x hx
   rw [h2 x hx];rfl
  clear hown hp h1 h2
  go_enter Tryz.func113,Tryz.ntmps113
  go_wp2_with fail
  refine HI.out.mono ?_
  rintro e w1 ⟨rfl,hb⟩
  have HB:=Lib.hid hb
  clear hb
  go_wp2_with fail
  go_ret
  refine ⟨_,rfl,by rw [HF.out];exact own_keep HOWN.out fun b hb=>HB.out.block b (oB HOWN.out hb).2.1,below_grown_TrDelE HB.out _,rfl⟩
 ·rw [h1,Nat.zero_add] at HI
  rcases hown.2 with ⟨_,h0⟩|⟨g,cap,cur0,rfl,hB,hg,hnc,hcm,hsz,htk⟩
  ·omega
  have hblk:Blk w g 76 cur0.toList:=by simpa [Blk] using hg
  have hlen0:cur0.toList.length=cap*1:=by simpa using hsz
  have hhalf:HalfPt l p cap m (m+1) cur0.toList:=by
   have e:((l.take (m+1)).filter fun x=>!p x)=l.take m:=by
    rw [take_next_TrDelE h3,List.filter_append]
    simp only [List.filter_cons,h4,Bool.not_true,Bool.false_eq_true,if_false,List.filter_nil,List.append_nil]
    rw [List.filter_eq_self]
    intro x hx
    rw [h5 x hx];rfl
   refine ⟨by rw [e,List.length_take];omega,hlen0,?_,?_⟩
   ·rw [e,ptrCells_take,← htk,List.take_take,Nat.min_eq_left (by omega)]
   ·rw [ptrCells_drop,← htk,List.drop_take]
    congr 1;omega
  have HP:=Lib.hid hp
  have HH0:=Lib.hid hhalf
  have HBL:=Lib.hid hblk
  have HCAP:Hid (l.length≤cap∧cap≤maxLen):=⟨hnc,hcm⟩
  have hc63:cap≤9223372036854775807:=by unfold maxLen at hcm;omega
  have hcl:=hnc
  have q1:∀ w' (i:Nat),i≤l.length→(Instr.sliceAt 78 (.slice (some ⟨g,0,none⟩) l.length cap) (some (.int .i64 (i:Int))) none none).run Tryz.prog w'=.ok (.slice (cutPt (some ⟨g,0,none⟩) i cap) (l.length-i) (cap-i)) w':=fun w' i hi=>slPt_l w' (some ⟨g,0,none⟩) l.length cap i hi
  have q2:∀ w' (i:Nat),i≤cap→(Instr.sliceAt 78 (.slice (some ⟨g,0,none⟩) l.length cap) none (some (.int .i64 (i:Int))) none).run Tryz.prog w'=.ok (.slice (some ⟨g,0,none⟩) i cap) w':=fun w' i hi=>slPt_h w' (some ⟨g,0,none⟩) l.length cap i hi
  have Q1:=Lib.hid q1
  have Q2:=Lib.hid q2
  clear q1 q2 hown hp h1 h3 h4 h5 hg hnc hcm hsz htk hblk hlen0 hhalf hB
  go_enter Tryz.func113,Tryz.ntmps113
  go_wp2_with fail
  refine HI.out.mono ?_
  rintro e w1 ⟨rfl,hb⟩
  have HB1:Hid (w.grownBy w1 (some g)):=below_grown_TrDelE hb _
  have HBL1:Hid (Blk w1 g 76 cur0.toList):=HBL.out.below hb HBL.out.lt
  clear hb HBL
  have wm:IntKind.i64.wrap ((m:Int)+1)=(m:Int)+1:=by rw [IntKind.wrap_i64];omega
  have hmm:((m:Int)==-1)=false:=by rw [beq_eq_false_iff_ne];omega
  go_wp2_with fail
  go_loopw [5,6,7] (fun t5 t6 t7 wr=>∃ (i j:Nat) (v7:Value) (cur:List Value),t5=.int .i64 i∧t6=.int .i64 j∧t7=v7∧j≤l.length∧i<j∧Hid (HalfPt l p cap i j cur)∧Hid (Blk wr g 76 cur)∧Hid (w.grownBy wr (some g))) (fun _ t6 _ _=>l.length-(match t6 with|.int _ k=>k.toNat|_=>0))
  case atStart=>exact ⟨m,m+1,_,_,rfl,by simp,rfl,by omega,by omega,HH0.out,HBL1.out,HB1.out⟩
  case round =>
   obtain ⟨i,j,v7,cur,rfl,rfl,rfl,hj,hij,HH,HBL,HB⟩:=hrel
   by_cases hk:j<l.length
   ·obtain ⟨x,hx⟩:∃ x,l[j]?=some x:=⟨_,List.getElem?_eq_getElem hk⟩
    have hlt:(j:Int)<(l.length:Int):=by omega
    have c0:wr.cell? ⟨g,j,none⟩=some (.pointer (some ⟨x,0,none⟩)):=(HBL.out.cell _).trans (HH.out.cell hx)
    have wj:IntKind.i64.wrap ((j:Int)+1)=(j:Int)+1:=by rw [IntKind.wrap_i64];omega
    have wi:IntKind.i64.wrap ((i:Int)+1)=(i:Int)+1:=by rw [IntKind.wrap_i64];omega
    have HX:=Lib.hid hx
    have HC:=HP.out wr HB.out x (List.mem_of_getElem? hx)
    have HCC:=Lib.hid HC
    clear HC
    clear hx
    go_wp2_with fail
    refine HCC.out.mono ?_
    rintro e w2 ⟨rfl,hb⟩
    have HB2:Hid (w.grownBy w2 (some g)):=grown_below_TrDelE HB.out hb
    have HBL2:Hid (Blk w2 g 76 cur):=HBL.out.below hb HBL.out.lt
    clear hb
    cases hpx:p x
    ·have HHN:=Lib.hid (HH.out.keep HCAP.out.1 HX.out hpx)
     obtain ⟨y0,s0⟩:∃ y,w2.cell? ⟨g,i,none⟩=some y:=⟨_,by rw [HBL2.out.cell,List.getElem?_eq_getElem (by rw [HH.out.len];have:=HCAP.out.1;omega)]⟩
     have f0:w2.frozen? ⟨g,i,none⟩=false:=HBL2.out.frozen _
     go_wp2_with fail
     go_roundw
     case rel=>exact ⟨i+1,j+1,_,_,by go_num,by go_num,rfl,by omega,by omega,HHN.out,HBL2.out.set_ _ _,Keeps.setCell (g:=g) HB2.out _ _⟩
     case measure=>simp;omega
    ·have HHN:=Lib.hid (HH.out.out HX.out hpx)
     go_wp2_with fail
     go_roundw
     case rel=>exact ⟨i,j+1,_,_,rfl,by go_num,rfl,by omega,by omega,HHN.out,HBL2.out,HB2.out⟩
     case measure=>simp;omega
   ·obtain rfl:j=l.length:=by omega
    have hlt:¬ ((l.length:Int)<(l.length:Int)):=by omega
    have hi1:i≤l.length:=by omega
    obtain ⟨w3,cs,hcl3,hb3,hk3,hl3⟩:=run_clear_k (P:=Tryz.prog) wr 78 76 0 (.pointer none) underePt (zeroPt wr) g (i) (l.length-i) (cap-i) cur 76 HBL.out (by rw [HH.out.len];simp [Value.cells];omega) (by intro v hv;simp [Value.cells] at hv;first|(rcases hv with rfl|rfl <;> rfl)|(rw [hv];rfl))
    have q1:(Instr.sliceAt 78 (.slice (some ⟨g,0,none⟩) l.length cap) (some (.int .i64 (i:Int))) none none).run Tryz.prog wr=.ok (.slice (some ⟨g,i,none⟩) (l.length-i) (cap-i)) wr:=by rw [Q1.out wr i hi1,cutPt_at g i cap (by omega)]
    have q2:∀ w',(Instr.sliceAt 78 (.slice (some ⟨g,0,none⟩) l.length cap) none (some (.int .i64 (i:Int))) none).run Tryz.prog w'=.ok (.slice (some ⟨g,0,none⟩) i cap) w':=fun w'=>Q2.out w' i (by omega)
    have HB3:=Lib.hid hb3
    have HK3:=Lib.hid hk3
    have HL3:=Lib.hid hl3
    clear hb3 hk3 hl3
    go_wp2_with fail
    go_ret
    have hf:(l.filter fun x=>!p x).length=i:=by rw [← HH.out.cnt,List.take_length]
    have hdone:=HH.out.done
    rw [List.take_length] at hdone
    refine ⟨_,rfl,?_,?_,rfl⟩
    ·rw [hf]
     refine ⟨?_,.inr ⟨g,cap,(splice cur (i) cs).toArray,rfl,Nat.zero_le _,HB3.out,by have:=HCAP.out.1;omega,HCAP.out.2,?_,?_⟩⟩
     ·rw [← hdone,List.length_take,HH.out.len];have:=HCAP.out.1;omega
     ·have hlz:cs.length=(l.length-i)*1:=by rw [HL3.out];rfl
      rw [List.size_toArray,splice_length _ _ _ (by rw [hlz,HH.out.len];have:=HCAP.out.1;omega),HH.out.len]
     ·rw [← hdone]
      have hle:i≤cur.length:=by rw [HH.out.len];have:=HCAP.out.1;omega
      have h9:=splice_take cur (i) cs hle
      simpa using h9
    ·exact Keeps.trans HB.out HK3.out
end Tm
end Go.Proofs.YtjoedamiilgajaaGreat
namespace Go.Proofs.YtjoedamiilgajaaGreat
open Go.RowKit Rc
open Tr (Nm En T)
namespace Tm
variable {p:Nat} {av:Value} {gs:List Nat} {S:Nat→Prop} {t:T} {w:World}
def TTurn (p:Nat) (t':T) (x:Value) (S:Nat→Prop) (w:World) (e:Ending) (w':World):Prop :=
 e=.returned x∧∃ S',TAt (.pointer (some ⟨p,0,none⟩)) t' S' w'∧Mod w w' S∧∀ b,S' b→S b∨w.heap.size≤b
theorem TTurn.stay (h:TIn p av gs S t w) {x:Value} {w':World} (hb:Below w.heap.size w w'):TTurn p t x (TrS p av S) w (.returned x) w' :=
 ⟨rfl,TrS p av S,(h.below hb).at_,Mod.of_below hb _,fun _ h=>.inl h⟩
theorem TIn.turnAt (h:TIn p av gs S t w) (hr:Tr.Ris t) {i:Int} {e:En} (hf:Tr.find t i=some e):∃ g S1,ptrOf gs t i=.pointer (some ⟨g,0,none⟩)∧EAt g e S1 w∧(∀ b,S1 b→S b) ∧
    (∀ w' (f:En→En) S1',EAt g (f e) S1' w'→Mod w w' S1→(∀ b,S1' b→S1 b∨w.heap.size≤b)→∃ S',TIn p av gs S' (Tr.upd t i f) w'∧Mod w w' (TrS p av S)∧∀ b,TrS p av S' b→TrS p av S b∨w.heap.size≤b):=by
 obtain ⟨A,B,rfl,he,hA,hB⟩:=hr.split hf
 obtain ⟨ga,g,gb,S1,hgs,hl,h1,h2,h3⟩:=h.turn
 refine ⟨g,S1,by rw [hgs];exact ptrOf_mid hl (fun a ha=>by have:=hA a ha;omega) he,h1,h2,fun w' f S1' k1 k2 k3=>?_⟩
 rw [Tr.upd_split he hA hB]
 exact h3 w' (f e) S1' k1 k2 k3
theorem EIn.poke {g:Nat} {dv nv:Value} {e e':En} {i:Nat} {u:Value} (h:EIn g dv nv e w) (hc:(enCells e dv nv).set i u=enCells e' dv nv) (hd:e'.data=e.data) (hn:e'.names=e.names):EAt g e' (EnS g dv nv) (w.setCell ⟨g,i,none⟩ u)∧Mod w (w.setCell ⟨g,i,none⟩ u) (EnS g dv nv):=by
 have hdg:∀ b,dv.ownBlock=some b→b≠g:=fun b hb2=>by
  obtain ⟨_,_,cs,h1⟩:=oB h.data hb2
  exact h1.ne_ h.box (by decide)
 have hng:∀ b,nv.ownBlock=some b→b≠g:=fun b hb2=>by
  obtain ⟨_,_,cs,h1⟩:=oB h.names hb2
  exact h1.ne_ h.box (by decide)
 refine ⟨⟨dv,nv,⟨by rw [← hc];exact h.box.set_ i u,?_,?_⟩,rfl⟩,⟨rfl,rfl,rfl,by simp [World.setCell],fun k _ hk=>Below.heap_setCell _ _ _ _ (fun e2=>hk (.inl e2))⟩⟩
 ·rw [hd];exact own_keep h.data fun b hb=>Below.heap_setCell _ _ _ _ (hdg b hb)
 ·rw [hn];exact own_keep h.names fun b hb=>Below.heap_setCell _ _ _ _ (hng b hb)
set_option maxRecDepth 100000 in
theorem new_any (w:World):Calls Tryz.prog 7 #[] w fun e w'=>∃ p av gs S,e=.returned (.pointer (some ⟨p,0,none⟩))∧TIn p av gs S Tr.new w'∧Below w.heap.size w w'∧∀ b,TrS p av S b→w.heap.size≤b:=by
 have HF:=Lib.hid (fresh_any w 0 2)
 go_enter Tryz.func7,Tryz.ntmps7
 go_wp2_with fail
 refine HF.out.mono ?_
 rintro e w1 ⟨g,rfl,hE,rfl,hb⟩
 have HE:=Lib.hid hE
 have HB:=Lib.hid hb
 clear hE hb
 go_wp2_with fail
 go_ret
 have hb2:Below w1.heap.size w1 (w1.alloc (.cells #[.pointer (some ⟨w.heap.size,0,none⟩)] 76)):=bN _ _
 have hrow:Blk (w1.alloc (.cells #[.pointer (some ⟨w.heap.size,0,none⟩)] 76)) w1.heap.size 76 [.pointer (some ⟨w.heap.size,0,none⟩)]:=Blk.new w1 _ _
 obtain ⟨w2,hw2⟩:∃ w2,w2=w1.alloc (.cells #[.pointer (some ⟨w.heap.size,0,none⟩)] 76):=⟨_,rfl⟩
 have hsz:w2.heap.size=w1.heap.size+1:=by rw [hw2,World.size_alloc]
 have hE2:=HE.out.keep (fun b hb=>hb2.block b (HE.out.kind hb).1)
 rw [← hw2] at hb2 hrow hE2 ⊢
 have hb3:Below w2.heap.size w2 (w2.alloc (.cells #[.slice (some ⟨w1.heap.size,0,none⟩) 1 1] 80)):=bN _ _
 refine ⟨w2.heap.size,.slice (some ⟨w1.heap.size,0,none⟩) 1 1,[w.heap.size],EnS w.heap.size (.slice none 0 0) (.slice none 0 0),?_,⟨Blk.new w2 _ _,⟨rfl,.inr ⟨w1.heap.size,1,#[.pointer (some ⟨w.heap.size,0,none⟩)],rfl,Nat.zero_le _,?_,Nat.le_refl _,by unfold maxLen;omega,rfl,rfl⟩⟩,?_⟩,?_,?_⟩
 ·rw [hsz];rfl
 ·exact hrow.below hb3 hrow.lt
 ·exact ⟨_,fun _=>False,(hE2.keep fun b hb=>hb3.block b (hE2.kind hb).1).at_,fun _ h=>h,fun b hb h=>h,fun b=>⟨.inl,fun h=>h.elim id False.elim⟩⟩
 ·exact HB.out.trans ((hb2.mono HB.out.size).trans (hb3.mono (by have:=HB.out.size;omega)))
 ·have:=HB.out.size
  rintro b (rfl|hb|rfl|hb|hb)
  ·omega
  ·simp [Value.ownBlock] at hb;omega
  ·omega
  ·simp [Value.ownBlock] at hb
  ·simp [Value.ownBlock] at hb
/-! Taken out. -/
theorem EsAt.in_:∀ {gs:List Nat} {t:T} {S:Nat→Prop} {w:World},EsAt gs t S w→∀ {g:Nat},g ∈ gs→S g∧∃ e ∈ t,∃ S1,EAt g e S1 w∧∀ b,S1 b→S b
 | [],[],_,_,_,_,h=>by cases h
 | g :: gs,e :: t,_,_,⟨S1,S2,h1,h2,h3,h4⟩,g',h=>by
   rcases List.mem_cons.1 h with rfl|h
   ·exact ⟨(h4 _).2 (.inl h1.self),e,.head _,S1,h1,fun b hb=>(h4 b).2 (.inl hb)⟩
   ·obtain ⟨k1,e',k2,S',k3,k4⟩:=EsAt.in_ h2 h
    exact ⟨(h4 _).2 (.inr k1),e',.tail _ k2,S',k3,fun b hb=>(h4 b).2 (.inr (k4 b hb))⟩
 | [],_ :: _,_,_,h,_,_=>h.elim
 | _ :: _,[],_,_,h,_,_=>h.elim
set_option maxRecDepth 100000 in
theorem remove1_any (W:World) (b g:Nat) (i k:Int) (hc:W.cell? ⟨b,0,none⟩=some (.int .i64 i)) (hg:W.cell? ⟨g,0,none⟩=some (.int .i64 k)) :
    Calls Tryz.prog 114 #[.pointer (some ⟨g,0,none⟩),.pointer (some ⟨b,0,none⟩)] W fun e w'=>e=.returned (.bool (k==i))∧Below W.heap.size W w':=by
 obtain ⟨q,hq⟩:∃ q,q=(k==i):=⟨_,rfl⟩
 have hb:(k==i)=q:=hq.symm
 rw [← hq]
 clear hq
 go_enter Tryz.func114,Tryz.ntmps114
 go_wp2_with fail
 go_quiet (fail)
 go_wp2_with fail
 go_ret
 exact ⟨rfl,⟨rfl,rfl,rfl,Nat.le_refl _,fun _ _=>rfl⟩⟩
set_option maxRecDepth 100000 in
theorem remove_any (h:TIn p av gs S t w) (hr:Tr.Ris t) (hlt:t.length≤1000000) {i:Int} {e:En} (hf:Tr.find t i=some e) :
    Calls Tryz.prog 59 #[.pointer (some ⟨p,0,none⟩),.int .i64 i] w (TTurn p (Tr.remove t i) (.tuple #[]) (TrS p av S) w):=by
 obtain ⟨wb,hwb⟩:∃ wb,wb=w.alloc (.cells #[.int .i64 i] 3):=⟨_,rfl⟩
 have hbw:Below w.heap.size w wb:=by rw [hwb];exact bN w _
 have hIb:=h.below hbw
 have hblk:Blk wb w.heap.size 3 [.int .i64 i]:=by rw [hwb];exact Blk.new w _ _
 have c0:wb.cell? ⟨p,0,none⟩=some av:=hIb.box.cell 0
 have hnf:av.ownBlock≠some w.heap.size:=fun e2=>by have:=(oB h.row e2).2.1;omega
 have hap:=hIb.apart
 have hent:∀ (args:Array Value) (w:World),(callFunc 114 args).run Tryz.prog w=.ok (.enter 114 args) w:=enters_of Tryz.func114 (by kernel_rfl) rfl
 obtain ⟨A,B,rfl,he,hA,hB⟩:=hr.split hf
 have hsp:=hIb.each.split
 obtain ⟨ga,gb',SA,SB,hgs,k1,k2,k3,k4⟩:=hsp
 cases gb' with
 | nil=>exact k2.elim
 | cons g gb =>
 obtain ⟨S1,S2,m1,m2,m3,m4⟩:=k2
 have hgl:=hIb.each.len
 have hdel:=deletePt_any wb av gs 114 #[.pointer (some ⟨w.heap.size,0,none⟩)] (fun x=>x==g) hent hIb.row (by omega) (fun W hW x hx=>by
  have hcb:W.cell? ⟨w.heap.size,0,none⟩=some (.int .i64 i):=by
   have h1:=hW.block w.heap.size hblk.lt (fun e2=>hnf e2.symm)
   have h2:Blk W w.heap.size 3 [.int .i64 i]:=h1.trans hblk
   exact h2.cell 0
  have hkeep:∀ {x:Nat} {e':En} {S':Nat→Prop},EAt x e' S' wb→(∀ b,S' b→S b)→W.cell? ⟨x,0,none⟩=some (.int .i64 e'.nd.id):=fun {x e' S'} hE hS=>by
   refine (hE.keep (w':=W) fun b hb=>hW.block b (hE.kind hb).1 fun e2=>?_).cells.1
   exact (hap.2 b e2.symm).1 (hS b hb)
  by_cases hxg:x=g
  ·subst hxg
   have h1:=remove1_any W w.heap.size x i e.nd.id hcb (hkeep m1 fun b hb=>(k4 b).2 (.inr ((m4 b).2 (.inl hb))))
   rw [show (e.nd.id==i)=true by simpa using he] at h1
   simpa using h1
  ·have hin:∃ e',e'.nd.id≠i∧∃ S',EAt x e' S' wb∧∀ b,S' b→S b:=by
    rw [hgs,List.mem_append,List.mem_cons] at hx
    rcases hx with hx|hx|hx
    ·obtain ⟨_,e',h2,S',h3,h4⟩:=k1.in_ hx
     exact ⟨e',by have:=hA e' h2;omega,S',h3,fun b hb=>(k4 b).2 (.inl (h4 b hb))⟩
    ·exact absurd hx hxg
    ·obtain ⟨_,e',h2,S',h3,h4⟩:=m2.in_ hx
     exact ⟨e',by have:=hB e' h2;omega,S',h3,fun b hb=>(k4 b).2 (.inr ((m4 b).2 (.inr (h4 b hb))))⟩
   obtain ⟨e',h1,S',h2,h3⟩:=hin
   have h4:=remove1_any W w.heap.size x i e'.nd.id hcb (hkeep h2 h3)
   rw [show (e'.nd.id==i)=false by simpa using h1] at h4
   show Calls _ _ _ W fun e w'=>e=.returned (.bool (x==g))∧_
   rw [show (x==g)=false by simpa using hxg]
   exact h4)
 have hfil:(gs.filter fun x=>!(x==g))=ga++gb:=by
  rw [hgs,List.filter_append,List.filter_cons,if_neg (by simp)]
  have hga:∀ x ∈ ga,x≠g:=fun x hx e2=>by
   have h1:=(k1.in_ hx).1
   rw [e2] at h1
   exact k3 g h1 ((m4 g).2 (.inl m1.self))
  have hgb:∀ x ∈ gb,x≠g:=fun x hx e2=>by
   have h1:=(m2.in_ hx).1
   rw [e2] at h1
   exact m3 g m1.self h1
  rw [List.filter_eq_self.2 (fun x hx=>by simpa using hga x hx),List.filter_eq_self.2 (fun x hx=>by simpa using hgb x hx)]
 have HEND:Hid (∀ av' w2,w2.ownsRow 0 76 1 av' (ga++gb).length (ptrCells (ga++gb))→wb.grownBy w2 av.ownBlock→av'.ownBlock=av.ownBlock→∃ S',TAt (.pointer (some ⟨p,0,none⟩)) (Tr.remove (A++e :: B) i) S' (w2.setCell ⟨p,0,none⟩ av')∧Mod w (w2.setCell ⟨p,0,none⟩ av') (TrS p av S)∧∀ b,S' b→TrS p av S b∨w.heap.size≤b):=fun av' w2 ho hg hb=>by
  have hpn:some p≠av.ownBlock:=fun e2=>(hap.2 p e2.symm).2 rfl
  have hbox:Blk w2 p 80 [av]:=(hg.block p hIb.box.lt hpn).trans hIb.box
  have hSp:∀ b,(SA b∨S2 b)→S b:=fun b hb2=>hb2.elim (fun h2=>(k4 b).2 (.inl h2)) fun h2=>(k4 b).2 (.inr ((m4 b).2 (.inr h2)))
  have hes:EsAt (ga++gb) (A++B) (fun b=>SA b∨S2 b) (w2.setCell ⟨p,0,none⟩ av'):=(k1.app m2 fun b h1 h2=>k3 b h1 ((m4 b).2 (.inr h2))).keep fun b hb2=>by
   have hS:=hSp b hb2
   rw [Below.heap_setCell _ _ _ _ (show b≠p from fun e2=>hap.1 (e2 ▸ hS))]
   exact hg.block b (hIb.each.kind hS).1 fun e2=>(hap.2 b e2.symm).1 hS
  have hn:∀ b,av'.ownBlock=some b→b≠p:=fun b hb2=>(hap.2 b (hb ▸ hb2)).2
  refine ⟨TrS p av' (fun b=>SA b∨S2 b),⟨p,av',ga++gb,_,rfl,⟨hbox.set_ 0 av',own_keep ho fun b hb2=>Below.heap_setCell _ _ _ _ (hn b hb2),?_⟩,rfl⟩,⟨hg.os.trans hbw.os,hg.tape.trans hbw.tape,hg.output.trans hbw.output,by have h1:=hg.size;have h2:=hbw.size;simp only [World.setCell,Array.size_modify];omega,fun k hk hn2=>?_⟩,?_⟩
  ·rw [Tr.remove_split he hA hB];exact hes
  ·rw [Below.heap_setCell _ _ _ _ (fun e2=>hn2 (.inl e2))]
   exact (hg.block k (Nat.lt_of_lt_of_le hk hbw.size) fun e2=>hn2 (.inr (.inl e2.symm))).trans (hbw.block k hk)
  ·rintro b (rfl|hb2|hb2)
   ·exact .inl (.inl rfl)
   ·exact .inl (.inr (.inl (hb ▸ hb2)))
   ·exact .inl (.inr (.inr (hSp b hb2)))
 rw [show DelPt av gs (fun x=>x==g) wb=fun e w'=>∃ v',e=.returned v'∧w'.ownsRow 0 76 1 v' (ga++gb).length (ptrCells (ga++gb))∧wb.grownBy w' av.ownBlock∧v'.ownBlock=av.ownBlock by unfold DelPt;rw [hfil]] at hdel
 have HFR:Hid (∀ w2,wb.grownBy w2 av.ownBlock→w2.cell? ⟨p,0,none⟩=some av∧w2.frozen? ⟨p,0,none⟩=false):=fun w2 hg=>by
  have h2:Blk w2 p 80 [av]:=(hg.block p hIb.box.lt (fun e2=>(hap.2 p e2.symm).2 rfl)).trans hIb.box
  exact ⟨h2.cell 0,h2.frozen 0⟩
 have HDEL:=Lib.hid hdel
 obtain ⟨A0,c,hav,_,_⟩:=oF h.row
 subst hav
 clear hdel hIb h hbw hblk hnf hap hent hr hf he hA hB hgs k1 k3 k4 m1 m2 m3 m4 hfil hgl hlt
 subst hwb
 go_enter Tryz.func59,Tryz.ntmps59
 go_wp2_with fail
 refine HDEL.out.mono ?_
 rintro r w2 ⟨av',rfl,ho,hg,hb⟩
 obtain ⟨A9,c9,rfl,_,_⟩:=oF ho
 have HO:=Lib.hid ho
 have HG:=Lib.hid hg
 have HB:=Lib.hid hb
 obtain ⟨hc2,hf2⟩:=HFR.out w2 hg
 clear ho hg hb
 go_wp2_with fail
 refine bodyPost_end (results_none rfl _ _ _) rfl ?_
 have hend:=HEND.out _ w2 HO.out HG.out HB.out
 simp only [List.length_append] at hend
 exact ⟨rfl,hend⟩
end Tm
end Go.Proofs.YtjoedamiilgajaaGreat
namespace Go.Proofs.YtjoedamiilgajaaGreat
open Go.RowKit
theorem results_blk_tmp {P:Program} {fn:Func} {p u:Tmp} {ty:TypeId} (h:fn.results=#[.cell p ty,.tmp u]) (tmps:Array Value) (w:World) (g:Nat) (t:TypeId) (cs:List Value) (d:TypeDesc)
    (hp:tmps.getD p undef=.pointer (some ⟨g,0,none⟩)) (hb:Blk w g t cs)
    (hu:P.underlying ty=some d) (hd:(match d with|.struct _|.array _ _=>true|_=>false)=true) (hi:(P.info? ty).map (·.size)=some cs.length) :
    (results fn tmps).run P w=.ok (.tuple #[.agg cs.toArray,tmps.getD u undef]) w:=by
 rw [results_cell_tmp h,hp]
 have hl:=run_loadVar_row (P:=P) w g t ty cs.toArray (0,0) d hb hu hd (by simpa using hi)
 simp [asAddr,hl,Result.andThen]
theorem below_set1 {w w':World} {B g:Nat} (h:Below B w w') (hg:B≤g) (i:Nat) (u:Value):Below B w (w'.setCell ⟨g,i,none⟩ u) :=
 ⟨h.os,h.tape,h.output,by simpa [World.setCell] using h.size,fun k hk=>(Below.heap_setCell w' ⟨g,i,none⟩ u k (by show k≠g;omega)).trans (h.block k hk)⟩
theorem Blk.set6 {w:World} {g:Nat} {t:TypeId} {a b c d e f:Value} (h:Blk w g t [a,b,c,d,e,f]) (x0 x1 x2 x3 x4 x5:Value) :
    Blk ((((((w.setCell ⟨g,0,none⟩ x0).setCell ⟨g,1,none⟩ x1).setCell ⟨g,2,none⟩ x2).setCell ⟨g,3,none⟩ x3).setCell ⟨g,4,none⟩ x4).setCell ⟨g,5,none⟩ x5) g t [x0,x1,x2,x3,x4,x5] :=
 (((((h.set_ 0 x0).set_ 1 x1).set_ 2 x2).set_ 3 x3).set_ 4 x4).set_ 5 x5
theorem below_set6 {w w':World} {B g:Nat} (h:Below B w w') (hg:B≤g) (x0 x1 x2 x3 x4 x5:Value) :
    Below B w ((((((w'.setCell ⟨g,0,none⟩ x0).setCell ⟨g,1,none⟩ x1).setCell ⟨g,2,none⟩ x2).setCell ⟨g,3,none⟩ x3).setCell ⟨g,4,none⟩ x4).setCell ⟨g,5,none⟩ x5) :=
 below_set1 (below_set1 (below_set1 (below_set1 (below_set1 (below_set1 h hg 0 x0) hg 1 x1) hg 2 x2) hg 3 x3) hg 4 x4) hg 5 x5
end Go.Proofs.YtjoedamiilgajaaGreat
namespace Go.Proofs.YtjoedamiilgajaaGreat
open Go.RowKit Rc
open Tr (Nm En T)
namespace Tm
variable {p:Nat} {av:Value} {gs:List Nat} {S:Nat→Prop} {t:T} {w:World}
theorem find_lt (h:TIn p av gs S t w) (hG:Tr.Good t) (W:World) (hW:Below w.heap.size w W) (i:Int):Calls Tryz.prog 89 #[.pointer (some ⟨p,0,none⟩),.int .i64 i] W fun e w'=>e=.returned (ptrOf gs t i)∧w'=W:=find_any (h.below hW) i (by have:=hG.few;omega)
def fileV (gs:List Nat) (t:T) (i:Int) (n:Nat):Value:=.tuple #[if n=0 then ptrOf gs t i else .pointer none,.int .i64 (n:Nat)]
set_option maxRecDepth 100000 in
theorem file_any (h:TIn p av gs S t w) (hG:Tr.Good t) (i:Int) :
    Calls Tryz.prog 70 #[.pointer (some ⟨p,0,none⟩),.int .i64 i] w fun e w'=>e=.returned (fileV gs t i (Tr.file t i))∧w'=w:=by
 have HF:=Lib.hid (find_lt h hG w (Below.refl _ _) i)
 rcases Tr.file_cases t i with ⟨h1,h2⟩|⟨h1,e,h2,h3⟩|⟨h1,e,h2,h3⟩
 ·rw [h1]
  rw [ptrOf_none (Tr.find_none.1 h2)] at HF
  clear h hG h1 h2
  go_enter Tryz.func70,Tryz.ntmps70
  go_wp2_with fail
  refine HF.out.mono ?_
  rintro e w1 ⟨rfl,rfl⟩
  go_wp2_with fail
  go_ret2
  exact ⟨rfl,rfl⟩
 ·obtain ⟨g,S1,hp,hE,_,_⟩:=h.ptr hG h2
  rw [h1]
  rw [hp] at HF
  have HV:Hid (fileV gs t i 0=.tuple #[.pointer (some ⟨g,0,none⟩),.int .i64 0]):=by
   show _=_
   unfold fileV
   rw [if_pos rfl,hp];rfl
  have c1:=hE.cells.2.1
  have hk:(e.nd.kind==2)=true:=by simpa using h3
  clear h hG h1 h2 h3 hE hp
  go_enter Tryz.func70,Tryz.ntmps70
  go_wp2_with fail
  refine HF.out.mono ?_
  rintro e w1 ⟨rfl,rfl⟩
  go_wp2_with fail
  go_ret2
  exact ⟨rfl,rfl⟩
 ·obtain ⟨g,S1,hp,hE,_,_⟩:=h.ptr hG h2
  rw [h1]
  rw [hp] at HF
  have HV:Hid (fileV gs t i 0=.tuple #[.pointer (some ⟨g,0,none⟩),.int .i64 0]):=by
   show _=_
   unfold fileV
   rw [if_pos rfl,hp];rfl
  have c1:=hE.cells.2.1
  have hk:(e.nd.kind==2)=false:=by simpa using h3
  clear h hG h1 h2 h3 hE hp
  go_enter Tryz.func70,Tryz.ntmps70
  go_wp2_with fail
  refine HF.out.mono ?_
  rintro e w1 ⟨rfl,rfl⟩
  go_wp2_with fail
  go_ret2
  exact ⟨by rw [HV.out];rfl,rfl⟩
set_option maxRecDepth 100000 in
theorem open_any (h:TIn p av gs S t w) (hG:Tr.Good t) (i:Int) :
    Calls Tryz.prog 68 #[.pointer (some ⟨p,0,none⟩),.int .i64 i] w fun e w'=>e=.returned (fileV gs t i (Tr.openN t i))∧w'=w:=by
 have HF:=Lib.hid (file_any h hG i)
 rcases Tr.file_cases t i with ⟨h1,h2⟩|⟨h1,e,h2,h3⟩|⟨h1,e,h2,h3⟩
 any_goals
  have HN:Hid (Tr.openN t i=Tr.file t i):=by
   show _=_
   unfold Tr.openN
   rw [if_pos (by rw [h1];simp)]
  rw [HN.out,h1]
  rw [h1] at HF
  unfold fileV at HF
  clear h hG h1
  go_enter Tryz.func68,Tryz.ntmps68
  go_wp2_with fail
  refine HF.out.mono ?_
  rintro e w1 ⟨rfl,rfl⟩
  go_wp2_with fail
  go_ret2
  exact ⟨rfl,rfl⟩
 obtain ⟨g,S1,hp,hE,_,_⟩:=h.ptr hG h2
 have HN:Hid (Tr.openN t i=if e.nd.shut=true then 27 else 0):=by
  show _=_
  unfold Tr.openN
  rw [if_neg (by rw [h1];simp),Tr.ndOf_of h2]
 have HV:Hid (fileV gs t i 0=.tuple #[.pointer (some ⟨g,0,none⟩),.int .i64 0]):=by
  show _=_
  unfold fileV
  rw [if_pos rfl,hp];rfl
 rw [h1,HV.out] at HF
 rw [HN.out]
 have c1:=hE.cells.2.2.2.2.2
 obtain ⟨b,hb⟩:∃ b,b=e.nd.shut:=⟨_,rfl⟩
 rw [← hb] at c1 ⊢
 clear h hG h1 h2 h3 hE hp hb
 cases b
 ·go_enter Tryz.func68,Tryz.ntmps68
  go_wp2_with fail
  refine HF.out.mono ?_
  rintro e w1 ⟨rfl,rfl⟩
  go_wp2_with fail
  go_ret2
  exact ⟨(congrArg Ending.returned HV.out).symm,rfl⟩
 ·go_enter Tryz.func68,Tryz.ntmps68
  go_wp2_with fail
  refine HF.out.mono ?_
  rintro e w1 ⟨rfl,rfl⟩
  go_wp2_with fail
  go_ret2
  exact ⟨rfl,rfl⟩
set_option maxRecDepth 100000 in
theorem node_any (h:TIn p av gs S t w) (hG:Tr.Good t) (i:Int) :
    Calls Tryz.prog 83 #[.pointer (some ⟨p,0,none⟩),.int .i64 i] w fun e w'=>e=.returned (.tuple #[(Tr.node t i).1.val,.bool (Tr.node t i).2])∧Below w.heap.size w w':=by
 have hb0:=bN w (.cells #[.int .i64 0,.int .i64 0,.int .i64 0,.int .i64 0,.int .u64 0,.bool false] 59)
 have HB0:=Lib.hid hb0
 have HF:=Lib.hid (find_lt h hG _ hb0 i)
 cases hf:Tr.find t i with
 | none =>
   rw [ptrOf_none (Tr.find_none.1 hf)] at HF
   have HN:Hid (Tr.node t i=(Nd.zero,false)):=by
    show _=_
    unfold Tr.node Tr.ndOf
    rw [hf];rfl
   clear h hG hf hb0
   go_enter Tryz.func83,Tryz.ntmps83
   go_wp2_with fail
   refine HF.out.mono ?_
   rintro e w1 ⟨rfl,rfl⟩
   go_wp2_with fail
   refine bodyPost_ret (results_blk_tmp rfl _ _ w.heap.size 59 [.int .i64 0,.int .i64 0,.int .i64 0,.int .i64 0,.int .u64 0,.bool false] _ rfl (Blk.new w _ _) rfl rfl rfl) rfl ⟨?_,?_⟩
   ·rw [HN.out];rfl
   ·exact bN w _
 | some en =>
   obtain ⟨g,S1,hp,hE,_,_⟩:=(h.below hb0).ptr hG hf
   rw [hp] at HF
   have HN:Hid (Tr.node t i=(en.nd,true)):=by
    show _=_
    unfold Tr.node
    rw [Tr.ndOf_of hf,hf];rfl
   obtain ⟨c0,c1,c2,c3,c4,c5⟩:=hE.cells
   clear h hG hf hb0 hE hp
   obtain ⟨⟨id,kind,links,size,till,shut⟩,data,names⟩:=en
   simp only at c0 c1 c2 c3 c4 c5 HN
   go_enter Tryz.func83,Tryz.ntmps83
   go_wp2_with fail
   refine HF.out.mono ?_
   rintro e w1 ⟨rfl,rfl⟩
   go_wp2_with fail
   refine bodyPost_ret (results_blk_tmp rfl _ _ w.heap.size 59 [.int .i64 id,.int .i64 kind,.int .i64 links,.int .i64 size,.int .u64 (till:Nat),.bool shut] _ rfl (Blk.new w _ _) rfl rfl rfl) rfl ⟨?_,?_⟩
   ·rw [HN.out];rfl
   ·exact bN w _
end Tm
end Go.Proofs.YtjoedamiilgajaaGreat
namespace Go.Proofs.YtjoedamiilgajaaGreat
open Go.RowKit Rc
open Tr (Nm En T)
namespace Rf
variable {p:Nat} {nv dv ev:Value} {D:Nat→Prop} {t:T} {w:World}
def idxE (l:List (Int × Nm)) (d:Int) (x:Bs):Int:=match l.findIdx? (fun y=>y.1==d&&y.2.1==x) with|some k=>(k:Int)|none=>-1
theorem idxE_at {l:List (Int × Nm)} {d:Int} {x:Bs} {j:Nat} {y:Int × Nm} (h:l[j]?=some y) (h1:y.1=d) (h2:y.2.1=x) (hn:∀ e ∈ l.take j,¬ (e.1=d∧e.2.1=x)):idxE l d x=(j:Int):=by
 have:l.findIdx? (fun y=>y.1==d&&y.2.1==x)=some j:=by
  obtain ⟨hlt,hje⟩:=List.getElem?_eq_some_iff.1 h
  rw [List.findIdx?_eq_some_iff_getElem]
  refine ⟨hlt,by rw [hje];simp [h1,h2],fun k hk=>?_⟩
  have:=hn l[k] (by rw [List.mem_take_iff_getElem];exact ⟨k,by omega,rfl⟩)
  simpa using this
 unfold idxE
 rw [this]
theorem idxE_no {l:List (Int × Nm)} {d:Int} {x:Bs} (hn:∀ e ∈ l,¬ (e.1=d∧e.2.1=x)):idxE l d x=-1:=by
 have:l.findIdx? (fun y=>y.1==d&&y.2.1==x)=none:=by
  rw [List.findIdx?_eq_none_iff]
  intro e he
  have:=hn e he
  simpa using this
 unfold idxE
 rw [this]
set_option maxRecDepth 100000 in
theorem entry_any (h:RIn p nv dv ev D t w) (d:Int) (x:Bs) (hlt:(Tr.flat t).length≤5000000) :
    Calls Tryz.prog 54 #[.pointer (some ⟨p,0,none⟩),.int .i64 d,.string (strOf x)] w fun e w'=>e=.returned (.int .i64 (idxE (Tr.flat t) d x))∧w'=w:=by
 have c0:w.cell? ⟨p,2,none⟩=some ev:=h.box.cell 2
 obtain ⟨A,c,rfl,hc,hA⟩:=Tm.oF h.ents
 have HA:=Lib.hid hA
 clear h hA
 obtain ⟨l,hl⟩:∃ l,l=Tr.flat t:=⟨_,rfl⟩
 rw [← hl] at HA c0 hc hlt ⊢
 clear hl
 go_enter Tryz.func54,Tryz.ntmps54
 go_wp2_with fail
 go_loopw [7] (fun t7 wr=>∃ j:Nat,t7=.int .i64 j∧j≤l.length∧Hid (∀ e ∈ l.take j,¬ (e.1=d∧e.2.1=x))∧wr=w) (fun t7 _=>l.length-(match t7 with|.int _ k=>k.toNat|_=>0))
 case atStart=>exact ⟨0,rfl,Nat.zero_le _,fun e he=>by simp at he,rfl⟩
 case round =>
  obtain ⟨j,rfl,hj,HN,rfl⟩:=hrel
  by_cases hk:j<l.length
  ·obtain ⟨y,hy⟩:∃ y,l[j]?=some y:=⟨_,List.getElem?_eq_getElem hk⟩
   obtain ⟨g,rfl,_,_,_,hcell⟩:=HA.out (by omega)
   have d0:wr.cell? ⟨g,j*3,none⟩=some (.int .i64 y.1):=hcell _ _ (fl_get hy 0 (by omega))
   have d1:wr.cell? ⟨g,j*3+1,none⟩=some (.string (strOf y.2.1)):=hcell _ _ (fl_get hy 1 (by omega))
   have hlt2:(j:Int)<(l.length:Int):=by omega
   have HY:=Lib.hid hy
   have HNX:Hid (¬ (y.1=d∧y.2.1=x)→∀ e ∈ l.take (j+1),¬ (e.1=d∧e.2.1=x)):=fun hno m hm=>by
    rw [List.take_succ_eq_append_getElem hk,List.mem_append] at hm
    rcases hm with hm|hm
    ·exact HN.out m hm
    ·simp only [List.mem_singleton] at hm
     rw [hm,(List.getElem?_eq_some_iff.1 HY.out).2];exact hno
   obtain ⟨y1,y2,y3⟩:=y
   simp only at d0 d1 HNX
   clear hy hcell
   by_cases h1:y1=d
   ·subst h1
    by_cases h2:y2=x
    ·subst h2
     have HX:Hid (idxE l y1 y2=(j:Int)):=idxE_at HY.out rfl rfl HN.out
     have hb:((strOf y2).toList==(strOf y2).toList)=true:=by simp
     go_wp2_with fail
     go_ret
     exact ⟨by rw [HX.out];rfl,rfl⟩
    ·have hb:((strOf y2).toList==(strOf x).toList)=false:=by rw [strOf_beq];exact decide_eq_false h2
     have HN1:=Lib.hid (HNX.out fun e=>h2 e.2)
     clear h2
     go_wp2_with fail
     go_roundw
     case rel=>exact ⟨j+1,by go_num,by omega,HN1.out,by first|rfl|trivial⟩
     case measure=>simp;omega
   ·have hib:(y1==d)=false:=by rw [beq_eq_false_iff_ne];exact h1
    have HN1:=Lib.hid (HNX.out fun e=>h1 e.1)
    clear h1
    go_wp2_with fail
    go_roundw
    case rel=>exact ⟨j+1,by go_num,by omega,HN1.out,by first|rfl|trivial⟩
    case measure=>simp;omega
  ·obtain rfl:j=l.length:=by omega
   have HX:Hid (idxE l d x=-1):=idxE_no fun e he=>HN.out e (by rw [List.take_length];exact he)
   go_wp2_with fail
   go_ret
   exact ⟨by rw [HX.out];rfl,rfl⟩
theorem idx_find (t:T) (i:Int):(Tr.find t i=none∧idx t i=-1)∨∃ e j,Tr.find t i=some e∧t[j]?=some e∧idx t i=(j:Nat)∧j<t.length:=by
 cases hf:t.findIdx? (fun e=>e.nd.id==i) with
 | none =>
   refine .inl ⟨?_,by unfold idx;rw [hf]⟩
   rw [List.findIdx?_eq_none_iff] at hf
   exact Tr.find_none.2 fun e he=>by simpa using hf e he
 | some j =>
   refine .inr ?_
   have h1:=hf
   rw [List.findIdx?_eq_some_iff_getElem] at h1
   obtain ⟨hlt,h2,h3⟩:=h1
   refine ⟨t[j],j,?_,List.getElem?_eq_getElem hlt,by unfold idx;rw [hf],hlt⟩
   unfold Tr.find
   rw [List.find?_eq_some_iff_getElem]
   exact ⟨h2,j,hlt,rfl,fun k hk=>by simpa using h3 k hk⟩
set_option maxRecDepth 100000 in
theorem file_any (h:RIn p nv dv ev D t w) (i:Int) (hlt:t.length≤1000000) :
    Calls Tryz.prog 69 #[.pointer (some ⟨p,0,none⟩),.int .i64 i] w fun e w'=>e=.returned (.tuple #[.int .i64 (if Tr.file t i=0 then idx t i else 0),.int .i64 (Tr.file t i:Nat)])∧w'=w:=by
 have HAT:=Lib.hid (at_any h i hlt)
 rcases idx_find t i with ⟨h1,h2⟩|⟨e,j,h1,h2,h3,h4⟩
 ·have HN:Hid (Tr.file t i=20):=by
   show _=_
   unfold Tr.file
   rw [h1];rfl
  rw [h2] at HAT
  rw [show Tr.file t i=20 from HN.out,if_neg (by decide)]
  clear h h1 h2
  go_enter Tryz.func69,Tryz.ntmps69
  go_wp2_with fail
  refine HAT.out.mono ?_
  rintro e w1 ⟨rfl,rfl⟩
  go_wp2_with fail
  go_ret2
  exact ⟨rfl,rfl⟩
 ·have c0:w.cell? ⟨p,0,none⟩=some nv:=h.box.cell 0
  obtain ⟨A,c,rfl,hc,hA⟩:=Tm.oF h.nodes
  obtain ⟨g,rfl,_,_,_,hcell⟩:=hA (by omega)
  have d1:w.cell? ⟨g,j*6+1,none⟩=some (.int .i64 e.nd.kind):=hcell _ _ (nd_get h2 1 (by omega))
  have hjl:(j:Int)<(t.length:Int):=by omega
  have HIX:=Lib.hid h3
  rw [h3] at HAT
  obtain ⟨ek,hek⟩:∃ ek,ek=e.nd.kind:=⟨_,rfl⟩
  rw [← hek] at d1
  by_cases hk:ek=2
  ·have HN:Hid (Tr.file t i=22):=by
    show _=_
    unfold Tr.file
    rw [h1,if_neg (by simp),Tr.kO h1,← hek,if_pos hk]
   subst hk
   rw [show Tr.file t i=22 from HN.out,if_neg (by decide)]
   clear h hA hcell h1 h2 h3 hek
   go_enter Tryz.func69,Tryz.ntmps69
   go_wp2_with fail
   refine HAT.out.mono ?_
   rintro e w1 ⟨rfl,rfl⟩
   go_wp2_with fail
   go_ret2
   exact ⟨rfl,rfl⟩
  ·have HN:Hid (Tr.file t i=0):=by
    show _=_
    unfold Tr.file
    rw [h1,if_neg (by simp),Tr.kO h1,← hek,if_neg hk]
   have hkb:(ek==2)=false:=by rw [beq_eq_false_iff_ne];exact hk
   rw [show Tr.file t i=0 from HN.out,if_pos rfl,show idx t i=_ from HIX.out]
   clear h hA hcell h1 h2 h3 hek hk
   go_enter Tryz.func69,Tryz.ntmps69
   go_wp2_with fail
   refine HAT.out.mono ?_
   rintro e w1 ⟨rfl,rfl⟩
   go_wp2_with fail
   go_ret2
   exact ⟨rfl,rfl⟩
end Rf
end Go.Proofs.YtjoedamiilgajaaGreat
namespace Go.Proofs.YtjoedamiilgajaaGreat
open Go.RowKit Rc
open Tr (Nm En T)
namespace Rf
variable {p:Nat} {nv dv ev:Value} {D:Nat→Prop} {t:T} {w:World}
theorem RS_lt (h:RIn p nv dv ev D t w) {b:Nat} (hb:RS p nv ev D b) (hD:∀ b,D b→b<w.heap.size):b<w.heap.size:=by
 rcases hb with rfl|hb|hb|hb
 ·exact h.box.lt
 ·exact (Tm.oB h.nodes hb).2.1
 ·exact (Tm.oB h.ents hb).2.1
 ·exact hD b hb
set_option maxRecDepth 100000 in
theorem node_any (h:RIn p nv dv ev D t w) (hD:∀ b,D b→b<w.heap.size) (i:Int) (hlt:t.length≤1000000) :
    Calls Tryz.prog 35 #[.pointer (some ⟨p,0,none⟩),.int .i64 i] w fun e w'=>e=.returned (.tuple #[(Tr.node t i).1.val,.bool (Tr.node t i).2])∧Below w.heap.size w w':=by
 have hb0:=bN w (.cells #[.int .i64 0,.int .i64 0,.int .i64 0,.int .i64 0,.int .u64 0,.bool false] 59)
 have HB0:=Lib.hid hb0
 have h0:=h.keep hb0.size fun b hb=>hb0.block b (RS_lt h hb hD)
 have HAT:=Lib.hid (at_any h0 i hlt)
 rcases idx_find t i with ⟨h1,h2⟩|⟨en,j,h1,h2,h3,h4⟩
 ·have HN:Hid (Tr.node t i=(Nd.zero,false)):=by
   show _=_
   unfold Tr.node Tr.ndOf
   rw [h1];rfl
  rw [h2] at HAT
  clear h h0 h1 h2 hb0
  go_enter Tryz.func35,Tryz.ntmps35
  go_wp2_with fail
  refine HAT.out.mono ?_
  rintro e w1 ⟨rfl,rfl⟩
  go_wp2_with fail
  refine bodyPost_ret (results_blk_tmp rfl _ _ w.heap.size 59 [.int .i64 0,.int .i64 0,.int .i64 0,.int .i64 0,.int .u64 0,.bool false] _ rfl (Blk.new w _ _) rfl rfl rfl) rfl ⟨?_,?_⟩
  ·rw [HN.out];rfl
  ·exact bN w _
 ·have c0:(w.alloc (.cells #[.int .i64 0,.int .i64 0,.int .i64 0,.int .i64 0,.int .u64 0,.bool false] 59)).cell? ⟨p,0,none⟩=some nv:=h0.box.cell 0
  obtain ⟨A,c,rfl,hc,hA⟩:=Tm.oF h0.nodes
  obtain ⟨g,rfl,_,_,_,hcell⟩:=hA (by omega)
  have d0:=hcell _ _ (nd_get h2 0 (by omega))
  have d1:=hcell _ _ (nd_get h2 1 (by omega))
  have d2:=hcell _ _ (nd_get h2 2 (by omega))
  have d3:=hcell _ _ (nd_get h2 3 (by omega))
  have d4:=hcell _ _ (nd_get h2 4 (by omega))
  have d5:=hcell _ _ (nd_get h2 5 (by omega))
  rw [Nat.add_zero] at d0
  have hjl:(j:Int)<(t.length:Int):=by omega
  rw [h3] at HAT
  have HN:Hid (Tr.node t i=(en.nd,true)):=by
   show _=_
   unfold Tr.node
   rw [Tr.ndOf_of h1,h1];rfl
  obtain ⟨⟨id,kind,links,size,till,shut⟩,data,names⟩:=en
  simp only at d0 d1 d2 d3 d4 d5 HN
  clear h h0 hA hcell h1 h2 h3 hb0
  go_enter Tryz.func35,Tryz.ntmps35
  go_wp2_with fail
  refine HAT.out.mono ?_
  rintro e w1 ⟨rfl,rfl⟩
  go_wp2_with fail
  refine bodyPost_ret (results_blk_tmp rfl _ _ w.heap.size 59 [.int .i64 id,.int .i64 kind,.int .i64 links,.int .i64 size,.int .u64 (till:Nat),.bool shut] _ rfl (Blk.new w _ _) rfl rfl rfl) rfl ⟨?_,?_⟩
  ·rw [HN.out];rfl
  ·exact bN w _
end Rf
end Go.Proofs.YtjoedamiilgajaaGreat
namespace Go.Proofs.YtjoedamiilgajaaGreat
open Go.RowKit
namespace Tr
variable {t:T}
def Deep (dep:Int→Nat) (t:T):Prop:=dep 0=0∧∀ e ∈ t,∀ n ∈ e.names,dep e.nd.id+1≤8∧(kindOf t n.2=2→dep n.2=dep e.nd.id+1)
structure Pre (i:Int) (t:T):Prop where
 root:∃ r rest,t=r :: rest∧r.nd.id=0∧r.nd.kind=2
 rise:Ris t
 few:t.length≤64
 each:∀ e ∈ t,EnOk e
 leads:∀ e ∈ t,∀ n ∈ e.names,n.2≠0∧(find t n.2).isSome=true
 linked:∀ e ∈ t,e.nd.id≠i→(count t e.nd.id:Int)+(if e.nd.id=0 then 1 else 0)=e.nd.links
 dirs:∀ e ∈ t,e.nd.id≠i→e.nd.kind=2→e.nd.links=1
 shut:∀ e ∈ t,e.nd.id≠i→e.nd.shut=true→e.nd.links≠0
theorem Good.pre (h:Good t) (i:Int):Pre i t:=⟨h.root,h.rise,h.few,h.each,h.leads,fun e he _=>h.linked e he,fun e he _=>h.dirs e he,fun e he _=>h.shut e he⟩
theorem Pre.good {i:Int} (h:Pre i t) {dep:Int→Nat} (hd:Deep dep t) (hi:∀ e ∈ t,e.nd.id=i→(count t e.nd.id:Int)+(if e.nd.id=0 then 1 else 0)=e.nd.links∧(e.nd.kind=2→e.nd.links=1)∧(e.nd.shut=true→e.nd.links≠0)):Good t:=by
 refine ⟨h.root,h.rise,h.few,h.each,h.leads,fun e he=>?_,fun e he=>?_,fun e he=>?_,dep,hd⟩
 ·by_cases hx:e.nd.id=i
  ·exact (hi e he hx).1
  ·exact h.linked e he hx
 ·by_cases hx:e.nd.id=i
  ·exact (hi e he hx).2.1
  ·exact h.dirs e he hx
 ·by_cases hx:e.nd.id=i
  ·exact (hi e he hx).2.2
  ·exact h.shut e he hx
/-! One node is turned. -/
theorem upd_mem {i:Int} {f:En→En} {e:En} (h:e ∈ upd t i f):∃ e0 ∈ t,e=if e0.nd.id=i then f e0 else e0:=by
 obtain ⟨e0,h0,rfl⟩:=List.mem_map.1 h
 refine ⟨e0,h0,?_⟩
 by_cases hx:e0.nd.id=i <;> simp [hx]
theorem upd_root {i:Int} {f:En→En} (hf:∀ e,(f e).nd.id=e.nd.id) (hk:∀ e,(f e).nd.kind=e.nd.kind) (h:∃ r rest,t=r :: rest∧r.nd.id=0∧r.nd.kind=2):∃ r rest,upd t i f=r :: rest∧r.nd.id=0∧r.nd.kind=2:=by
 obtain ⟨r,rest,rfl,h1,h2⟩:=h
 refine ⟨_,_,rfl,?_,?_⟩
 ·show (if r.nd.id==i then f r else r).nd.id=0
  split <;> simp [hf,h1]
 ·show (if r.nd.id==i then f r else r).nd.kind=2
  split <;> simp [hk,h2]
theorem kindOf_upd {i:Int} {f:En→En} (hf:∀ e,(f e).nd.id=e.nd.id) (hk:∀ e,(f e).nd.kind=e.nd.kind) (j:Int):kindOf (upd t i f) j=kindOf t j:=by
 unfold kindOf ndOf
 rw [find_upd hf]
 cases find t j with
 | none=>rfl
 | some e =>
   simp only [Option.map_some,Option.getD_some]
   split <;> simp [hk]
theorem some_upd {i:Int} {f:En→En} (hf:∀ e,(f e).nd.id=e.nd.id) (j:Int):(find (upd t i f) j).isSome=(find t j).isSome:=by
 rw [find_upd hf];cases find t j <;> rfl
theorem flat_upd {i:Int} {f:En→En} (hf:∀ e,(f e).nd.id=e.nd.id) (hn:∀ e,(f e).names=e.names):flat (upd t i f)=flat t:=by
 unfold flat upd
 rw [List.flatMap_map]
 congr 1
 funext e
 split <;> simp [hf,hn]
theorem Good.turn (h:Good t) {i:Int} {f:En→En} (hf:∀ e,(f e).nd.id=e.nd.id) (hk:∀ e,(f e).nd.kind=e.nd.kind) (hn:∀ e,(f e).names=e.names) (hl:∀ e,(f e).nd.links=e.nd.links)
    (hok:∀ e,find t i=some e→EnOk (f e)∧((f e).nd.shut=true→e.nd.links≠0)):Good (upd t i f):=by
 have hfind:∀ e ∈ t,e.nd.id=i→find t i=some e:=fun e he hi=>hi ▸ h.ris.find he
 obtain ⟨dep,hd0,hd⟩:=h.deep
 refine ⟨upd_root hf hk h.root,upd_ris h.ris hf,by rw [upd_length];exact h.few,fun e he=>?_,fun e he n hm=>?_,fun e he=>?_,fun e he=>?_,fun e he=>?_,dep,hd0,fun e he n hm=>?_⟩
 all_goals
  obtain ⟨e0,h0,rfl⟩:=upd_mem he
 ·split
  ·rename_i hi;exact (hok e0 (hfind e0 h0 hi)).1
  ·exact h.each e0 h0
 ·have hm0:n ∈ e0.names:=by split at hm <;> simpa [hn] using hm
  rw [some_upd hf]
  exact h.leads e0 h0 n hm0
 ·have h1:=h.linked e0 h0
  unfold count at h1 ⊢
  rw [flat_upd hf hn]
  split <;> (try simp only [hf,hl]) <;> exact h1
 ·have h1:=h.dirs e0 h0
  split <;> (try simp only [hk,hl]) <;> exact h1
 ·split
  ·rename_i hi
   rw [hl];exact (hok e0 (hfind e0 h0 hi)).2
  ·exact h.shut e0 h0
 ·have hm0:n ∈ e0.names:=by split at hm <;> simpa [hn] using hm
  have h1:=hd e0 h0 n hm0
  rw [kindOf_upd hf hk]
  split <;> (try simp only [hf]) <;> exact h1
/-! Names. -/
theorem flat_split {A B:T} {e:En}:flat (A++e :: B)=flat A++(e.names.map (fun n=>(e.nd.id,n))++flat B):=by
 unfold flat
 rw [List.flatMap_append,List.flatMap_cons]
theorem flat_put (hr:Ris t) {d:Int} {en:En} (hf:find t d=some en) (x:Bs) (k:Int):(flat (put t d x k)).Perm ((d,(x,k)) :: flat t):=by
 obtain ⟨A,B,rfl,he,hA,hB⟩:=hr.split hf
 unfold put
 rw [upd_split he hA hB,flat_split,flat_split]
 have h1:((ins en.names x k).map fun n=>(en.nd.id,n)).Perm ((d,(x,k)) :: en.names.map fun n=>(en.nd.id,n)):=by
  have:=(ins_perm en.names x k).map (fun n=>(en.nd.id,n))
  rw [List.map_cons,he] at this
  rw [he];exact this
 refine (List.Perm.append_left _ (h1.append_right _)).trans ?_
 exact List.perm_middle
theorem flat_cut (hr:Ris t) {d:Int} {en:En} (hf:find t d=some en) (hrn:Rise en.names) {x:Bs} {k:Int} (hg:get en.names x=some k):(flat t).Perm ((d,(x,k)) :: flat (cut t d x)):=by
 obtain ⟨A,B,rfl,he,hA,hB⟩:=hr.split hf
 unfold cut
 rw [upd_split he hA hB,flat_split,flat_split]
 have h1:(en.names.map fun n=>(en.nd.id,n)).Perm ((d,(x,k)) :: (del en.names x).map fun n=>(en.nd.id,n)):=by
  have:=(del_perm hrn hg).map (fun n=>(en.nd.id,n))
  rw [List.map_cons,he] at this
  rw [he];exact this
 refine (List.Perm.append_left _ (h1.append_right _)).trans ?_
 exact List.perm_middle
theorem count_put (hr:Ris t) {d:Int} {en:En} (hf:find t d=some en) (x:Bs) (k j:Int):count (put t d x k) j=count t j+if k=j then 1 else 0:=by
 unfold count
 rw [(flat_put hr hf x k).countP_eq,List.countP_cons]
 by_cases h:k=j <;> simp [h]
theorem count_cut (hr:Ris t) {d:Int} {en:En} (hf:find t d=some en) (hrn:Rise en.names) {x:Bs} {k:Int} (hg:get en.names x=some k) (j:Int):count t j=count (cut t d x) j+if k=j then 1 else 0:=by
 unfold count
 rw [(flat_cut hr hf hrn hg).countP_eq,List.countP_cons]
 by_cases h:k=j <;> simp [h]
theorem put_id (x:Bs) (k:Int):∀ e:En,({ e with names:=ins e.names x k }:En).nd.id=e.nd.id:=fun _=>rfl
theorem cut_id (x:Bs):∀ e:En,({ e with names:=del e.names x }:En).nd.id=e.nd.id:=fun _=>rfl
theorem Pre.put {k:Int} (h:Pre k t) {d:Int} {en:En} (hf:find t d=some en) (hkd:en.nd.kind=2) {x:Bs} (hx:Pa.good x=true) (hg:get en.names x=none) (hk0:k≠0) (hks:(find t k).isSome=true):Pre k (put t d x k):=by
 have hfind:∀ e ∈ t,e.nd.id=d→e=en:=fun e he hi=>by
  have:=h.rise.find he
  rw [hi,hf] at this
  injection this with this
  exact this.symm
 refine ⟨upd_root (put_id x k) (fun _=>rfl) h.root,upd_ris h.rise (put_id x k),by unfold Tr.put;rw [upd_length];exact h.few,fun e he=>?_,fun e he n hm=>?_,fun e he hne=>?_,fun e he hne=>?_,fun e he hne=>?_⟩
 all_goals
  obtain ⟨e0,h0,rfl⟩:=upd_mem he
 ·split
  ·rename_i hi
   obtain rfl:=hfind e0 h0 hi
   have h1:=h.each e0 h0
   exact ⟨h1.nd,h1.size,ins_rise h1.rise k hg,fun n hn=>by rcases ins_mem.1 hn with rfl|hn;exact hx;exact h1.good n hn,fun hk=>by
    have hk':e0.nd.kind=1:=hk
    omega⟩
  ·exact h.each e0 h0
 ·unfold Tr.put
  rw [some_upd (put_id x k)]
  split at hm
  ·rename_i hi
   rcases ins_mem.1 hm with rfl|hm
   ·exact ⟨hk0,hks⟩
   ·exact h.leads e0 h0 n hm
  ·exact h.leads e0 h0 n hm
 ·have hid:(if e0.nd.id=d then ({ e0 with names:=ins e0.names x k }:En) else e0).nd=e0.nd:=by split <;> rfl
  rw [hid] at hne ⊢
  rw [count_put h.rise hf,if_neg (fun e=>hne e.symm)]
  exact h.linked e0 h0 hne
 ·have hid:(if e0.nd.id=d then ({ e0 with names:=ins e0.names x k }:En) else e0).nd=e0.nd:=by split <;> rfl
  rw [hid] at hne ⊢
  exact h.dirs e0 h0 hne
 ·have hid:(if e0.nd.id=d then ({ e0 with names:=ins e0.names x k }:En) else e0).nd=e0.nd:=by split <;> rfl
  rw [hid] at hne ⊢
  exact h.shut e0 h0 hne
theorem Deep.put {dep:Int→Nat} (h:Deep dep t) {d:Int} {x:Bs} {k:Int} (h8:dep d+1≤8) (hk:kindOf t k=2→dep k=dep d+1):Deep dep (put t d x k):=by
 refine ⟨h.1,fun e he n hm=>?_⟩
 obtain ⟨e0,h0,rfl⟩:=upd_mem he
 unfold Tr.put
 rw [kindOf_upd (put_id x k) (fun _=>rfl)]
 split at hm
 ·rename_i hi
  rcases ins_mem.1 hm with rfl|hm
  ·rw [if_pos hi]
   show dep e0.nd.id+1≤8∧_
   rw [hi];exact ⟨h8,hk⟩
  ·rw [if_pos hi];exact h.2 e0 h0 n hm
 ·rename_i hi
  rw [if_neg hi];exact h.2 e0 h0 n hm
theorem Good.cut (h:Good t) {d:Int} {en:En} (hf:find t d=some en) {x:Bs} {k:Int} (hg:get en.names x=some k):Pre k (cut t d x):=by
 have hrn:=(h.each en (find_some hf).1).rise
 refine ⟨upd_root (cut_id x) (fun _=>rfl) h.root,upd_ris h.rise (cut_id x),by unfold Tr.cut;rw [upd_length];exact h.few,fun e he=>?_,fun e he n hm=>?_,fun e he hne=>?_,fun e he hne=>?_,fun e he hne=>?_⟩
 all_goals
  obtain ⟨e0,h0,rfl⟩:=upd_mem he
  have hid:(if e0.nd.id=d then ({ e0 with names:=del e0.names x }:En) else e0).nd=e0.nd:=by split <;> rfl
 ·split
  ·have h1:=h.each e0 h0
   exact ⟨h1.nd,h1.size,del_rise h1.rise x,fun n hn=>h1.good n ((List.mem_filter.1 hn).1),fun hk=>by
    have:=h1.file hk
    show del e0.names x=[]
    rw [this];rfl⟩
  ·exact h.each e0 h0
 ·unfold Tr.cut
  rw [some_upd (cut_id x)]
  split at hm
  ·exact h.leads e0 h0 n ((List.mem_filter.1 hm).1)
  ·exact h.leads e0 h0 n hm
 ·rw [hid] at hne ⊢
  have h1:=h.linked e0 h0
  rw [count_cut h.rise hf hrn hg,if_neg (fun e=>hne e.symm)] at h1
  exact h1
 ·rw [hid] at hne ⊢
  exact h.dirs e0 h0
 ·rw [hid] at hne ⊢
  exact h.shut e0 h0
theorem Deep.cut {dep:Int→Nat} (h:Deep dep t) (d:Int) (x:Bs):Deep dep (cut t d x):=by
 refine ⟨h.1,fun e he n hm=>?_⟩
 obtain ⟨e0,h0,rfl⟩:=upd_mem he
 unfold Tr.cut
 rw [kindOf_upd (cut_id x) (fun _=>rfl)]
 split at hm
 ·rename_i hi
  rw [if_pos hi];exact h.2 e0 h0 n ((List.mem_filter.1 hm).1)
 ·rename_i hi
  rw [if_neg hi];exact h.2 e0 h0 n hm
theorem Pre.more {k:Int} (h:Pre k t) {dep:Int→Nat} (hd:Deep dep t) {ek:En} (hf:find t k=some ek) (hk:ek.nd.kind=1) {c:Int} (hc:(count t k:Int)=ek.nd.links+c) (hk0:k≠0) (h64:ek.nd.links+c≤65535) (hsh:ek.nd.shut=true→ek.nd.links+c≠0):Good (more t k c):=by
 have hid:∀ e:En,({ e with nd:={ e.nd with links:=e.nd.links+c } }:En).nd.id=e.nd.id:=fun _=>rfl
 have hfind:∀ e ∈ t,e.nd.id=k→e=ek:=fun e he hi=>by
  have:=h.rise.find he
  rw [hi,hf] at this
  injection this with this
  exact this.symm
 have hflat:flat (Tr.more t k c)=flat t:=flat_upd hid fun _=>rfl
 have hp:Pre k (Tr.more t k c):=by
  refine ⟨upd_root hid (fun _=>rfl) h.root,upd_ris h.rise hid,by unfold Tr.more;rw [upd_length];exact h.few,fun e he=>?_,fun e he n hm=>?_,fun e he hne=>?_,fun e he hne=>?_,fun e he hne=>?_⟩
  all_goals
   obtain ⟨e0,h0,rfl⟩:=upd_mem he
  ·split
   ·rename_i hi
    obtain rfl:=hfind e0 h0 hi
    have h1:=h.each e0 h0
    obtain ⟨n1,n2,n3,n4,n5,n6,n7,n8⟩:=h1.nd
    exact ⟨⟨n1,n2,by show 0≤e0.nd.links+c;omega,h64,n5,n6,n7,.inl hk⟩,h1.size,h1.rise,h1.good,h1.file⟩
   ·exact h.each e0 h0
  ·unfold Tr.more
   rw [some_upd hid]
   have hm0:n ∈ e0.names:=by split at hm <;> exact hm
   exact h.leads e0 h0 n hm0
  ·by_cases hi:e0.nd.id=k
   ·rw [if_pos hi] at hne;exact absurd hi hne
   ·rw [if_neg hi] at hne ⊢
    unfold count
    rw [hflat]
    exact h.linked e0 h0 hne
  ·by_cases hi:e0.nd.id=k
   ·rw [if_pos hi] at hne;exact absurd hi hne
   ·rw [if_neg hi] at hne ⊢
    exact h.dirs e0 h0 hne
  ·by_cases hi:e0.nd.id=k
   ·rw [if_pos hi] at hne;exact absurd hi hne
   ·rw [if_neg hi] at hne ⊢
    exact h.shut e0 h0 hne
 refine hp.good (dep:=dep) ⟨hd.1,fun e he n hm=>?_⟩ fun e he hi=>?_
 ·obtain ⟨e0,h0,rfl⟩:=upd_mem he
  unfold Tr.more
  rw [kindOf_upd hid (fun _=>rfl)]
  have hm0:n ∈ e0.names:=by split at hm <;> exact hm
  have:=hd.2 e0 h0 n hm0
  split <;> exact this
 ·obtain ⟨e0,h0,rfl⟩:=upd_mem he
  have hi0:e0.nd.id=k:=by split at hi <;> exact hi
  obtain rfl:=hfind e0 h0 hi0
  rw [if_pos hi0]
  refine ⟨?_,fun h2=>?_,hsh⟩
  ·show (count (Tr.more t k c) e0.nd.id:Int)+(if e0.nd.id=0 then 1 else 0)=e0.nd.links+c
   unfold count
   rw [hflat,hi0,if_neg hk0]
   unfold count at hc
   omega
  ·have h2':e0.nd.kind=2:=h2
   omega
theorem Pre.remove {i:Int} (h:Pre i t) {dep:Int→Nat} (hd:Deep dep t) (hi0:i≠0) (hk:kids t i=[]) (hn:∀ e ∈ t,∀ n ∈ e.names,n.2≠i):Good (remove t i):=by
 have hmem:∀ e,e ∈ Tr.remove t i↔e ∈ t∧e.nd.id≠i:=fun e=>by
  unfold Tr.remove
  rw [List.mem_filter]
  simp
 have hflat:flat (Tr.remove t i)=flat t:=by
  cases hf:find t i with
  | none =>
    have:Tr.remove t i=t:=by
     unfold Tr.remove
     rw [List.filter_eq_self]
     intro e he
     have:=find_none.1 hf e he
     simpa using this
    rw [this]
  | some e =>
    rw [kids_of hf] at hk
    obtain ⟨A,B,rfl,he,hA,hB⟩:=h.rise.split hf
    rw [remove_split he hA hB,flat_split,hk]
    simp [flat,List.flatMap_append]
 have hsome:∀ j,j≠i→find (Tr.remove t i) j=find t j:=fun j hj=>by rw [find_remove,if_neg hj]
 refine ⟨?_,remove_ris h.rise i,Nat.le_trans (List.length_filter_le _ _) h.few,fun e he=>h.each e ((hmem e).1 he).1,fun e he n hm=>?_,fun e he=>?_,fun e he=>?_,fun e he=>?_,dep,hd.1,fun e he n hm=>?_⟩
 ·obtain ⟨r,rest,rfl,h1,h2⟩:=h.root
  refine ⟨r,Tr.remove rest i,?_,h1,h2⟩
  unfold Tr.remove
  rw [List.filter_cons,if_pos (by rw [h1];simpa using fun e:(0:Int)=i=>hi0 e.symm)]
 ·obtain ⟨h1,_⟩:=(hmem e).1 he
  rw [hsome n.2 (hn e h1 n hm)]
  exact h.leads e h1 n hm
 ·obtain ⟨h1,h2⟩:=(hmem e).1 he
  unfold count
  rw [hflat]
  exact h.linked e h1 h2
 ·obtain ⟨h1,h2⟩:=(hmem e).1 he
  exact h.dirs e h1 h2
 ·obtain ⟨h1,h2⟩:=(hmem e).1 he
  exact h.shut e h1 h2
 ·obtain ⟨h1,_⟩:=(hmem e).1 he
  have h3:=hd.2 e h1 n hm
  have e1:kindOf (Tr.remove t i) n.2=kindOf t n.2:=by
   unfold kindOf ndOf
   rw [hsome n.2 (hn e h1 n hm)]
  rw [e1];exact h3
theorem count_zero {i:Int} (h:count t i=0):∀ e ∈ t,∀ n ∈ e.names,n.2≠i:=fun e he n hn e2=>by
 unfold count at h
 rw [List.countP_eq_zero] at h
 have:=h (e.nd.id,n) (flat_mem.2 ⟨e,he,rfl,hn⟩)
 simp [e2] at this
theorem Good.insE (h:Good t) {k kind:Int} (hk:kind=1∨kind=2) (hnew:∀ e ∈ t,e.nd.id≠k) (hk0:0≤k) (hk9:k≤65535) (hlt:t.length<64):Pre k (insE t (fresh k kind)):=by
 have hr:=insE_ris h.ris (n:=fresh k kind) hnew
 have hflat:(flat (Tr.insE t (fresh k kind))).Perm (flat t):=by
  unfold flat
  exact ((insE_perm t (fresh k kind)).flatMap_right _).trans (by rw [List.flatMap_cons];exact .refl _)
 have hsome:∀ j,(find t j).isSome=true→(find (Tr.insE t (fresh k kind)) j).isSome=true:=fun j hj=>by
  rw [find_insE h.ris hnew]
  split
  ·rfl
  ·exact hj
 refine ⟨?_,hr,by rw [insE_length];omega,fun e he=>?_,fun e he n hm=>?_,fun e he hne=>?_,fun e he hne=>?_,fun e he hne=>?_⟩
 ·obtain ⟨r,rest,rfl,h1,h2⟩:=h.root
  have h3:=hnew r (.head _)
  refine ⟨r,Tr.insE rest (fresh k kind),?_,h1,h2⟩
  show (if r.nd.id<k then r :: Tr.insE rest (fresh k kind) else _)=_
  rw [if_pos (by omega)]
 ·rcases insE_mem.1 he with rfl|he
  ·refine ⟨⟨hk0,hk9,by show (0:Int)≤1;omega,by show (1:Int)≤65535;omega,by show (0:Int)≤0;omega,by show (0:Int)≤4096;omega,by show (0:Nat)≤1099511627776;omega,?_⟩,rfl,List.Pairwise.nil,(fun n hn=>by cases hn),fun _=>rfl⟩
   rcases hk with rfl|rfl
   ·exact .inl rfl
   ·exact .inr ⟨rfl,rfl,rfl,rfl⟩
  ·exact h.each e he
 ·rcases insE_mem.1 he with rfl|he
  ·cases hm
  ·obtain ⟨h1,h2⟩:=h.leads e he n hm
   exact ⟨h1,hsome _ h2⟩
 ·rcases insE_mem.1 he with rfl|he
  ·exact absurd rfl hne
  ·unfold count
   rw [hflat.countP_eq]
   exact h.linked e he
 ·rcases insE_mem.1 he with rfl|he
  ·exact absurd rfl hne
  ·exact h.dirs e he
 ·rcases insE_mem.1 he with rfl|he
  ·exact absurd rfl hne
  ·exact h.shut e he
end Tr
end Go.Proofs.YtjoedamiilgajaaGreat
