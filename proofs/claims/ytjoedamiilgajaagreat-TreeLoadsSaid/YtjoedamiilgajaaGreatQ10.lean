/-
  OWN WORK. RfApp
-/
import Derived.Test.YtjoedamiilgajaaGreatQ09
namespace Go.Proofs.YtjoedamiilgajaaGreat
open Go.RowKit Rc
open Tr (Nm En T)
namespace Rf
variable {p:Nat} {nv dv ev nv2 dv2 ev2:Value} {D D2:Nat→Prop} {t t':T} {w w1 w2:World}
theorem u8Ty:RowTy 39 5 1 (.int .u8 0) 1:=⟨by kernel_rfl,by kernel_rfl,by kernel_rfl,rfl,by decide,by decide⟩
theorem rd_src {A:Option Addr} {l:Bs} (h:Rd w A l):Src w A (Lib.byteCells l):=fun hl=>by
 have hl2:0<l.length:=by simpa [Lib.byteCells] using hl
 obtain ⟨b,off,rfl,_,hc⟩:=h hl2
 refine ⟨_,rfl,fun j u hj=>?_⟩
 rw [add_plain]
 have hjl:j<l.length:=by have:=(List.getElem?_eq_some_iff.1 hj).1;simpa [Lib.byteCells] using this
 have:=hc j l[j] (List.getElem?_eq_getElem hjl)
 rw [this]
 simp only [Lib.byteCells,List.getElem?_map,List.getElem?_eq_getElem hjl,Option.map_some] at hj
 exact hj
theorem rd_only {A:Option Addr} {l:Bs} {g:Nat} (h:Rd w A l) (hm:OnlyP g w w2) (hg:0<l.length→A.map (·.block)≠some g):Rd w2 A l:=fun hl=>by
 refine h.keep (fun q hq hA=>World.cell?_of_block (hm.block _ hq fun e=>hg hl ?_)) hm.size hl
 rw [← e];exact hA
theorem RA.rd_ne (h:RA p nv dv ev D t w) {A:Option Addr} {l:Bs} (hr:Rd w A l) (hl:0<l.length):A.map (·.block)≠some p:=by
 obtain ⟨b,off,rfl,_,hc⟩:=hr hl
 intro e
 simp only [Option.map_some,Option.some.injEq] at e
 subst e
 have h1:=hc 0 l[0] (List.getElem?_eq_getElem hl)
 have hbx:=h.in_.box
 obtain ⟨_,_,hnv,_⟩:=Tm.oF h.in_.nodes
 obtain ⟨_,_,hev,_⟩:=Tm.oF h.in_.ents
 obtain ⟨_,hd1,_⟩:=h.in_.data
 obtain ⟨_,_,hdv,_⟩:=Tm.oF hd1
 subst hnv hdv hev
 rw [hbx.cell (off+0)] at h1
 match off,h1 with
 | 0,h1=>injection h1 with h1;cases h1
 | 1,h1=>injection h1 with h1;cases h1
 | 2,h1=>injection h1 with h1;cases h1
 | (k+3),h1=>simp at h1
theorem RA.copiedD (h:RA p nv dv ev D t w) (hpos:0<t.length) {v2:Value} {xs:List Value} (hx:DC w D (t.map (·.data)) xs) (ho:w2.ownsRow w.heap.size 39 1 v2 t.length xs) (hg:(w.alloc (.cells #[] 39)).grownBy w2 (Value.slice (some ⟨w.heap.size,0,none⟩) 0 0).ownBlock) :
    ∃ g c,v2=.slice (some ⟨g,0,none⟩) t.length c∧w2.cell? ⟨p,1,none⟩=some dv∧w2.frozen? ⟨p,1,none⟩=false∧Hid (w.heap.size≤g)∧Hid (OnlyP p w (w2.setCell ⟨p,1,none⟩ v2))∧Hid (Left p t (RS p nv ev D) w (w2.setCell ⟨p,1,none⟩ v2) nv v2 ev (fun b=>D b∨v2.ownBlock=some b)):=by
 have hb:Below w.heap.size w w2:=by
  have hb1:=bN w (.cells #[] 39)
  exact ⟨hg.os.trans hb1.os,hg.tape.trans hb1.tape,hg.output.trans hb1.output,Nat.le_trans hb1.size hg.size,fun b hb2=>(hg.block b (Nat.lt_of_lt_of_le hb2 hb1.size) fun e=>by simp [Value.ownBlock] at e;omega).trans (hb1.block b hb2)⟩
 obtain ⟨A,c,h1,_,h2⟩:=Tm.oF ho
 obtain ⟨g,rfl,hg1,hg2,_⟩:=h2 hpos
 obtain ⟨k1,k2⟩:=h.box_to hb 1 v2
 have hbx:=(h.below hb).in_.box
 have hgp:g≠p:=by have:=h.in_.box.lt;omega
 refine ⟨g,c,h1,hbx.cell 1,hbx.frozen 1,hg2,k1,?_⟩
 refine h.rows (t':=t) (dv':=v2) k1 k2 (Tm.own_keep ho fun b hb2=>Below.heap_setCell _ _ _ _ fun e=>?_) hx rfl rfl
 have e2:b=p:=e
 rw [hg1] at hb2
 injection hb2 with hb2
 omega
theorem RA.dput {g c2 k:Nat} {cur:List Value} {x:Value} {e e':En} (h:RA p nv (.slice (some ⟨g,0,none⟩) t.length c2) ev D t w) (hcur:Blk w g 39 cur) (hm:OnlyP g w w2) (hb:Blk w2 g 39 (cur.set k x)) (ho:w2.ownsRow w.heap.size 5 1 x e'.data.length (Lib.byteCells e'.data)) (he:t[k]?=some e) (hnd:e'.nd=e.nd) (hnm:e'.names=e.names) :
    ∃ D',Left p (t.set k e') (RS p nv ev D) w w2 nv (.slice (some ⟨g,0,none⟩) t.length c2) ev D':=by
 obtain ⟨xs,h1,h2,h3⟩:=h.in_.data
 rw [List.length_map] at h1
 have hDg:D g:=h2 g rfl
 obtain ⟨a1,a2,a3,a4⟩:=h.apart g hDg
 have hkl:k<t.length:=(List.getElem?_eq_some_iff.1 he).1
 have hh:∀ b,b<w.heap.size→b≠g→w2.heap[b]?=w.heap[b]?:=fun b hb2 hbg=>hm.block b hb2 hbg
 have hmaps:(t.set k e').map (·.nd)=t.map (·.nd):=by
  rw [List.map_set,hnd]
  refine List.ext_getElem? fun j=>?_
  by_cases hj:j=k
  ·subst hj;rw [List.getElem?_set_self (by rw [List.length_map];exact hkl),List.getElem?_map,he];rfl
  ·rw [List.getElem?_set_ne (fun e=>hj e.symm)]
 have hflat:Tr.flat (t.set k e')=Tr.flat t:=by
  have key:∀ (l:T) (j:Nat),l[j]?=some e→Tr.flat (l.set j e')=Tr.flat l:=by
   intro l
   induction l with
   | nil=>intro j h;simp at h
   | cons a l ih =>
     intro j h
     cases j with
     | zero =>
       obtain rfl:a=e:=by simpa using h
       show e'.names.map (fun n=>(e'.nd.id,n))++Tr.flat l=a.names.map (fun n=>(a.nd.id,n))++Tr.flat l
       rw [hnm,hnd]
     | succ j =>
       show a.names.map (fun n=>(a.nd.id,n))++Tr.flat (l.set j e')=a.names.map (fun n=>(a.nd.id,n))++Tr.flat l
       rw [ih j (by simpa using h)]
  exact key t k he
 obtain ⟨X,c,rfl,hxc,hxr,hxb⟩:=Ob.Fresh.form (w:=w) (l:=e'.data) ho
 obtain ⟨hnc,hnl⟩:=nd_cells hmaps
 have hrow:w2.ownsRow 0 39 1 (.slice (some ⟨g,0,none⟩) t.length c2) t.length (xs.set k (.slice X e'.data.length c)):=by
  rcases h1.2 with ⟨q,_⟩|⟨g',cap,curA,hq,_,hg,hn,hmx,hsz,hx⟩
  ·cases q
  ·injection hq with e1 _ e3
   injection e1 with e1
   injection e1 with e1
   subst e1 e3
   unfold Blk at hcur
   rw [hcur] at hg
   injection hg with hg
   injection hg with hg
   subst hg
   refine ⟨by rw [List.length_set];exact h1.1,.inr ⟨g,c2,(cur.set k (.slice X e'.data.length c)).toArray,rfl,Nat.zero_le _,hb,hn,hmx,by simpa using hsz,?_⟩⟩
   rw [← hx]
   simp [List.take_set]
 refine ⟨fun b=>D b∨X.map (·.block)=some b,⟨⟨(hh p h.in_.box.lt (fun e=>a2 e.symm)).trans h.in_.box,?_,?_,?_⟩,fun b hD=>?_⟩,hm.mono (fun b _ hb2=>.inr (.inr (.inr (hb2 ▸ hDg)))),fun b hb2=>?_⟩
 ·rw [hnl,hnc]
  exact Tm.own_keep h.in_.nodes fun b hb2=>hh b (Tm.oB h.in_.nodes hb2).2.1 fun e=>a3 (e ▸ hb2)
 ·rw [hflat]
  exact Tm.own_keep h.in_.ents fun b hb2=>hh b (Tm.oB h.in_.ents hb2).2.1 fun e=>a4 (e ▸ hb2)
 ·refine ⟨xs.set k (.slice X e'.data.length c),by rw [List.length_map,List.length_set];exact hrow,fun b hb2=>.inl (h2 b hb2),fun j y hj=>?_⟩
  rw [List.map_set] at hj
  by_cases hjk:j=k
  ·subst hjk
   rw [List.getElem?_set_self (by rw [List.length_map];exact hkl)] at hj
   injection hj with hj
   subst hj
   refine ⟨X,c,List.getElem?_set_self (by have:=h1.1;omega),hxc,.inl ⟨hxr,fun b hA=>⟨.inr hA,fun e=>?_⟩⟩⟩
   have e2:g=b:=by simpa [Value.ownBlock] using e
   have:=(hxb b hA).1
   omega
  ·rw [List.getElem?_set_ne (fun e=>hjk e.symm)] at hj
   obtain ⟨A,c3,k1,k2,k3⟩:=h3 j y hj
   rcases k3 with k3|k3
   ·refine ⟨A,c3,by rw [List.getElem?_set_ne (fun e=>hjk e.symm)];exact k1,k2,.inl ⟨rd_only k3.1 hm fun _ e=>(k3.2 g e).2 rfl,fun b hA=>⟨.inl (k3.2 b hA).1,(k3.2 b hA).2⟩⟩⟩
   ·exact k3.elim
 ·rcases hD with hD|hD
  ·obtain ⟨q1,q2,q3,q4⟩:=h.apart b hD
   exact ⟨Nat.lt_of_lt_of_le q1 hm.size,q2,q3,q4⟩
  ·have hbb:=hxb b hD
   have hpl:=h.in_.box.lt
   refine ⟨hbb.2,by omega,fun e=>?_,fun e=>?_⟩
   ·have:=(Tm.oB h.in_.nodes e).2.1;omega
   ·have:=(Tm.oB h.in_.ents e).2.1;omega
 ·rcases hb2 with q|q|q|q|q
  ·exact .inl (.inl q)
  ·exact .inl (.inr (.inl q))
  ·exact .inl (.inr (.inr (.inl q)))
  ·exact .inl (.inr (.inr (.inr q)))
  ·exact .inr (hxb b q).1
set_option maxHeartbeats 2000000 in
set_option maxRecDepth 100000 in
theorem append_any (h:RA p nv dv ev D t w) (hG:Tr.Good t) (i:Int) (A:Option Addr) (b:Bs) (cap:Nat) (hr:Rd w A b) (hbl:b.length≤1000000000) :
    Calls Tryz.prog 19 #[.pointer (some ⟨p,0,none⟩),.int .i64 i,.slice A b.length cap] w (RTurn p (Tr.append t i b).2 (.int .i64 ((Tr.append t i b).1:Nat)) (RS p nv ev D) w):=by
 have HF:=Lib.hid (file_any h.in_ i (by have:=hG.few;omega))
 have HS:Hid (∀ x,RTurn p t x (RS p nv ev D) w (.returned x) w):=fun x=>RTurn.stay h (Below.refl _ _)
 by_cases h0:Tr.file t i=0
 case neg =>
  have HN:Hid (Tr.append t i b=(Tr.file t i,t)):=by
   show _=_
   unfold Tr.append
   rw [if_pos h0]
  rw [HN.out]
  rw [if_neg h0] at HF
  obtain ⟨k,hk⟩:∃ k,k=Tr.file t i:=⟨_,rfl⟩
  rw [← hk] at HF h0 ⊢
  have hki:((k:Int) != 0)=true:=by rw [bne_iff_ne];omega
  clear h hG h0 hk
  go_enter Tryz.func19,Tryz.ntmps19
  go_wp2_with fail
  refine HF.out.mono ?_
  rintro e1 w1 ⟨rfl,rfl⟩
  go_wp2_with fail
  go_ret
  exact HS.out _
 rw [if_pos h0,h0] at HF
 obtain ⟨e,j,h1,h2,h3,h4,h5,h6⟩:=file_at h0
 rw [h3] at HF
 have hpos:0<t.length:=by omega
 obtain ⟨g0,c0,hnv⟩:=h.nvform hpos
 subst hnv
 have HCO:Hid (∀ w2 v2,w2.ownsRow w.heap.size 59 6 v2 t.length (ndCells t)→(w.alloc (.cells #[] 59)).grownBy w2 (Value.slice (some ⟨w.heap.size,0,none⟩) 0 0).ownBlock→∃ g c,v2=.slice (some ⟨g,0,none⟩) t.length c∧w2.cell? ⟨p,0,none⟩=some (.slice (some ⟨g0,0,none⟩) t.length c0)∧w2.frozen? ⟨p,0,none⟩=false∧Hid (Left p t (RS p (.slice (some ⟨g0,0,none⟩) t.length c0) ev D) w (w2.setCell ⟨p,0,none⟩ v2) v2 dv ev D)):=fun w2 v2 ho hg=>h.copied hpos ho hg
 have HS0:=Lib.hid h.nodeSrc.1
 have HO0:Hid ((w.alloc (.cells #[] 59)).ownsRow w.heap.size 59 6 (.slice (some ⟨w.heap.size,0,none⟩) 0 0) 0 []):=none_own w _ _
 have HL0:=Lib.hid (ndCells_length t)
 have HFEW:Hid (t.length≤64):=hG.few
 have HHS:Hid (w.heap.size≤(w.alloc (.cells #[] 59)).heap.size):=(bN w _).size
 have HJ:=Lib.hid h2
 have hjl:(j:Int)<(t.length:Int):=by omega
 have cp:=h.nodeSrc.2
 have cp0:w.cell? ⟨p,0,none⟩=some (.slice (some ⟨g0,0,none⟩) t.length c0):=h.in_.box.cell 0
 have d2:w.cell? ⟨g0,j*6+2,none⟩=some (.int .i64 e.nd.links):=(h.ndcell h2 2 (by omega)).1
 have d3:w.cell? ⟨g0,j*6+3,none⟩=some (.int .i64 e.nd.size):=(h.ndcell h2 3 (by omega)).1
 have d4:w.cell? ⟨g0,j*6+4,none⟩=some (.int .u64 (e.nd.till:Nat)):=(h.ndcell h2 4 (by omega)).1
 have d5:w.cell? ⟨g0,j*6+5,none⟩=some (.bool e.nd.shut):=(h.ndcell h2 5 (by omega)).1
 have hRDB:∀ W,OnlyP p w W→Rd W A b:=fun W hW=>rd_only hr hW fun hl=>h.rd_ne hr hl
 have HRDB:=Lib.hid hRDB
 have HON:Hid (∀ w2 v2,(w.alloc (.cells #[] 59)).grownBy w2 (Value.slice (some ⟨w.heap.size,0,none⟩) 0 0).ownBlock→Hid (OnlyP p w (w2.setCell ⟨p,0,none⟩ v2))):=fun w2 v2 hg=>by
  have hb1:=bN w (.cells #[] 59)
  have hb:Below w.heap.size w w2:=⟨hg.os.trans hb1.os,hg.tape.trans hb1.tape,hg.output.trans hb1.output,Nat.le_trans hb1.size hg.size,fun b hb2=>(hg.block b (Nat.lt_of_lt_of_le hb2 hb1.size) fun e=>by simp [Value.ownBlock] at e;omega).trans (hb1.block b hb2)⟩
  exact (h.box_to hb 0 v2).1
 have HBLT:Hid (0<b.length→∀ k,A.map (·.block)=some k→k<w.heap.size):=fun hl k hk=>Ob.rd_lt hr hl hk
 clear hr hRDB
 have htr:Tr.append t i b=if e.nd.shut=true then (27,t) else if 4096-e.nd.size<(b.length:Int) then (15,t) else (0,(t.set j { e with data:=e.data++b,nd:={ e.nd with size:=((e.data++b).length:Nat) } })):=by
  unfold Tr.append
  rw [if_neg (by rw [h0];simp),Tr.ndOf_of h1,upd_at hG.ris h2 h6]
 have hsz:e.nd.size=(e.data.length:Nat)∧0≤e.nd.size∧e.nd.size≤4096:=by
  have k:=(hG.each e (Tr.find_some h1).1)
  exact ⟨k.size,k.nd.2.2.2.2.1,k.nd.2.2.2.2.2.1⟩
 have HSZ:=Lib.hid hsz.1
 have hsz1:=hsz.2
 have HK:=Lib.hid htr
 have w0:IntKind.i64.wrap (4096-e.nd.size)=4096-e.nd.size:=by rw [IntKind.wrap_i64];omega
 clear h hG h0 h1 h2 h3 h4 h5 h6 htr hsz
 obtain ⟨sh,hsh⟩:∃ sh,sh=e.nd.shut:=⟨_,rfl⟩
 rw [← hsh] at d5 HK
 obtain ⟨sz,hszz⟩:∃ sz,sz=e.nd.size:=⟨_,rfl⟩
 rw [← hszz] at d3 HK w0 hsz1 HSZ
 clear hsh hszz
 cases sh with
 | true =>
   have HN:Hid (Tr.append t i b=(27,t)):=HK.out
   rw [HN.out]
   go_enter Tryz.func19,Tryz.ntmps19
   go_wp2_with fail
   refine HF.out.mono ?_
   rintro e1 w1 ⟨rfl,rfl⟩
   go_wp2_with fail
   go_ret
   exact HS.out _
 | false =>
   by_cases k1:4096-sz<(b.length:Int)
   ·have HN:Hid (Tr.append t i b=(15,t)):=by
     have:=HK.out
     rw [if_neg (by simp),if_pos k1] at this
     exact this
    rw [HN.out]
    go_enter Tryz.func19,Tryz.ntmps19
    go_wp2_with fail
    refine HF.out.mono ?_
    rintro e1 w1 ⟨rfl,rfl⟩
    go_wp2_with fail
    go_ret
    exact HS.out _
   ·have HN:Hid (Tr.append t i b=(0,(t.set j { e with data:=e.data++b,nd:={ e.nd with size:=((e.data++b).length:Nat) } }))):=by
     have:=HK.out
     rw [if_neg (by simp),if_neg k1] at this
     exact this
    rw [HN.out]
    have hdl:e.data.length≤4096∧b.length≤4096:=by have:=HSZ.out;omega
    have HDL:=Lib.hid hdl
    clear hdl
    go_enter Tryz.func19,Tryz.ntmps19
    go_wp2_with fail
    refine HF.out.mono ?_
    rintro e1 w1 ⟨rfl,rfl⟩
    go_upto_region 9 with (at_builtin;refine wpList_cat nodeTy rfl (.tmp 39) (.tmp 43) (by rfl) (by rfl) (by rfl) HO0.out HS0.out HL0.out (ndCells_one _) (by have:=HFEW.out;omega) HHS.out (Nat.zero_add _).symm (List.nil_append _).symm ?_;intro v2 w2 HO2 HG2 HP2;obtain ⟨g,c2,hv2,hc2,hf2,HLF⟩:=HCO.out w2 v2 HO2.out HG2.out;have hon3:=HON.out w2 v2 HG2.out;subst hv2)
    obtain ⟨W3,hW3⟩:∃ W3,W3=w2.setCell ⟨p,0,none⟩ (.slice (some ⟨g,0,none⟩) t.length c2):=⟨_,rfl⟩
    rw [← hW3] at HLF hon3 ⊢
    have HON3:Hid (OnlyP p w1 W3):=hon3.out
    clear hW3 HCO HO2 HG2 HP2 HS0 HO0 HL0 HHS cp cp0 hc2 hf2 w0 d2 d3 d4 d5
    have hra:=HLF.out.ra
    obtain ⟨xs,hxo,hxd,_⟩:=RIn.dc hra.in_.data
    rw [List.length_map] at hxo
    obtain ⟨A2,cd,hdv,hnc2,hS2⟩:=srcs hxo (fun e=>by
     obtain ⟨_,_,cs,h1⟩:=Tm.oB hxo e
     exact absurd rfl (h1.ne_ hra.in_.box (by decide)))
    have HCD:Hid (∀ w2 v2,w2.ownsRow W3.heap.size 39 1 v2 t.length xs→(W3.alloc (.cells #[] 39)).grownBy w2 (Value.slice (some ⟨W3.heap.size,0,none⟩) 0 0).ownBlock→∃ g7 c7,v2=.slice (some ⟨g7,0,none⟩) t.length c7∧w2.cell? ⟨p,1,none⟩=some dv∧w2.frozen? ⟨p,1,none⟩=false∧Hid (W3.heap.size≤g7)∧Hid (OnlyP p W3 (w2.setCell ⟨p,1,none⟩ v2))∧Hid (Left p t (RS p (.slice (some ⟨g,0,none⟩) t.length c2) ev D) W3 (w2.setCell ⟨p,1,none⟩ v2) (.slice (some ⟨g,0,none⟩) t.length c2) v2 ev (fun b=>D b∨v2.ownBlock=some b))):=fun w2 v2 ho hg=>hra.copiedD hpos hxd ho hg
    have HS0:Hid (Src (W3.alloc (.cells #[] 39)) A2 xs):=(hS2 _ (Mod.of_below (bN W3 _) _)).1
    have HO0:Hid ((W3.alloc (.cells #[] 39)).ownsRow W3.heap.size 39 1 (.slice (some ⟨W3.heap.size,0,none⟩) 0 0) 0 []):=none_own W3 _ _
    have HL0:Hid (xs.length=t.length*1):=hxo.1
    have HX1:=Lib.hid hxd.one
    have HHS:Hid (W3.heap.size≤(W3.alloc (.cells #[] 39)).heap.size):=(bN W3 _).size
    have cp:(W3.alloc (.cells #[] 39)).cell? ⟨p,1,none⟩=some dv:=(hra.below (bN W3 _)).in_.box.cell 1
    have cp0:W3.cell? ⟨p,1,none⟩=some dv:=hra.in_.box.cell 1
    subst hdv
    clear hra hxo hxd hS2 hnc2 hpos
    go_upto_region 10 with (at_builtin;refine wpList_cat bytesTy rfl (.tmp 48) (.tmp 52) (by rfl) (by rfl) (by rfl) HO0.out HS0.out HL0.out HX1.out (by have:=HFEW.out;omega) HHS.out (Nat.zero_add _).symm (List.nil_append _).symm ?_;intro v7 w7 HO7 HG7 HP7;obtain ⟨g7,c7,hv7,hc7,hf7,HG7L,HON7,HLF7⟩:=HCD.out w7 v7 HO7.out HG7.out;subst hv7)
    obtain ⟨W4,hW4⟩:∃ W4,W4=w7.setCell ⟨p,1,none⟩ (.slice (some ⟨g7,0,none⟩) t.length c7):=⟨_,rfl⟩
    rw [← hW4] at HLF7 HON7 ⊢
    clear hW4 HCD HO7 HG7 HP7 HS0 HO0 HL0 HX1 HHS cp cp0 hc7 hf7
    have HL4:Hid (Left p t (RS p (.slice (some ⟨g0,0,none⟩) t.length c0) ev D) w1 W4 (.slice (some ⟨g,0,none⟩) t.length c2) (.slice (some ⟨g7,0,none⟩) t.length c7) ev _):=HLF.out.then HLF7.out
    have HSZ4:Hid (w1.heap.size≤g7):=Nat.le_trans HLF.out.mod.size HG7L.out
    have HRB4:Hid (∀ W,OnlyP g7 W4 W→Rd W A b):=fun W hW=>by
     have h8:Rd W4 A b:=HRDB.out W4 (only_trans HON3.out HON7.out)
     exact rd_only h8 hW fun hl e=>by have:=HBLT.out hl g7 e;have:=HSZ4.out;omega
    have hra:=HLF7.out.ra
    obtain ⟨X,c8,k1,k3,k4⟩:∃ (X:Option Addr) (c8:Nat),W4.cell? ⟨g7,j,none⟩=some (.slice X e.data.length c8)∧Rd W4 X e.data∧∀ k,X.map (·.block)=some k→g7≠k:=by
     obtain ⟨g8,X,c8,⟨cd8,hdv8⟩,k1,_,k3,k4⟩:=hra.datacell HJ.out
     injection hdv8 with e1 _ _
     injection e1 with e1
     injection e1 with e1
     subst e1
     exact ⟨X,c8,k1,k3,fun k hk e5=>(k4 k hk).2 (by rw [← e5];rfl)⟩
    obtain ⟨cur,hcur⟩:∃ cur,Blk W4 g7 39 cur:=by
     obtain ⟨xs2,h1,_⟩:=hra.in_.data
     obtain ⟨_,_,cs,h2⟩:=Tm.oB h1 (b:=g7) rfl
     exact ⟨cs,h2⟩
    have hck:cur[j]?=some (.slice X e.data.length c8):=by rw [← hcur.cell j];exact k1
    have HCUR:=Lib.hid hcur
    have HCK:=Lib.hid hck
    have HRX:Hid (∀ W,OnlyP g7 W4 W→Rd W X e.data):=fun W hW=>rd_only k3 hW fun _ e5=>k4 g7 e5 rfl
    have HPB:Hid (∀ W,OnlyP g7 W4 W→W.cell? ⟨p,1,none⟩=some (.slice (some ⟨g7,0,none⟩) t.length c7)):=fun W hW=>by
     have h8:Blk W p 84 [.slice (some ⟨g,0,none⟩) t.length c2,.slice (some ⟨g7,0,none⟩) t.length c7,ev]:=(hW.block p hra.in_.box.lt (fun e=>by have:=(hra.apart g7 (.inr rfl)).2.1;omega)).trans hra.in_.box
     exact h8.cell 1
    have HEND:Hid (∀ W2 x9,OnlyP g7 W4 W2→Blk W2 g7 39 (cur.set j x9)→W2.ownsRow W4.heap.size 5 1 x9 (e.data.length+b.length) (Lib.byteCells e.data++Lib.byteCells b)→∃ D',Left p (t.set j { e with data:=e.data++b }) (RS p (.slice (some ⟨g0,0,none⟩) t.length c0) ev D) w1 W2 (.slice (some ⟨g,0,none⟩) t.length c2) (.slice (some ⟨g7,0,none⟩) t.length c7) ev D'):=fun W2 x9 hm hb ho=>by
     obtain ⟨D',h9⟩:=hra.dput (e':={ e with data:=e.data++b }) HCUR.out hm hb (by rw [List.length_append];show W2.ownsRow _ _ _ _ _ (Lib.byteCells (e.data++b));rw [show Lib.byteCells (e.data++b)=Lib.byteCells e.data++Lib.byteCells b from by simp [Lib.byteCells]];exact ho) HJ.out rfl rfl
     exact ⟨D',HL4.out.then h9⟩
    clear hra k3 k4 hcur hck HLF HLF7 HON7 HG7L HRDB HBLT
    refine Rc.wp_region (by kernel_rfl) (fun opn=>List.getD [Rc.val (.pointer (some ⟨p,0,none⟩)),Rc.val (.pointer (some ⟨p,0,none⟩)),Rc.val (.pointer (some ⟨p,1,none⟩)),Rc.val (.slice (some ⟨g7,0,none⟩) t.length c7),Rc.val (.int .i64 (j:Nat)),crow 5 1 (0) ([]),Rc.val (.pointer (some ⟨p,0,none⟩)),Rc.val (.pointer (some ⟨p,0,none⟩)),Rc.val (.pointer (some ⟨p,1,none⟩)),Rc.val (.slice (some ⟨g7,0,none⟩) t.length c7),Rc.val (.int .i64 (j:Nat)),Rc.val (.pointer (some ⟨g7,j,none⟩)),Rc.val (.slice X e.data.length c8),crow 5 1 (e.data.length) ((Lib.byteCells e.data)),Rc.val (.slice A b.length cap),crow 5 1 ((e.data.length+b.length)) ((Lib.byteCells e.data++Lib.byteCells b)),Rc.val (.pointer (some ⟨g7,j,none⟩)),cbox 39 g7 j cur 5 1 ((e.data.length+b.length)) ((Lib.byteCells e.data++Lib.byteCells b)),cobj 39 g7 cur] opn Rc.any) 1 [] [[],[(0,56)],[(1,57)],[(2,58)],[],[],[],[(6,62)],[(7,63)],[(8,64)],[],[(9,65),(10,66)],[(11,67)],[(5,61),(12,68)],[],[(13,69),(14,70)],[(3,59),(4,60)],[(16,72),(15,71)]] [[],[0],[1],[2],[],[],[],[6],[7],[8],[],[9,10],[11],[5,12],[],[13,14],[3,4],[12,15,16]] [[],[0],[1],[2],[],[],[],[6],[7],[8],[],[9,10],[11,18],[5,12],[],[13,14],[3,4],[16,15,18]] [(13,5),(15,13),(17,18),(17,15)] (by kernel_rfl) (by rfl) (by kernel_rfl) (fun b=>b=g7) (fun _ b=>b=g7) (box_inv HCUR.out _ _ 18 rfl) ?_ ?_
    ·intro fr ha
     have hz:fr.tmps.size=88:=by rw [ha];rfl
     have y0:fr.eval (.tmp 0)=.pointer (some ⟨p,0,none⟩):=by rw [ha];rfl
     have y2:fr.eval (.tmp 2)=.slice A b.length cap:=by rw [ha];rfl
     have y7:fr.eval (.tmp 7)=.int .i64 (j:Nat):=by rw [ha];rfl
     clear ha
     refine .cons ?_ (.cons ?_ (.cons ?_ (.cons ?_ (.cons ?_ (.cons ?_ (.cons ?_ (.cons ?_ (.cons ?_ (.cons ?_ (.cons ?_ (.cons ?_ (.cons ?_ (.cons ?_ (.cons ?_ (.cons ?_ (.cons ?_ (.cons ?_ (.nil))))))))))))))))))
     ·intro V S W5 HM HU HE
      have tb0:=(Rg.uE V fr 0 [] (by rw [hz];decide)).trans y0
      show Rg.Dz _ _ V (Rg.pU V [] fr) W5 _
      exact Ob.rc_mv (.pointer (some ⟨p,0,none⟩)) (by simp only [execOp,tb0];go_simp) rfl rfl True.intro
     ·intro V S W5 HM HU HE
      have h0:V 0=_:=HU.holds 0 (by decide)
      have tb56:=(Rg.uE V fr 56 [(0,56)] (by rw [hz];decide)).trans h0
      show Rg.Dz _ _ V (Rg.pU V [(0,56)] fr) W5 _
      exact Ob.rc_mv (.pointer (some ⟨p,0,none⟩)) (by simp only [execOp,tb56];go_simp) rfl rfl True.intro
     ·intro V S W5 HM HU HE
      have h1:V 1=_:=HU.holds 1 (by decide)
      have tb57:=(Rg.uE V fr 57 [(1,57)] (by rw [hz];decide)).trans h1
      show Rg.Dz _ _ V (Rg.pU V [(1,57)] fr) W5 _
      exact Ob.rc_mv (.pointer (some ⟨p,1,none⟩)) (by simp only [execOp,tb57];go_simp) rfl rfl True.intro
     ·intro V S W5 HM HU HE
      have HM:Mod W4 W5 (fun b=>b=g7):=HM
      have h2:V 2=_:=HU.holds 2 (by decide)
      have tb58:=(Rg.uE V fr 58 [(2,58)] (by rw [hz];decide)).trans h2
      show Rg.Dz _ _ V (Rg.pU V [(2,58)] fr) W5 _
      have cl:=HPB.out W5 HM
      exact Ob.rc_mv (.slice (some ⟨g7,0,none⟩) t.length c7) (by simp only [execOp,tb58];go_simp) rfl rfl True.intro
     ·intro V S W5 HM HU HE
      have tb7:=(Rg.uE V fr 7 [] (by rw [hz];decide)).trans y7
      show Rg.Dz _ _ V (Rg.pU V [] fr) W5 _
      exact Ob.rc_mv (.int .i64 (j:Nat)) (by simp only [execOp,tb7];go_simp) rfl rfl True.intro
     ·intro V S W5 HM HU HE
      show Rg.Dz _ _ V (Rg.pU V [] fr) W5 _
      exact step_cnil 5 1 rfl (fun x=>Rg.aN rfl V x) True.intro (by simp only [execOp,List.map_toArray,List.map_nil];go_simp)
     ·intro V S W5 HM HU HE
      have tb0:=(Rg.uE V fr 0 [] (by rw [hz];decide)).trans y0
      show Rg.Dz _ _ V (Rg.pU V [] fr) W5 _
      exact Ob.rc_mv (.pointer (some ⟨p,0,none⟩)) (by simp only [execOp,tb0];go_simp) rfl rfl True.intro
     ·intro V S W5 HM HU HE
      have h6:V 6=_:=HU.holds 6 (by decide)
      have tb62:=(Rg.uE V fr 62 [(6,62)] (by rw [hz];decide)).trans h6
      show Rg.Dz _ _ V (Rg.pU V [(6,62)] fr) W5 _
      exact Ob.rc_mv (.pointer (some ⟨p,0,none⟩)) (by simp only [execOp,tb62];go_simp) rfl rfl True.intro
     ·intro V S W5 HM HU HE
      have h7:V 7=_:=HU.holds 7 (by decide)
      have tb63:=(Rg.uE V fr 63 [(7,63)] (by rw [hz];decide)).trans h7
      show Rg.Dz _ _ V (Rg.pU V [(7,63)] fr) W5 _
      exact Ob.rc_mv (.pointer (some ⟨p,1,none⟩)) (by simp only [execOp,tb63];go_simp) rfl rfl True.intro
     ·intro V S W5 HM HU HE
      have HM:Mod W4 W5 (fun b=>b=g7):=HM
      have h8:V 8=_:=HU.holds 8 (by decide)
      have tb64:=(Rg.uE V fr 64 [(8,64)] (by rw [hz];decide)).trans h8
      show Rg.Dz _ _ V (Rg.pU V [(8,64)] fr) W5 _
      have cl:=HPB.out W5 HM
      exact Ob.rc_mv (.slice (some ⟨g7,0,none⟩) t.length c7) (by simp only [execOp,tb64];go_simp) rfl rfl True.intro
     ·intro V S W5 HM HU HE
      have tb7:=(Rg.uE V fr 7 [] (by rw [hz];decide)).trans y7
      show Rg.Dz _ _ V (Rg.pU V [] fr) W5 _
      exact Ob.rc_mv (.int .i64 (j:Nat)) (by simp only [execOp,tb7];go_simp) rfl rfl True.intro
     ·intro V S W5 HM HU HE
      have h9:V 9=_:=HU.holds 9 (by decide)
      have tb65:=(Rg.uE V fr 65 [(9,65),(10,66)] (by rw [hz];decide)).trans h9
      have h10:V 10=_:=HU.holds 10 (by decide)
      have tb66:=(Rg.uE V fr 66 [(9,65),(10,66)] (by rw [hz];decide)).trans h10
      show Rg.Dz _ _ V (Rg.pU V [(9,65),(10,66)] fr) W5 _
      exact Ob.rc_mv (.pointer (some ⟨g7,j,none⟩)) (by simp only [execOp,tb65,tb66];go_simp) rfl rfl True.intro
     ·intro V S W5 HM HU HE
      have h11:V 11=_:=HU.holds 11 (by decide)
      have tb67:=(Rg.uE V fr 67 [(11,67)] (by rw [hz];decide)).trans h11
      show Rg.Dz _ _ V (Rg.pU V [(11,67)] fr) W5 _
      have hbk:(cobj 39 g7 cur).holds (V 18) W5 (S 18):=HU.holds 18 (by decide)
      have cl:W5.cell? ⟨g7,j,none⟩=some (.slice X e.data.length c8):=(hbk.1.cell j).trans HCK.out
      exact Ob.rc_mv (.slice X e.data.length c8) (by simp only [execOp,tb67];go_simp) rfl rfl True.intro
     ·intro V S W5 HM HU HE
      have HM:Mod W4 W5 (fun b=>b=g7):=HM
      have tb61:=(Rg.uE V fr 61 [(5,61),(12,68)] (by rw [hz];decide)).trans rfl
      have h12:V 12=.slice X e.data.length c8:=HU.holds 12 (by decide)
      have tb68:=(Rg.uE V fr 68 [(5,61),(12,68)] (by rw [hz];decide)).trans h12
      show Rg.Dz _ _ V (Rg.pU V [(5,61),(12,68)] fr) W5 _
      exact step_capp u8Ty (i:=5) (n:=0) (m:=e.data.length) (xs:=[]) (ys:=Lib.byteCells e.data) rfl tb61 tb68 rfl (by decide) (HU.holds 5 (by decide)) (rd_src (HRX.out W5 HM)) (by simp [Lib.byteCells]) (bytes_one _) (by have:=HDL.out;omega) ((Nat.zero_add _).symm) (rfl) (fun x=>Rg.aN rfl V x) True.intro
     ·intro V S W5 HM HU HE
      have tb2:=(Rg.uE V fr 2 [] (by rw [hz];decide)).trans y2
      show Rg.Dz _ _ V (Rg.pU V [] fr) W5 _
      exact Ob.rc_mv (.slice A b.length cap) (by simp only [execOp,tb2];go_simp) rfl rfl True.intro
     ·intro V S W5 HM HU HE
      have HM:Mod W4 W5 (fun b=>b=g7):=HM
      have tb69:=(Rg.uE V fr 69 [(13,69),(14,70)] (by rw [hz];decide)).trans rfl
      have h14:V 14=_:=HU.holds 14 (by decide)
      have tb70:=(Rg.uE V fr 70 [(13,69),(14,70)] (by rw [hz];decide)).trans h14
      show Rg.Dz _ _ V (Rg.pU V [(13,69),(14,70)] fr) W5 _
      exact step_capp u8Ty (i:=13) (n:=e.data.length) (m:=b.length) (xs:=(Lib.byteCells e.data)) (ys:=Lib.byteCells b) rfl tb69 tb70 rfl (by decide) (HU.holds 13 (by decide)) (rd_src (HRB4.out W5 HM)) (by simp [Lib.byteCells]) (bytes_one _) (by have:=HDL.out;omega) (rfl) (rfl) (fun x=>Rg.aN rfl V x) True.intro
     ·intro V S W5 HM HU HE
      have h3:V 3=_:=HU.holds 3 (by decide)
      have tb59:=(Rg.uE V fr 59 [(3,59),(4,60)] (by rw [hz];decide)).trans h3
      have h4:V 4=_:=HU.holds 4 (by decide)
      have tb60:=(Rg.uE V fr 60 [(3,59),(4,60)] (by rw [hz];decide)).trans h4
      show Rg.Dz _ _ V (Rg.pU V [(3,59),(4,60)] fr) W5 _
      exact Ob.rc_mv (.pointer (some ⟨g7,j,none⟩)) (by simp only [execOp,tb59,tb60];go_simp) rfl rfl True.intro
     ·intro V S W5 HM HU HE
      have h16:V 16=_:=HU.holds 16 (by decide)
      have tb72:=(Rg.uE V fr 72 [(16,72),(15,71)] (by rw [hz];decide)).trans h16
      have hc15:(crow 5 1 ((e.data.length+b.length)) ((Lib.byteCells e.data++Lib.byteCells b))).holds (V 15) W5 (S 15):=HU.holds 15 (by decide)
      obtain ⟨A9,c9,e9,_⟩:=Tm.oF hc15.1
      have tb71:=(Rg.uE V fr 71 [(16,72),(15,71)] (by rw [hz];decide)).trans e9
      show Rg.Dz _ _ V (Rg.pU V [(16,72),(15,71)] fr) W5 _
      have hbk:(cobj 39 g7 cur).holds (V 18) W5 (S 18):=HU.holds 18 (by decide)
      have hck:=HCK.out
      have cl:=hbk.1.cell j
      have fl:=hbk.1.frozen j
      exact step_cput (i:=j) (cs:=cur) _ e9 rfl (by decide) (by decide) hbk hc15 (by decide) (HU.lt 15 (by decide)) (fun x=>Rg.aN rfl V x) True.intro (by simp only [execOp,tb72,tb71];go_simp)
    ·intro V S W5 HI
     have hbx:(cbox 39 g7 j cur 5 1 ((e.data.length+b.length)) ((Lib.byteCells e.data++Lib.byteCells b))).holds (V 17) W5 (S 17):=HI.get 17 (by decide) (by rfl)
     have hmod:OnlyP g7 W4 W5:=HI.mod.undrew
     have hlt9:=HI.lt 17
     have hlv:Rc.Live [(13,5),(15,13),(17,18),(17,15)] (fun i=>i<19) 17:=⟨by decide,fun k _ hk=>by have:=List.all_eq_true.1 (show [(13,5),(15,13),(17,18),(17,15)].all (fun x=>x.2 != 17)=true from by rfl) _ hk;simp at this⟩
     obtain ⟨_,x9,hk9,ho9,hs9⟩:=hbx
     have hx9:W5.ownsRow W4.heap.size 5 1 x9 ((e.data.length+b.length)) ((Lib.byteCells e.data++Lib.byteCells b)):=own_up ho9 fun b hb=>((hlt9 b hlv (hs9 b hb)).2).resolve_left fun e=>by have h3:=(Tm.oB ho9 hb).2.2;obtain ⟨cs3,h3⟩:=h3;exact absurd e (h3.ne_ hk9 (by decide))
     clear hlt9 hlv ho9 hs9 HI
     simp only [Rg.putList,Act.put,List.setIfInBounds_toArray,List.set_cons_zero,List.set_cons_succ,Nat.zero_add,Nat.reduceAdd]
     have hend:=HEND.out W5 _ hmod hk9 hx9
     obtain ⟨D5,hl5⟩:=hend
     have HL5:=Lib.hid hl5
     clear hl5 hmod hk9 hx9 HEND HRX HPB HRB4 HCUR HCK HL4 HSZ4
     have hjn:j<t.length:=by omega
     have hj5:(t.set j { e with data:=e.data++b })[j]?=some { e with data:=e.data++b }:=List.getElem?_set_self hjn
     have hlen:(t.set j { e with data:=e.data++b }).length=t.length:=List.length_set
     have HL5b:Hid (Left p (t.set j { e with data:=e.data++b }) (RS p (.slice (some ⟨g0,0,none⟩) t.length c0) ev D) w1 W5 (.slice (some ⟨g,0,none⟩) (t.set j { e with data:=e.data++b }).length c2) (.slice (some ⟨g7,0,none⟩) t.length c7) ev D5):=by rw [hlen];exact HL5.out
     have cA:W5.cell? ⟨p,0,none⟩=some (.slice (some ⟨g,0,none⟩) t.length c2):=HL5.out.ra.in_.box.cell 0
     have cB:W5.cell? ⟨p,1,none⟩=some (.slice (some ⟨g7,0,none⟩) t.length c7):=HL5.out.ra.in_.box.cell 1
     obtain ⟨x9,c9,m1⟩:∃ (x9:Option Addr) (c9:Nat),W5.cell? ⟨g7,j,none⟩=some (.slice x9 (e.data++b).length c9):=by
      obtain ⟨g9,x9,c9,⟨cd9,hdv9⟩,m1,_⟩:=HL5.out.ra.datacell hj5
      injection hdv9 with e1 _ _
      injection e1 with e1
      injection e1 with e1
      subst e1
      exact ⟨x9,c9,m1⟩
     obtain ⟨ln,hln⟩:∃ ln,ln=(e.data++b).length:=⟨_,rfl⟩
     have m2:W5.cell? ⟨g7,j,none⟩=some (.slice x9 ln c9):=by rw [hln];exact m1
     have f9:W5.frozen? ⟨g,j*6+3,none⟩=false:=(HL5b.out.ra.ndcell hj5 3 (by omega)).2
     have n9:W5.cell? ⟨g,j*6+3,none⟩=some (.int .i64 e.nd.size):=(HL5b.out.ra.ndcell hj5 3 (by omega)).1
     have HLD:Hid (Left p (t.set j { e with data:=e.data++b }) (RS p (.slice (some ⟨g0,0,none⟩) t.length c0) ev D) w1 W5.drew (.slice (some ⟨g,0,none⟩) (t.set j { e with data:=e.data++b }).length c2) (.slice (some ⟨g7,0,none⟩) t.length c7) ev D5):=HL5b.out.later (undrewR (Below.refl _ _))
     have HLN:=Lib.hid hln
     clear HL5 HL5b hj5 hlen m1 hln
     go_upto_region 11 with (fail)
     go_still_tail 15,(by kernel_rfl)
     change wpList _ _ _ _ _ W5.drew
     have f8:W5.drew.frozen? ⟨g,j*6+3,none⟩=false:=f9
     have n8:W5.drew.cell? ⟨g,j*6+3,none⟩=some (.int .i64 e.nd.size):=n9
     generalize W5.drew=W6 at *
     have hj6:(t.set j { e with data:=e.data++b })[j]?=some { e with data:=e.data++b }:=List.getElem?_set_self hjn
     have hlf:=HLD.out.then (HLD.out.ra.poke (e':={ e with data:=e.data++b,nd:={ e.nd with size:=(ln:Nat) } }) (u:=.int .i64 (ln:Nat)) hj6 (f:=3) (by omega) rfl rfl rfl rfl)
     rw [List.set_set] at hlf
     have HE:Hid (RTurn p (t.set j { e with data:=e.data++b,nd:={ e.nd with size:=((e.data++b).length:Nat) } }) (.int .i64 0) (RS p (.slice (some ⟨g0,0,none⟩) t.length c0) ev D) w1 (.returned (.int .i64 0)) (W6.setCell ⟨g,j*6+3,none⟩ (.int .i64 (ln:Nat)))):=by
      have:=hlf.turn (x:=.int .i64 0)
      rw [show ln=_ from HLN.out] at this ⊢
      exact this
     clear hlf HLD hj6
     go_wp2_with fail
     go_ret
     have hend:=HE.out
     simp only [List.length_append,Int.natCast_add] at hend
     exact hend
end Rf
end Go.Proofs.YtjoedamiilgajaaGreat
