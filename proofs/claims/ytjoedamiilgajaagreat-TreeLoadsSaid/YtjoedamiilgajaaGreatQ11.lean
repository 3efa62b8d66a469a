/-
  OWN WORK. RfMake
-/
import Derived.Test.YtjoedamiilgajaaGreatQ10
import Derived.Test.YtjoedamiilgajaaGreatQ08
namespace Go.Proofs.YtjoedamiilgajaaGreat
open Go.RowKit Rc
open Tr (Nm En T)
namespace Rf
variable {p:Nat} {nv dv ev nv2 dv2 ev2:Value} {D D2:Nat→Prop} {t t':T} {w w1 w2:World}
def freshC (F:Nat) (kind:Int):List Value:=[.int .i64 (F:Nat),.int .i64 kind,.int .i64 1,.int .i64 0,.int .u64 0,.bool (kind==2)]
def nilC:List Value:=[.slice none 0 0]
theorem free_spec (hG:Tr.Good t):∃ F:Nat,Tr.free t=(F:Int)∧1≤F∧F≤t.length∧(∀ e ∈ t,e.nd.id≠(F:Int))∧(∀ j:Nat,j<F→∃ e,t[j]?=some e∧e.nd.id=(j:Int))∧(∀ j:Nat,F≤j→∀ e,t[j]?=some e→(F:Int)<e.nd.id):=by
 obtain ⟨k,h1,h2,h3,h4,h5⟩:=Tr.freeFrom_spec t hG.ris 0 (fun e he=>(hG.each e he).nd.1)
 have h0:Tr.free t=(k:Int):=by unfold Tr.free;rw [h1];omega
 refine ⟨k,h0,?_,h2,fun e he=>by have:=h3 e he;omega,fun j hj=>?_,fun j hj e he=>by have:=h5 j hj e he;omega⟩
 ·obtain ⟨r,rest,hr,hr0,_⟩:=hG.root
  rcases Nat.eq_zero_or_pos k with hk|hk
  ·subst hk
   exact absurd (by rw [hr0];rfl) (h3 r (by rw [hr];exact .head _))
  ·exact hk
 ·have:=h4 j hj
  obtain ⟨e,he,hid⟩:=Option.map_eq_some_iff.1 this
  exact ⟨e,he,by rw [hid];omega⟩
set_option maxHeartbeats 4000000 in
set_option maxRecDepth 100000 in
theorem make_any (h:RA p nv dv ev D t w) (hG:Tr.Good t) (A:Option Addr) (q:List Bs) (cap:Nat) (kind:Int) (hr:RdS w A q) (hc:q.length≤cap) (hl:q.length≤1000000) (hs:∀ s ∈ q,s.length≤1000000) :
    Calls Tryz.prog 10 #[.pointer (some ⟨p,0,none⟩),.slice A q.length cap,.int .i64 kind] w (RTurn p (Tr.make t q kind).2 (.tuple #[.int .i64 (Tr.make t q kind).1.1,.int .i64 ((Tr.make t q kind).1.2:Nat)]) (RS p nv ev D) w):=by
 have HS:Hid (∀ x W,Below w.heap.size w W→RTurn p t x (RS p nv ev D) w (.returned x) W):=fun x W hW=>RTurn.stay h hW
 have H1:=Lib.hid (right_any w A q cap hr hl hs)
 obtain ⟨d,x,m,hpl⟩:∃ d x m,Tr.place t q=(d,x,m):=⟨_,_,_,rfl⟩
 have h4:=place_any h hG A q cap hr hc hl
 rw [hpl] at h4
 have H4:=Lib.hid h4
 have H5:Hid (∀ W,Below w.heap.size w W→Calls Tryz.prog 54 #[.pointer (some ⟨p,0,none⟩),.int .i64 d,.string (strOf x)] W fun e w'=>e=.returned (.int .i64 (idxE (Tr.flat t) d x))∧w'=W):=fun W hW=>entry_any (h.below hW).in_ d x (by have:=hG.flat_le;omega)
 obtain ⟨F,f1,f2,f3,f4,f5,f6⟩:=free_spec hG
 have H6:Hid (∀ (W:World) (k:Nat),Below w.heap.size w W→Calls Tryz.prog 55 #[.pointer (some ⟨p,0,none⟩),.int .i64 (k:Nat)] W fun e w'=>e=.returned (.int .i64 (idx t (k:Nat)))∧w'=W):=fun W k hW=>at_any (h.below hW).in_ (k:Nat) (by have:=hG.few;omega)
 have HIX:Hid (∀ k:Nat,k<F→∃ j:Nat,idx t (k:Nat)=(j:Int)):=fun k hk=>by
  obtain ⟨e,he,hid⟩:=f5 k hk
  exact ⟨k,idx_ris hG.ris he hid⟩
 have HIF:Hid (idx t (F:Nat)=-1):=idx_no f4
 have hmake:Tr.make t q kind=if Tr.formed q≠0 then ((0,Tr.formed q),t) else if kind≠1∧kind≠2 then ((0,30),t) else if m≠0 then ((0,m),t) else if (Tr.get (Tr.kids t d) x).isSome then ((0,21),t) else if 64≤t.length then ((0,4),t) else (((F:Int),0),Tr.put (Tr.insE t (Tr.fresh (F:Int) kind)) d x (F:Int)):=by
  unfold Tr.make
  rw [hpl,f1]
 have hT1:Tr.insE t (Tr.fresh (F:Int) kind)=t.take F++Tr.fresh (F:Int) kind :: t.drop F:=by
  refine insE_take f3 (fun e he=>?_) (fun e he=>?_)
  ·obtain ⟨k,hk,hke⟩:=List.mem_take_iff_getElem.1 he
   obtain ⟨e2,he2,hid⟩:=f5 k (by omega)
   have h7:=(List.getElem?_eq_some_iff.1 he2).2
   rw [hke] at h7
   show e.nd.id<(F:Int)
   rw [h7,hid];omega
  ·have:=f6 F (Nat.le_refl _) e he
   show ¬ e.nd.id<(F:Int)
   omega
 have hr1:Tr.Ris (Tr.insE t (Tr.fresh (F:Int) kind)):=Tr.insE_ris hG.ris f4
 have hfl1:Tr.flat (Tr.insE t (Tr.fresh (F:Int) kind))=Tr.flat t:=flat_insE t _ rfl
 have HADD:Hid (m=0→∀ W nv2 dv2 ev2 D2,RA p nv2 dv2 ev2 D2 (Tr.insE t (Tr.fresh (F:Int) kind)) W→Calls Tryz.prog 56 #[.pointer (some ⟨p,0,none⟩),.int .i64 d,.string (strOf x),.int .i64 (F:Nat)] W (RTurn p (Tr.put (Tr.insE t (Tr.fresh (F:Int) kind)) d x (F:Int)) (.tuple #[]) (RS p nv2 ev2 D2) W)):=fun hm W nv2 dv2 ev2 D2 hW=>by
  subst hm
  obtain ⟨en,k1,_,_⟩:=placed_find hG hpl
  have hfd:Tr.find (Tr.insE t (Tr.fresh (F:Int) kind)) d=some en:=by
   rw [Tr.find_insE hG.ris f4,if_neg,k1]
   intro e
   have:=f4 en (Tr.find_some k1).1
   rw [(Tr.find_some k1).2] at this
   exact this e
  exact add_any hW d x (F:Int) (by rw [hfl1];have:=hG.flat_le;omega) (flat_put_is hr1 hfd x (F:Int)) (put_maps _ d x _).1 (put_maps _ d x _).2
 obtain ⟨xs,hOd,hdc,_⟩:=RIn.dc h.in_.data
 rw [List.length_map] at hOd
 obtain ⟨n,hnl⟩:∃ n,n=t.length:=⟨_,rfl⟩
 have hlen:(Tr.insE t (Tr.fresh (F:Int) kind)).length=F+1+(n-F):=by rw [Tr.insE_length];omega
 have HEND:Hid (∀ W,Below w.heap.size w W→∀ w3 nv' dv',OnlyP p W w3→Blk w3 p 84 [nv',dv',ev]→w3.ownsRow W.heap.size 59 6 nv' (F+1+(n-F)) ((ndCells (t.take F)++freshC F kind)++ndCells (t.drop F))→w3.ownsRow W.heap.size 39 1 dv' (F+1+(n-F)) ((xs.take F++nilC)++xs.drop F)→∃ D3,Left p (Tr.insE t (Tr.fresh (F:Int) kind)) (RS p nv ev D) w w3 nv' dv' ev D3):=fun W hW w3 nv' dv' hm hb hon ho=>by
  refine ⟨_,(h.left.later hW).then ((h.below hW).both (t':=Tr.insE t (Tr.fresh (F:Int) kind)) hm hb ?_ (xs:=(xs.take F++nilC)++xs.drop F) ?_ ?_ hfl1)⟩
  ·rw [hlen,hT1]
   have e1:ndCells (t.take F++Tr.fresh (F:Int) kind :: t.drop F)=(ndCells (t.take F)++freshC F kind)++ndCells (t.drop F):=by
    rw [ndCells_app,List.append_assoc];rfl
   rw [e1];exact hon
  ·rw [hlen];exact ho
  ·rw [hT1,List.map_append,List.map_cons,List.map_take,List.map_drop]
   have e2:(t.map (·.data)).take F++(Tr.fresh (F:Int) kind).data :: (t.map (·.data)).drop F=((t.map (·.data)).take F++[[]])++(t.map (·.data)).drop F:=by rw [List.append_assoc];rfl
   rw [e2]
   exact (((hdc.below hW).take F).app (DC.nil1 _ _)).app ((hdc.below hW).drop F)
 have hdp:dv.ownBlock≠some p:=fun e=>by
  obtain ⟨_,_,cs,h1⟩:=Tm.oB hOd e
  exact absurd rfl (h1.ne_ h.in_.box (by decide))
 obtain ⟨A1,c,hnv,hnc,_⟩:=srcs h.in_.nodes h.np.1
 obtain ⟨A2,c2,hdv,hnc2,_⟩:=srcs hOd hdp
 rw [← hnl] at hnv hnc hdv hnc2 hOd
 have hSN:∀ W,Below w.heap.size w W→∀ W2,OnlyP p W W2→Src W2 A1 (ndCells t)∧∀ k,k<n→Src W2 (cutR A1 k 6 c) ((ndCells t).drop (k*6)):=fun W hW W2 hW2=>by
  obtain ⟨A3,c3,he,_,h3⟩:=srcs (h.below hW).in_.nodes h.np.1
  rw [hnv,← hnl] at he
  injection he with e1 _ e2
  subst e1 e2
  rw [← hnl] at h3
  exact h3 W2 hW2
 have HHD:Hid (∀ W,Below w.heap.size w W→∀ W2,OnlyP p W W2→Src W2 A1 (ndCells (t.take F))):=fun W hW W2 hW2=>by
  rw [← ndCells_take]
  exact (hSN W hW W2 hW2).1.head _
 have HTL:Hid (∀ W,Below w.heap.size w W→∀ W2,OnlyP p W W2→Src W2 (cutR A1 F 6 c) (ndCells (t.drop F))):=fun W hW W2 hW2=>by
  by_cases hjl:F<n
  ·rw [← ndCells_drop]
   exact (hSN W hW W2 hW2).2 F hjl
  ·rw [List.drop_eq_nil_of_le (by omega)]
   exact Src.nil _ _
 have hSD:∀ W,Below w.heap.size w W→∀ W1,OnlyP p W W1→∀ W2,OnlyP p W1 W2→Src W2 A2 xs∧∀ k,k<n→Src W2 (cutR A2 k 1 c2) (xs.drop (k*1)):=fun W hW W1 hW1 W2 hW2=>by
  have ho1:W1.ownsRow 0 39 1 dv n xs:=Tm.own_keep hOd fun b hb=>by
   have hbl:=(Tm.oB hOd hb).2.1
   exact (hW1.block b (Nat.lt_of_lt_of_le hbl hW.size) fun e=>hdp (e ▸ hb)).trans (hW.block b hbl)
  obtain ⟨A3,c3,he,_,h3⟩:=srcs ho1 hdp
  rw [hdv] at he
  injection he with e1 _ e2
  subst e1 e2
  exact h3 W2 hW2
 have HHD2:Hid (∀ W,Below w.heap.size w W→∀ W1,OnlyP p W W1→∀ W2,OnlyP p W1 W2→Src W2 A2 (xs.take F)):=fun W hW W1 hW1 W2 hW2=>(hSD W hW W1 hW1 W2 hW2).1.head _
 have HTL2:Hid (∀ W,Below w.heap.size w W→∀ W1,OnlyP p W W1→∀ W2,OnlyP p W1 W2→Src W2 (cutR A2 F 1 c2) (xs.drop F)):=fun W hW W1 hW1 W2 hW2=>by
  by_cases hjl:F<n
  ·have:=(hSD W hW W1 hW1 W2 hW2).2 F hjl
   rw [Nat.mul_one] at this
   exact this
  ·rw [List.drop_eq_nil_of_le (by have:=hdc.1;rw [List.length_map] at this;omega)]
   exact Src.nil _ _
 have hxl:xs.length=n:=by have:=hdc.1;rw [List.length_map] at this;omega
 have HL1:Hid ((ndCells (t.take F)).length=F*6):=by show _=_;rw [ndCells_length,List.length_take,Nat.min_eq_left f3]
 have HL2:Hid ((ndCells (t.drop F)).length=(n-F)*6):=by show _=_;rw [ndCells_length,List.length_drop,hnl]
 have HM1:Hid ((xs.take F).length=F*1):=by show _=_;rw [List.length_take,Nat.min_eq_left (by omega)];omega
 have HM2:Hid ((xs.drop F).length=(n-F)*1):=by show _=_;rw [List.length_drop,hxl];omega
 have HD1:Hid (∀ u ∈ xs.take F,u.oneCell'=true):=fun u hu=>hdc.one u (List.mem_of_mem_take hu)
 have HD2:Hid (∀ u ∈ xs.drop F,u.oneCell'=true):=fun u hu=>hdc.one u (List.mem_of_mem_drop hu)
 have hrunh:=fun W=>run_head nodeTy W A1 n c F (by omega)
 have hrunt:=fun W=>run_tail nodeTy W A1 n c F (by omega)
 have hrunh2:=fun W=>run_head bytesTy W A2 n c2 F (by omega)
 have hrunt2:=fun W=>run_tail bytesTy W A2 n c2 F (by omega)
 have HRH:=Lib.hid hrunh
 have HRT:=Lib.hid hrunt
 have HRH2:=Lib.hid hrunh2
 have HRT2:=Lib.hid hrunt2
 have HBX:Hid (∀ W,Below w.heap.size w W→Blk W p 84 [nv,dv,ev]):=fun W hW=>(h.below hW).in_.box
 obtain ⟨g1,rfl⟩:∃ g1,A1=some ⟨g1,0,none⟩:=by
  obtain ⟨A3,c3,he,_,h3⟩:=Tm.oF h.in_.nodes
  obtain ⟨g,hg,_⟩:=h3 (by omega)
  rw [hnv] at he
  injection he with e1 _ _
  exact ⟨g,by rw [e1,hg]⟩
 have HID:Hid (∀ W,Below w.heap.size w W→∀ k e,t[k]?=some e→W.cell? ⟨g1,k*6,none⟩=some (.int .i64 e.nd.id)):=fun W hW k e hk=>by
  have hra:=h.below hW
  rw [hnv,hnl] at hra
  exact (hra.ndcell hk 0 (by omega)).1
 have HFE:=Lib.hid f5
 have HFL:=Lib.hid f6
 have HFI:=Lib.hid (flat_idx hG d x)
 have HMK:=Lib.hid hmake
 rw [← hnl] at HMK
 have hnf:F≤n:=by omega
 have hn64:n≤64:=by have:=hG.few;omega
 have HLE:Hid (F≤5000000∧F+1+(n-F)≤5000001):=⟨by omega,by omega⟩
 obtain ⟨f,hfo⟩:∃ f,f=Tr.formed q:=⟨_,rfl⟩
 rw [← hfo] at H1 HMK
 subst hnv hdv
 have hNL:=Lib.hid hnl
 clear h hG hr hc hl hs hpl h4 f1 f3 f4 f5 f6 hmake hT1 hr1 hfl1 hOd hdc hlen hdp hnc hnc2 hSN hSD hxl hrunh hrunt hrunh2 hrunt2 hfo hnl
 go_enter Tryz.func10,Tryz.ntmps10
 go_wp2_with fail
 refine H1.out.mono ?_
 rintro e w1 ⟨rfl,rfl⟩
 by_cases hf:f=0
 case neg =>
  have hfb:((f:Int) != 0)=true:=by rw [bne_iff_ne];omega
  have HN:Hid (Tr.make t q kind=((0,f),t)):=by
   have:=HMK.out
   rw [if_pos hf] at this
   exact this
  clear hf HMK
  go_wp2_with fail
  go_ret2
  rw [HN.out]
  exact HS.out _ _ (Below.refl _ _)
 subst hf
 rw [if_neg (by simp)] at HMK
 by_cases hk:kind≠1∧kind≠2
 ·have HN:Hid (Tr.make t q kind=((0,30),t)):=by
   have:=HMK.out
   rw [if_pos hk] at this
   exact this
  have hk1:(kind != 1)=true:=by rw [bne_iff_ne];exact hk.1
  have hk2:(kind != 2)=true:=by rw [bne_iff_ne];exact hk.2
  clear hk HMK
  go_wp2_with fail
  go_ret2
  rw [HN.out]
  exact HS.out _ _ (Below.refl _ _)
 rw [if_neg hk] at HMK
 have hk12:kind=1∨kind=2:=by omega
 clear hk
 have hkb:(kind != 1)=false∨((kind != 1)=true∧(kind != 2)=false):=by
  rcases hk12 with rfl|rfl
  ·exact .inl rfl
  ·exact .inr ⟨rfl,rfl⟩
 clear hk12 H1
 rcases hkb with hka|⟨hka,hkb⟩
 all_goals
  go_wp2_with fail
  refine H4.out.mono ?_
  rintro e w2 ⟨rfl,hb2⟩
  have HB2:=Lib.hid hb2
  clear hb2 H4
  by_cases hm:m=0
  case neg =>
   have hmb:((m:Int) != 0)=true:=by rw [bne_iff_ne];omega
   have HN:Hid (Tr.make t q kind=((0,m),t)):=by
    have:=HMK.out
    rw [if_pos hm] at this
    exact this
   clear hm HMK
   go_wp2_with fail
   go_ret2
   rw [HN.out]
   exact HS.out _ _ HB2.out
  subst hm
  rw [if_neg (by simp)] at HMK
  have H5a:=Lib.hid (H5.out _ HB2.out)
  rcases HFI.out with ⟨k1,k2⟩|⟨k,j,k1,k2,_,_⟩
  case inr =>
   have HN:Hid (Tr.make t q kind=((0,21),t)):=by
    have:=HMK.out
    rw [k1,if_pos (show (Option.some k).isSome=true from rfl)] at this
    exact this
   rw [k2] at H5a
   have hj0:(0:Int)≤(j:Int):=by omega
   clear k1 k2 HMK
   go_wp2_with fail
   refine H5a.out.mono ?_
   rintro e w6 ⟨rfl,rfl⟩
   go_wp2_with fail
   go_ret2
   rw [HN.out]
   exact HS.out _ _ HB2.out
  rw [k2] at H5a
  rw [k1,if_neg (by simp)] at HMK
  clear k1 k2 H5 HFI
  have cp0:w2.cell? ⟨p,0,none⟩=some (.slice (some ⟨g1,0,none⟩) n c):=(HBX.out _ HB2.out).cell 0
  by_cases h64:64≤n
  ·have h64i:(64:Int)≤(n:Int):=by omega
   have HN:Hid (Tr.make t q kind=((0,4),t)):=by
    have:=HMK.out
    rw [if_pos h64] at this
    exact this
   clear HMK h64
   go_wp2_with fail
   refine H5a.out.mono ?_
   rintro e w6 ⟨rfl,rfl⟩
   go_wp2_with fail
   go_ret2
   rw [HN.out]
   exact HS.out _ _ HB2.out
  have h64i:¬ (64:Int)≤(n:Int):=by omega
  have HN:Hid (Tr.make t q kind=(((F:Int),0),Tr.put (Tr.insE t (Tr.fresh (F:Int) kind)) d x (F:Int))):=by
   have:=HMK.out
   rw [if_neg h64] at this
   exact this
  have HADD0:Hid _:=HADD.out (by first|rfl|trivial)
  clear HMK h64 HADD
  go_wp2_with fail
  refine H5a.out.mono ?_
  rintro e w6 ⟨rfl,rfl⟩
  go_upto_region 13 with (fail)
  clear H5a
  go_upto_block 0 with (fail)
  go_cut [11] (fun t11 wx=>t11=.int .i64 (F:Nat)∧w6=wx)
  case first =>
   go_wp2_with fail
   go_loopw [11] (fun t11 wr=>∃ k:Nat,t11=.int .i64 k∧1≤k∧k≤F∧w6=wr) (fun t11 _=>F-(match t11 with|.int _ k=>k.toNat|_=>0))
   case atStart=>exact ⟨1,rfl,Nat.le_refl _,f2,rfl⟩
   case round =>
    obtain ⟨k,rfl,hk1,hkF,rfl⟩:=hrel
    have H6a:=Lib.hid (H6.out w6 k HB2.out)
    by_cases hkf:k<F
    ·obtain ⟨j,hj⟩:=HIX.out k hkf
     rw [hj] at H6a
     have hj0:(0:Int)≤(j:Int):=by omega
     clear hj
     go_wp2_with fail
     refine H6a.out.mono ?_
     rintro e w7 ⟨rfl,rfl⟩
     go_wp2_with fail
     go_roundw
     case rel=>exact ⟨k+1,by go_num,by omega,by omega,by first|rfl|trivial⟩
     case measure=>simp;omega
    ·obtain rfl:k=F:=by omega
     rw [show idx t (k:Nat)=-1 from HIF.out] at H6a
     clear hkf
     go_wp2_with fail
     refine H6a.out.mono ?_
     rintro e w7 ⟨rfl,rfl⟩
     go_wp2_with fail
     go_meet
     case rel=>exact ⟨rfl,rfl⟩
  case rest =>
  obtain ⟨rfl,rfl⟩:=hcut
  go_upto_block 2 with (fail)
  go_cut [12] (fun t12 wx=>t12=.int .i64 (F:Nat)∧w6=wx)
  case first =>
   go_wp2_with fail
   go_loopw [12] (fun t12 wr=>∃ k:Nat,t12=.int .i64 k∧k≤F∧w6=wr) (fun t12 _=>F-(match t12 with|.int _ k=>k.toNat|_=>0))
   case atStart=>exact ⟨0,rfl,Nat.zero_le _,rfl⟩
   case round =>
    obtain ⟨k,rfl,hkF,rfl⟩:=hrel
    by_cases hkf:k<F
    ·obtain ⟨e,he,hid⟩:=HFE.out k hkf
     have d0:w6.cell? ⟨g1,k*6,none⟩=some (.int .i64 (k:Nat)):=by rw [← hid];exact HID.out w6 HB2.out k e he
     have hlt1:(k:Int)<(n:Int):=by omega
     have hlt2:(k:Int)<(F:Int):=by omega
     clear he hid
     go_wp2_with fail
     go_roundw
     case rel=>exact ⟨k+1,by go_num,by omega,by first|rfl|trivial⟩
     case measure=>simp;omega
    ·obtain rfl:k=F:=by omega
     by_cases hkn:k<n
     ·obtain ⟨e,he⟩:∃ e,t[k]?=some e:=⟨_,List.getElem?_eq_getElem (by have:=hNL.out;omega)⟩
      have hgt:=HFL.out k (Nat.le_refl _) e he
      have d0:=HID.out w6 HB2.out k e he
      obtain ⟨ei,hei⟩:∃ ei,ei=e.nd.id:=⟨_,rfl⟩
      rw [← hei] at hgt d0
      have hlt1:(k:Int)<(n:Int):=by omega
      have hlt2:¬ ei<(k:Int):=by omega
      clear he hei hkf
      go_wp2_with fail
      go_meet
      case rel=>exact ⟨rfl,rfl⟩
     ·have hlt1:¬ (k:Int)<(n:Int):=by omega
      clear hkf hkn
      go_wp2_with fail
      go_meet
      case rel=>exact ⟨rfl,rfl⟩
  case rest =>
  obtain ⟨rfl,rfl⟩:=hcut
  have HBX6:=Lib.hid (HBX.out _ HB2.out)
  have hrunh:=HRH.out
  have hrunt:=HRT.out
  have hrunh2:=HRH2.out
  have hrunt2:=HRT2.out
  clear cp0
  go_upto_region 19 with (fail)
  refine Rc.wp_region (by kernel_rfl) (fun opn=>List.getD [Rc.val (.pointer (some ⟨p,0,none⟩)),crow 59 6 (0) ([]),Rc.val (.pointer (some ⟨p,0,none⟩)),Rc.val (.pointer (some ⟨p,0,none⟩)),Rc.val (.pointer (some ⟨p,0,none⟩)),Rc.val (.slice (some ⟨g1,0,none⟩) n c),Rc.val (.int .i64 (F:Nat)),Rc.val (.slice (some ⟨g1,0,none⟩) F c),crow 59 6 (F) (ndCells (t.take F)),Rc.val (.int .i64 (F:Nat)),Rc.val (.int .i64 kind),Rc.val (.int .i64 kind),Rc.val (.bool (kind==2)),Rc.val (.agg #[.int .i64 (F:Nat),.int .i64 kind,.int .i64 1,.int .i64 0,.int .u64 0,.bool (kind==2)]),crow 59 6 (1) (freshC F kind),crow 59 6 ((F+1)) ((ndCells (t.take F)++freshC F kind)),Rc.val (.pointer (some ⟨p,0,none⟩)),Rc.val (.pointer (some ⟨p,0,none⟩)),Rc.val (.pointer (some ⟨p,0,none⟩)),Rc.val (.slice (some ⟨g1,0,none⟩) n c),Rc.val (.int .i64 (F:Nat)),Rc.val (.slice (cutR (some ⟨g1,0,none⟩) F 6 c) (n-F) (c-F)),crow 59 6 ((F+1+(n-F))) (((ndCells (t.take F)++freshC F kind)++ndCells (t.drop F))),Rc.val (.pointer (some ⟨p,0,none⟩)),Rc.val (.pointer (some ⟨p,0,none⟩)),cbox 84 p 0 [(.slice (some ⟨g1,0,none⟩) n c),(.slice A2 n c2),ev] 59 6 ((F+1+(n-F))) (((ndCells (t.take F)++freshC F kind)++ndCells (t.drop F))),cobj 84 p [(.slice (some ⟨g1,0,none⟩) n c),(.slice A2 n c2),ev]] opn Rc.any) 1 [] [[],[],[],[(2,74)],[(3,75)],[(4,76)],[],[(5,77),(6,78)],[(1,73),(7,79)],[],[],[],[(11,83)],[(9,81),(10,82),(12,84)],[(13,85)],[(8,80),(14,86)],[],[(16,88)],[(17,89)],[(18,90)],[],[(19,91),(20,92)],[(15,87),(21,93)],[(0,72)],[(23,95)],[(24,96),(22,94)]] [[],[],[],[2],[3],[4],[],[5,6],[1,7],[],[],[],[11],[9,10,12],[13],[8,14],[],[16],[17],[18],[],[19,20],[15,21],[0],[23],[5,19,22,24]] [[],[],[],[2],[3],[4,26],[],[5,6],[1,7],[],[],[],[11],[9,10,12],[13],[8,14],[],[16],[17],[18,26],[],[19,20],[15,21],[0],[23],[24,22,26]] [(8,1),(15,8),(22,15),(25,26),(25,22)] (by kernel_rfl) (by rfl) (by kernel_rfl) (fun b=>b=p) (fun _ b=>b=p) (box_inv HBX6.out _ _ 26 rfl) ?_ ?_
  ·intro fr ha
   have hz:fr.tmps.size=123:=by rw [ha];rfl
   have y0:fr.eval (.tmp 0)=.pointer (some ⟨p,0,none⟩):=by rw [ha];rfl
   have y2:fr.eval (.tmp 2)=.int .i64 kind:=by rw [ha];rfl
   have y11:fr.eval (.tmp 11)=.int .i64 (F:Nat):=by rw [ha];rfl
   have y12:fr.eval (.tmp 12)=.int .i64 (F:Nat):=by rw [ha];rfl
   clear ha
   refine .cons ?_ (.cons ?_ (.cons ?_ (.cons ?_ (.cons ?_ (.cons ?_ (.cons ?_ (.cons ?_ (.cons ?_ (.cons ?_ (.cons ?_ (.cons ?_ (.cons ?_ (.cons ?_ (.cons ?_ (.cons ?_ (.cons ?_ (.cons ?_ (.cons ?_ (.cons ?_ (.cons ?_ (.cons ?_ (.cons ?_ (.cons ?_ (.cons ?_ (.cons ?_ (.nil))))))))))))))))))))))))))
   ·intro V S w7 HM HU HE
    have tb0:=(Rg.uE V fr 0 [] (by rw [hz];decide)).trans y0
    show Rg.Dz _ _ V (Rg.pU V [] fr) w7 _
    exact Ob.rc_mv (.pointer (some ⟨p,0,none⟩)) (by simp only [execOp,tb0];go_simp) rfl rfl True.intro
   ·intro V S w7 HM HU HE
    show Rg.Dz _ _ V (Rg.pU V [] fr) w7 _
    exact step_cnil 59 6 rfl (fun x=>Rg.aN rfl V x) True.intro (by simp only [execOp,List.map_toArray,List.map_nil];go_simp)
   ·intro V S w7 HM HU HE
    have tb0:=(Rg.uE V fr 0 [] (by rw [hz];decide)).trans y0
    show Rg.Dz _ _ V (Rg.pU V [] fr) w7 _
    exact Ob.rc_mv (.pointer (some ⟨p,0,none⟩)) (by simp only [execOp,tb0];go_simp) rfl rfl True.intro
   ·intro V S w7 HM HU HE
    have h2:V 2=_:=HU.holds 2 (by decide)
    have tb74:=(Rg.uE V fr 74 [(2,74)] (by rw [hz];decide)).trans h2
    show Rg.Dz _ _ V (Rg.pU V [(2,74)] fr) w7 _
    exact Ob.rc_mv (.pointer (some ⟨p,0,none⟩)) (by simp only [execOp,tb74];go_simp) rfl rfl True.intro
   ·intro V S w7 HM HU HE
    have h3:V 3=_:=HU.holds 3 (by decide)
    have tb75:=(Rg.uE V fr 75 [(3,75)] (by rw [hz];decide)).trans h3
    show Rg.Dz _ _ V (Rg.pU V [(3,75)] fr) w7 _
    exact Ob.rc_mv (.pointer (some ⟨p,0,none⟩)) (by simp only [execOp,tb75];go_simp) rfl rfl True.intro
   ·intro V S w7 HM HU HE
    have h4:V 4=_:=HU.holds 4 (by decide)
    have tb76:=(Rg.uE V fr 76 [(4,76)] (by rw [hz];decide)).trans h4
    show Rg.Dz _ _ V (Rg.pU V [(4,76)] fr) w7 _
    have hbk:(cobj 84 p [(.slice (some ⟨g1,0,none⟩) n c),(.slice A2 n c2),ev]).holds (V 26) w7 (S 26):=HU.holds 26 (by decide)
    have cl:=hbk.1.cell 0
    exact Ob.rc_mv (.slice (some ⟨g1,0,none⟩) n c) (by simp only [execOp,tb76];go_simp) rfl rfl True.intro
   ·intro V S w7 HM HU HE
    have tb12:=(Rg.uE V fr 12 [] (by rw [hz];decide)).trans y12
    show Rg.Dz _ _ V (Rg.pU V [] fr) w7 _
    exact Ob.rc_mv (.int .i64 (F:Nat)) (by simp only [execOp,tb12];go_simp) rfl rfl True.intro
   ·intro V S w7 HM HU HE
    have h5:V 5=_:=HU.holds 5 (by decide)
    have tb77:=(Rg.uE V fr 77 [(5,77),(6,78)] (by rw [hz];decide)).trans h5
    have h6:V 6=_:=HU.holds 6 (by decide)
    have tb78:=(Rg.uE V fr 78 [(5,77),(6,78)] (by rw [hz];decide)).trans h6
    show Rg.Dz _ _ V (Rg.pU V [(5,77),(6,78)] fr) w7 _
    exact Ob.rc_slh rfl tb77 tb78 (hrunh w7) rfl rfl True.intro
   ·intro V S w7 HM HU HE
    have HM:Mod w6 w7 (fun b=>b=p):=HM
    have tb73:=(Rg.uE V fr 73 [(1,73),(7,79)] (by rw [hz];decide)).trans rfl
    have h7:V 7=_:=HU.holds 7 (by decide)
    have tb79:=(Rg.uE V fr 79 [(1,73),(7,79)] (by rw [hz];decide)).trans h7
    show Rg.Dz _ _ V (Rg.pU V [(1,73),(7,79)] fr) w7 _
    exact step_capp nodeTy (i:=1) (n:=0) (m:=F) (xs:=[]) (ys:=ndCells (t.take F)) rfl tb73 tb79 rfl (by decide) (HU.holds 1 (by decide)) (HHD.out w6 HB2.out w7 HM) (HL1.out) (ndCells_one _) (by have:=HLE.out;omega) (by omega) (rfl) (fun x=>Rg.aN rfl V x) True.intro
   ·intro V S w7 HM HU HE
    have tb11:=(Rg.uE V fr 11 [] (by rw [hz];decide)).trans y11
    show Rg.Dz _ _ V (Rg.pU V [] fr) w7 _
    exact Ob.rc_mv (.int .i64 (F:Nat)) (by simp only [execOp,tb11];go_simp) rfl rfl True.intro
   ·intro V S w7 HM HU HE
    have tb2:=(Rg.uE V fr 2 [] (by rw [hz];decide)).trans y2
    show Rg.Dz _ _ V (Rg.pU V [] fr) w7 _
    exact Ob.rc_mv (.int .i64 kind) (by simp only [execOp,tb2];go_simp) rfl rfl True.intro
   ·intro V S w7 HM HU HE
    have tb2:=(Rg.uE V fr 2 [] (by rw [hz];decide)).trans y2
    show Rg.Dz _ _ V (Rg.pU V [] fr) w7 _
    exact Ob.rc_mv (.int .i64 kind) (by simp only [execOp,tb2];go_simp) rfl rfl True.intro
   ·intro V S w7 HM HU HE
    have h11:V 11=_:=HU.holds 11 (by decide)
    have tb83:=(Rg.uE V fr 83 [(11,83)] (by rw [hz];decide)).trans h11
    show Rg.Dz _ _ V (Rg.pU V [(11,83)] fr) w7 _
    exact Ob.rc_mv (.bool (kind==2)) (by simp only [execOp,tb83];go_simp) rfl rfl True.intro
   ·intro V S w7 HM HU HE
    have h9:V 9=_:=HU.holds 9 (by decide)
    have tb81:=(Rg.uE V fr 81 [(9,81),(10,82),(12,84)] (by rw [hz];decide)).trans h9
    have h10:V 10=_:=HU.holds 10 (by decide)
    have tb82:=(Rg.uE V fr 82 [(9,81),(10,82),(12,84)] (by rw [hz];decide)).trans h10
    have h12:V 12=_:=HU.holds 12 (by decide)
    have tb84:=(Rg.uE V fr 84 [(9,81),(10,82),(12,84)] (by rw [hz];decide)).trans h12
    show Rg.Dz _ _ V (Rg.pU V [(9,81),(10,82),(12,84)] fr) w7 _
    exact Ob.rc_mv (.agg #[.int .i64 (F:Nat),.int .i64 kind,.int .i64 1,.int .i64 0,.int .u64 0,.bool (kind==2)]) (by simp only [execOp,List.map_toArray,List.map_cons,List.map_nil,tb81,tb82,tb84];go_simp) rfl rfl True.intro
   ·intro V S w7 HM HU HE
    have h13:V 13=_:=HU.holds 13 (by decide)
    have tb85:=(Rg.uE V fr 85 [(13,85)] (by rw [hz];decide)).trans h13
    show Rg.Dz _ _ V (Rg.pU V [(13,85)] fr) w7 _
    exact step_cone 59 6 (freshC F kind) rfl rfl (fun x=>Rg.aN rfl V x) True.intro (by simp only [execOp,List.map_toArray,List.map_cons,List.map_nil,tb85];go_simp;try rfl)
   ·intro V S w7 HM HU HE
    have tb80:=(Rg.uE V fr 80 [(8,80),(14,86)] (by rw [hz];decide)).trans rfl
    have tb86:=(Rg.uE V fr 86 [(8,80),(14,86)] (by rw [hz];decide)).trans rfl
    show Rg.Dz _ _ V (Rg.pU V [(8,80),(14,86)] fr) w7 _
    exact step_capp2 nodeTy (i:=8) (i2:=14) (n:=F) (m:=1) (xs:=ndCells (t.take F)) (ys:=freshC F kind) rfl tb80 tb86 rfl (by decide) (HU.holds 8 (by decide)) (HU.holds 14 (by decide)) (ndCells_one [Tr.fresh (F:Int) kind]) (by have:=HLE.out;omega) (rfl) (rfl) (fun x=>Rg.aN rfl V x) True.intro
   ·intro V S w7 HM HU HE
    have tb0:=(Rg.uE V fr 0 [] (by rw [hz];decide)).trans y0
    show Rg.Dz _ _ V (Rg.pU V [] fr) w7 _
    exact Ob.rc_mv (.pointer (some ⟨p,0,none⟩)) (by simp only [execOp,tb0];go_simp) rfl rfl True.intro
   ·intro V S w7 HM HU HE
    have h16:V 16=_:=HU.holds 16 (by decide)
    have tb88:=(Rg.uE V fr 88 [(16,88)] (by rw [hz];decide)).trans h16
    show Rg.Dz _ _ V (Rg.pU V [(16,88)] fr) w7 _
    exact Ob.rc_mv (.pointer (some ⟨p,0,none⟩)) (by simp only [execOp,tb88];go_simp) rfl rfl True.intro
   ·intro V S w7 HM HU HE
    have h17:V 17=_:=HU.holds 17 (by decide)
    have tb89:=(Rg.uE V fr 89 [(17,89)] (by rw [hz];decide)).trans h17
    show Rg.Dz _ _ V (Rg.pU V [(17,89)] fr) w7 _
    exact Ob.rc_mv (.pointer (some ⟨p,0,none⟩)) (by simp only [execOp,tb89];go_simp) rfl rfl True.intro
   ·intro V S w7 HM HU HE
    have h18:V 18=_:=HU.holds 18 (by decide)
    have tb90:=(Rg.uE V fr 90 [(18,90)] (by rw [hz];decide)).trans h18
    show Rg.Dz _ _ V (Rg.pU V [(18,90)] fr) w7 _
    have hbk:(cobj 84 p [(.slice (some ⟨g1,0,none⟩) n c),(.slice A2 n c2),ev]).holds (V 26) w7 (S 26):=HU.holds 26 (by decide)
    have cl:=hbk.1.cell 0
    exact Ob.rc_mv (.slice (some ⟨g1,0,none⟩) n c) (by simp only [execOp,tb90];go_simp) rfl rfl True.intro
   ·intro V S w7 HM HU HE
    have tb12:=(Rg.uE V fr 12 [] (by rw [hz];decide)).trans y12
    show Rg.Dz _ _ V (Rg.pU V [] fr) w7 _
    exact Ob.rc_mv (.int .i64 (F:Nat)) (by simp only [execOp,tb12];go_simp) rfl rfl True.intro
   ·intro V S w7 HM HU HE
    have h19:V 19=_:=HU.holds 19 (by decide)
    have tb91:=(Rg.uE V fr 91 [(19,91),(20,92)] (by rw [hz];decide)).trans h19
    have h20:V 20=_:=HU.holds 20 (by decide)
    have tb92:=(Rg.uE V fr 92 [(19,91),(20,92)] (by rw [hz];decide)).trans h20
    show Rg.Dz _ _ V (Rg.pU V [(19,91),(20,92)] fr) w7 _
    exact Ob.rc_sll rfl tb91 tb92 (hrunt w7) rfl rfl True.intro
   ·intro V S w7 HM HU HE
    have HM:Mod w6 w7 (fun b=>b=p):=HM
    have tb87:=(Rg.uE V fr 87 [(15,87),(21,93)] (by rw [hz];decide)).trans rfl
    have h21:V 21=_:=HU.holds 21 (by decide)
    have tb93:=(Rg.uE V fr 93 [(15,87),(21,93)] (by rw [hz];decide)).trans h21
    show Rg.Dz _ _ V (Rg.pU V [(15,87),(21,93)] fr) w7 _
    exact step_capp nodeTy (i:=15) (n:=(F+1)) (m:=(n-F)) (xs:=(ndCells (t.take F)++freshC F kind)) (ys:=ndCells (t.drop F)) rfl tb87 tb93 rfl (by decide) (HU.holds 15 (by decide)) (HTL.out w6 HB2.out w7 HM) (HL2.out) (ndCells_one _) (by have:=HLE.out;omega) (rfl) (rfl) (fun x=>Rg.aN rfl V x) True.intro
   ·intro V S w7 HM HU HE
    have h0:V 0=_:=HU.holds 0 (by decide)
    have tb72:=(Rg.uE V fr 72 [(0,72)] (by rw [hz];decide)).trans h0
    show Rg.Dz _ _ V (Rg.pU V [(0,72)] fr) w7 _
    exact Ob.rc_mv (.pointer (some ⟨p,0,none⟩)) (by simp only [execOp,tb72];go_simp) rfl rfl True.intro
   ·intro V S w7 HM HU HE
    have h23:V 23=_:=HU.holds 23 (by decide)
    have tb95:=(Rg.uE V fr 95 [(23,95)] (by rw [hz];decide)).trans h23
    show Rg.Dz _ _ V (Rg.pU V [(23,95)] fr) w7 _
    exact Ob.rc_mv (.pointer (some ⟨p,0,none⟩)) (by simp only [execOp,tb95];go_simp) rfl rfl True.intro
   ·intro V S w7 HM HU HE
    have h24:V 24=_:=HU.holds 24 (by decide)
    have tb96:=(Rg.uE V fr 96 [(24,96),(22,94)] (by rw [hz];decide)).trans h24
    have hc22:(crow 59 6 ((F+1+(n-F))) (((ndCells (t.take F)++freshC F kind)++ndCells (t.drop F)))).holds (V 22) w7 (S 22):=HU.holds 22 (by decide)
    obtain ⟨A9,c9,e9,_⟩:=Tm.oF hc22.1
    have tb94:=(Rg.uE V fr 94 [(24,96),(22,94)] (by rw [hz];decide)).trans e9
    show Rg.Dz _ _ V (Rg.pU V [(24,96),(22,94)] fr) w7 _
    have hbk:(cobj 84 p [(.slice (some ⟨g1,0,none⟩) n c),(.slice A2 n c2),ev]).holds (V 26) w7 (S 26):=HU.holds 26 (by decide)
    have cl:=hbk.1.cell 0
    have fl:=hbk.1.frozen 0
    exact step_cput (i:=0) (cs:=[(.slice (some ⟨g1,0,none⟩) n c),(.slice A2 n c2),ev]) _ e9 rfl (by decide) (by decide) hbk hc22 (by decide) (HU.lt 22 (by decide)) (fun x=>Rg.aN rfl V x) True.intro (by simp only [execOp,tb96,tb94];go_simp)
  ·intro V S w7 HI
   have hbx:(cbox 84 p 0 [(.slice (some ⟨g1,0,none⟩) n c),(.slice A2 n c2),ev] 59 6 ((F+1+(n-F))) (((ndCells (t.take F)++freshC F kind)++ndCells (t.drop F)))).holds (V 25) w7 (S 25):=HI.get 25 (by decide) (by rfl)
   have hmod:OnlyP p w6 w7:=HI.mod.undrew
   have hlt9:=HI.lt 25
   have hlv:Rc.Live [(8,1),(15,8),(22,15),(25,26),(25,22)] (fun i=>i<27) 25:=⟨by decide,fun k _ hk=>by have:=List.all_eq_true.1 (show [(8,1),(15,8),(22,15),(25,26),(25,22)].all (fun x=>x.2 != 25)=true from by rfl) _ hk;simp at this⟩
   obtain ⟨_,x9,hk9,ho9,hs9⟩:=hbx
   have hx9:w7.ownsRow w6.heap.size 59 6 x9 ((F+1+(n-F))) (((ndCells (t.take F)++freshC F kind)++ndCells (t.drop F))):=own_up ho9 fun b hb=>((hlt9 b hlv (hs9 b hb)).2).resolve_left fun e=>by have h3:=(Tm.oB ho9 hb).2.2;obtain ⟨cs3,h3⟩:=h3;exact absurd e (h3.ne_ hk9 (by decide))
   clear hlt9 hlv ho9 hs9 HI
   simp only [Rg.putList,Act.put,List.setIfInBounds_toArray,List.set_cons_zero,List.set_cons_succ,Nat.zero_add,Nat.reduceAdd]
   have HX:=Lib.hid hx9
   have HK:=Lib.hid hk9
   have HM9:=Lib.hid hmod
   clear hx9 hk9 hmod hrunh hrunt
   go_upto_region 20 with (fail)
   refine Rc.wp_region (by kernel_rfl) (fun opn=>List.getD [Rc.val (.pointer (some ⟨p,0,none⟩)),crow 39 1 (0) ([]),Rc.val (.pointer (some ⟨p,0,none⟩)),Rc.val (.pointer (some ⟨p,0,none⟩)),Rc.val (.pointer (some ⟨p,1,none⟩)),Rc.val (.slice A2 n c2),Rc.val (.int .i64 (F:Nat)),Rc.val (.slice A2 F c2),crow 39 1 (F) (xs.take F),crow 39 1 (1) (nilC),crow 39 1 ((F+1)) ((xs.take F++nilC)),Rc.val (.pointer (some ⟨p,0,none⟩)),Rc.val (.pointer (some ⟨p,0,none⟩)),Rc.val (.pointer (some ⟨p,1,none⟩)),Rc.val (.slice A2 n c2),Rc.val (.int .i64 (F:Nat)),Rc.val (.slice (cutR A2 F 1 c2) (n-F) (c2-F)),crow 39 1 ((F+1+(n-F))) (((xs.take F++nilC)++xs.drop F)),Rc.val (.pointer (some ⟨p,0,none⟩)),Rc.val (.pointer (some ⟨p,1,none⟩)),cbox 84 p 1 [x9,(.slice A2 n c2),ev] 39 1 ((F+1+(n-F))) (((xs.take F++nilC)++xs.drop F)),cobj 84 p [x9,(.slice A2 n c2),ev]] opn Rc.any) 1 [] [[],[],[],[(2,99)],[(3,100)],[(4,101)],[],[(5,102),(6,103)],[(1,98),(7,104)],[],[(8,105),(9,106)],[],[(11,108)],[(12,109)],[(13,110)],[],[(14,111),(15,112)],[(10,107),(16,113)],[(0,97)],[(18,115)],[(19,116),(17,114)]] [[],[],[],[2],[3],[4],[],[5,6],[1,7],[],[8,9],[],[11],[12],[13],[],[14,15],[10,16],[0],[18],[5,14,17,19]] [[],[],[],[2],[3],[4,21],[],[5,6],[1,7],[],[8,9],[],[11],[12],[13,21],[],[14,15],[10,16],[0],[18],[19,17,21]] [(8,1),(10,8),(17,10),(20,21),(20,17)] (by kernel_rfl) (by rfl) (by kernel_rfl) (fun b=>b=p) (fun _ b=>b=p) (box_inv HK.out _ _ 21 rfl) ?_ ?_
   ·intro fr ha
    have hz:fr.tmps.size=123:=by rw [ha];rfl
    have y0:fr.eval (.tmp 0)=.pointer (some ⟨p,0,none⟩):=by rw [ha];rfl
    have y12:fr.eval (.tmp 12)=.int .i64 (F:Nat):=by rw [ha];rfl
    clear ha
    refine .cons ?_ (.cons ?_ (.cons ?_ (.cons ?_ (.cons ?_ (.cons ?_ (.cons ?_ (.cons ?_ (.cons ?_ (.cons ?_ (.cons ?_ (.cons ?_ (.cons ?_ (.cons ?_ (.cons ?_ (.cons ?_ (.cons ?_ (.cons ?_ (.cons ?_ (.cons ?_ (.cons ?_ (.nil)))))))))))))))))))))
    ·intro V S w8 HM HU HE
     have tb0:=(Rg.uE V fr 0 [] (by rw [hz];decide)).trans y0
     show Rg.Dz _ _ V (Rg.pU V [] fr) w8 _
     exact Ob.rc_mv (.pointer (some ⟨p,0,none⟩)) (by simp only [execOp,tb0];go_simp) rfl rfl True.intro
    ·intro V S w8 HM HU HE
     show Rg.Dz _ _ V (Rg.pU V [] fr) w8 _
     exact step_cnil 39 1 rfl (fun x=>Rg.aN rfl V x) True.intro (by simp only [execOp,List.map_toArray,List.map_nil];go_simp)
    ·intro V S w8 HM HU HE
     have tb0:=(Rg.uE V fr 0 [] (by rw [hz];decide)).trans y0
     show Rg.Dz _ _ V (Rg.pU V [] fr) w8 _
     exact Ob.rc_mv (.pointer (some ⟨p,0,none⟩)) (by simp only [execOp,tb0];go_simp) rfl rfl True.intro
    ·intro V S w8 HM HU HE
     have h2:V 2=_:=HU.holds 2 (by decide)
     have tb99:=(Rg.uE V fr 99 [(2,99)] (by rw [hz];decide)).trans h2
     show Rg.Dz _ _ V (Rg.pU V [(2,99)] fr) w8 _
     exact Ob.rc_mv (.pointer (some ⟨p,0,none⟩)) (by simp only [execOp,tb99];go_simp) rfl rfl True.intro
    ·intro V S w8 HM HU HE
     have h3:V 3=_:=HU.holds 3 (by decide)
     have tb100:=(Rg.uE V fr 100 [(3,100)] (by rw [hz];decide)).trans h3
     show Rg.Dz _ _ V (Rg.pU V [(3,100)] fr) w8 _
     exact Ob.rc_mv (.pointer (some ⟨p,1,none⟩)) (by simp only [execOp,tb100];go_simp) rfl rfl True.intro
    ·intro V S w8 HM HU HE
     have h4:V 4=_:=HU.holds 4 (by decide)
     have tb101:=(Rg.uE V fr 101 [(4,101)] (by rw [hz];decide)).trans h4
     show Rg.Dz _ _ V (Rg.pU V [(4,101)] fr) w8 _
     have hbk:(cobj 84 p [x9,(.slice A2 n c2),ev]).holds (V 21) w8 (S 21):=HU.holds 21 (by decide)
     have cl:=hbk.1.cell 1
     exact Ob.rc_mv (.slice A2 n c2) (by simp only [execOp,tb101];go_simp) rfl rfl True.intro
    ·intro V S w8 HM HU HE
     have tb12:=(Rg.uE V fr 12 [] (by rw [hz];decide)).trans y12
     show Rg.Dz _ _ V (Rg.pU V [] fr) w8 _
     exact Ob.rc_mv (.int .i64 (F:Nat)) (by simp only [execOp,tb12];go_simp) rfl rfl True.intro
    ·intro V S w8 HM HU HE
     have h5:V 5=_:=HU.holds 5 (by decide)
     have tb102:=(Rg.uE V fr 102 [(5,102),(6,103)] (by rw [hz];decide)).trans h5
     have h6:V 6=_:=HU.holds 6 (by decide)
     have tb103:=(Rg.uE V fr 103 [(5,102),(6,103)] (by rw [hz];decide)).trans h6
     show Rg.Dz _ _ V (Rg.pU V [(5,102),(6,103)] fr) w8 _
     exact Ob.rc_slh rfl tb102 tb103 (hrunh2 w8) rfl rfl True.intro
    ·intro V S w8 HM HU HE
     have HM:Mod w7 w8 (fun b=>b=p):=HM
     have tb98:=(Rg.uE V fr 98 [(1,98),(7,104)] (by rw [hz];decide)).trans rfl
     have h7:V 7=_:=HU.holds 7 (by decide)
     have tb104:=(Rg.uE V fr 104 [(1,98),(7,104)] (by rw [hz];decide)).trans h7
     show Rg.Dz _ _ V (Rg.pU V [(1,98),(7,104)] fr) w8 _
     exact step_capp bytesTy (i:=1) (n:=0) (m:=F) (xs:=[]) (ys:=xs.take F) rfl tb98 tb104 rfl (by decide) (HU.holds 1 (by decide)) (HHD2.out w6 HB2.out w7 HM9.out w8 HM) (HM1.out) (HD1.out) (by have:=HLE.out;omega) (by omega) (rfl) (fun x=>Rg.aN rfl V x) True.intro
    ·intro V S w8 HM HU HE
     show Rg.Dz _ _ V (Rg.pU V [] fr) w8 _
     exact step_cone 39 1 (nilC) rfl rfl (fun x=>Rg.aN rfl V x) True.intro (by simp only [execOp,List.map_toArray,List.map_cons,List.map_nil,];go_simp;try rfl)
    ·intro V S w8 HM HU HE
     have tb105:=(Rg.uE V fr 105 [(8,105),(9,106)] (by rw [hz];decide)).trans rfl
     have tb106:=(Rg.uE V fr 106 [(8,105),(9,106)] (by rw [hz];decide)).trans rfl
     show Rg.Dz _ _ V (Rg.pU V [(8,105),(9,106)] fr) w8 _
     exact step_capp2 bytesTy (i:=8) (i2:=9) (n:=F) (m:=1) (xs:=xs.take F) (ys:=nilC) rfl tb105 tb106 rfl (by decide) (HU.holds 8 (by decide)) (HU.holds 9 (by decide)) ((DC.nil1 w6 (fun _=>True)).one) (by have:=HLE.out;omega) (rfl) (rfl) (fun x=>Rg.aN rfl V x) True.intro
    ·intro V S w8 HM HU HE
     have tb0:=(Rg.uE V fr 0 [] (by rw [hz];decide)).trans y0
     show Rg.Dz _ _ V (Rg.pU V [] fr) w8 _
     exact Ob.rc_mv (.pointer (some ⟨p,0,none⟩)) (by simp only [execOp,tb0];go_simp) rfl rfl True.intro
    ·intro V S w8 HM HU HE
     have h11:V 11=_:=HU.holds 11 (by decide)
     have tb108:=(Rg.uE V fr 108 [(11,108)] (by rw [hz];decide)).trans h11
     show Rg.Dz _ _ V (Rg.pU V [(11,108)] fr) w8 _
     exact Ob.rc_mv (.pointer (some ⟨p,0,none⟩)) (by simp only [execOp,tb108];go_simp) rfl rfl True.intro
    ·intro V S w8 HM HU HE
     have h12:V 12=_:=HU.holds 12 (by decide)
     have tb109:=(Rg.uE V fr 109 [(12,109)] (by rw [hz];decide)).trans h12
     show Rg.Dz _ _ V (Rg.pU V [(12,109)] fr) w8 _
     exact Ob.rc_mv (.pointer (some ⟨p,1,none⟩)) (by simp only [execOp,tb109];go_simp) rfl rfl True.intro
    ·intro V S w8 HM HU HE
     have h13:V 13=_:=HU.holds 13 (by decide)
     have tb110:=(Rg.uE V fr 110 [(13,110)] (by rw [hz];decide)).trans h13
     show Rg.Dz _ _ V (Rg.pU V [(13,110)] fr) w8 _
     have hbk:(cobj 84 p [x9,(.slice A2 n c2),ev]).holds (V 21) w8 (S 21):=HU.holds 21 (by decide)
     have cl:=hbk.1.cell 1
     exact Ob.rc_mv (.slice A2 n c2) (by simp only [execOp,tb110];go_simp) rfl rfl True.intro
    ·intro V S w8 HM HU HE
     have tb12:=(Rg.uE V fr 12 [] (by rw [hz];decide)).trans y12
     show Rg.Dz _ _ V (Rg.pU V [] fr) w8 _
     exact Ob.rc_mv (.int .i64 (F:Nat)) (by simp only [execOp,tb12];go_simp) rfl rfl True.intro
    ·intro V S w8 HM HU HE
     have h14:V 14=_:=HU.holds 14 (by decide)
     have tb111:=(Rg.uE V fr 111 [(14,111),(15,112)] (by rw [hz];decide)).trans h14
     have h15:V 15=_:=HU.holds 15 (by decide)
     have tb112:=(Rg.uE V fr 112 [(14,111),(15,112)] (by rw [hz];decide)).trans h15
     show Rg.Dz _ _ V (Rg.pU V [(14,111),(15,112)] fr) w8 _
     exact Ob.rc_sll rfl tb111 tb112 (hrunt2 w8) rfl rfl True.intro
    ·intro V S w8 HM HU HE
     have HM:Mod w7 w8 (fun b=>b=p):=HM
     have tb107:=(Rg.uE V fr 107 [(10,107),(16,113)] (by rw [hz];decide)).trans rfl
     have h16:V 16=_:=HU.holds 16 (by decide)
     have tb113:=(Rg.uE V fr 113 [(10,107),(16,113)] (by rw [hz];decide)).trans h16
     show Rg.Dz _ _ V (Rg.pU V [(10,107),(16,113)] fr) w8 _
     exact step_capp bytesTy (i:=10) (n:=(F+1)) (m:=(n-F)) (xs:=(xs.take F++nilC)) (ys:=xs.drop F) rfl tb107 tb113 rfl (by decide) (HU.holds 10 (by decide)) (HTL2.out w6 HB2.out w7 HM9.out w8 HM) (HM2.out) (HD2.out) (by have:=HLE.out;omega) (rfl) (rfl) (fun x=>Rg.aN rfl V x) True.intro
    ·intro V S w8 HM HU HE
     have h0:V 0=_:=HU.holds 0 (by decide)
     have tb97:=(Rg.uE V fr 97 [(0,97)] (by rw [hz];decide)).trans h0
     show Rg.Dz _ _ V (Rg.pU V [(0,97)] fr) w8 _
     exact Ob.rc_mv (.pointer (some ⟨p,0,none⟩)) (by simp only [execOp,tb97];go_simp) rfl rfl True.intro
    ·intro V S w8 HM HU HE
     have h18:V 18=_:=HU.holds 18 (by decide)
     have tb115:=(Rg.uE V fr 115 [(18,115)] (by rw [hz];decide)).trans h18
     show Rg.Dz _ _ V (Rg.pU V [(18,115)] fr) w8 _
     exact Ob.rc_mv (.pointer (some ⟨p,1,none⟩)) (by simp only [execOp,tb115];go_simp) rfl rfl True.intro
    ·intro V S w8 HM HU HE
     have h19:V 19=_:=HU.holds 19 (by decide)
     have tb116:=(Rg.uE V fr 116 [(19,116),(17,114)] (by rw [hz];decide)).trans h19
     have hc17:(crow 39 1 ((F+1+(n-F))) (((xs.take F++nilC)++xs.drop F))).holds (V 17) w8 (S 17):=HU.holds 17 (by decide)
     obtain ⟨A9,c9,e9,_⟩:=Tm.oF hc17.1
     have tb114:=(Rg.uE V fr 114 [(19,116),(17,114)] (by rw [hz];decide)).trans e9
     show Rg.Dz _ _ V (Rg.pU V [(19,116),(17,114)] fr) w8 _
     have hbk:(cobj 84 p [x9,(.slice A2 n c2),ev]).holds (V 21) w8 (S 21):=HU.holds 21 (by decide)
     have cl:=hbk.1.cell 1
     have fl:=hbk.1.frozen 1
     exact step_cput (i:=1) (cs:=[x9,(.slice A2 n c2),ev]) _ e9 rfl (by decide) (by decide) hbk hc17 (by decide) (HU.lt 17 (by decide)) (fun x=>Rg.aN rfl V x) True.intro (by simp only [execOp,tb116,tb114];go_simp)
   ·intro V S w8 HI
    have hbx:(cbox 84 p 1 [x9,(.slice A2 n c2),ev] 39 1 ((F+1+(n-F))) (((xs.take F++nilC)++xs.drop F))).holds (V 20) w8 (S 20):=HI.get 20 (by decide) (by rfl)
    have hmod:OnlyP p w7 w8:=HI.mod.undrew
    have hlt9:=HI.lt 20
    have hlv:Rc.Live [(8,1),(10,8),(17,10),(20,21),(20,17)] (fun i=>i<22) 20:=⟨by decide,fun k _ hk=>by have:=List.all_eq_true.1 (show [(8,1),(10,8),(17,10),(20,21),(20,17)].all (fun x=>x.2 != 20)=true from by rfl) _ hk;simp at this⟩
    obtain ⟨_,x10,hk9,ho9,hs9⟩:=hbx
    have hx9:w8.ownsRow w7.heap.size 39 1 x10 ((F+1+(n-F))) (((xs.take F++nilC)++xs.drop F)):=own_up ho9 fun b hb=>((hlt9 b hlv (hs9 b hb)).2).resolve_left fun e=>by have h3:=(Tm.oB ho9 hb).2.2;obtain ⟨cs3,h3⟩:=h3;exact absurd e (h3.ne_ hk9 (by decide))
    clear hlt9 hlv ho9 hs9 HI
    simp only [Rg.putList,Act.put,List.setIfInBounds_toArray,List.set_cons_zero,List.set_cons_succ,Nat.zero_add,Nat.reduceAdd]
    obtain ⟨D3,hl9⟩:=HEND.out w6 HB2.out w8 _ _ (only_trans HM9.out hmod) hk9 (own_only HX.out HK.out.lt hmod (by decide) HK.out) (own_mono hx9 HM9.out.size)
    have HL9:=Lib.hid hl9
    have HA9:=Lib.hid (HADD0.out w8 _ _ _ _ hl9.ra)
    clear hl9 hx9 hk9 hmod hrunh2 hrunt2 HX HK HM9
    go_wp2_with fail
    refine HA9.out.mono ?_
    intro e w9 ht9
    obtain ⟨rfl,nv3,dv3,ev3,D4,hl10⟩:=ht9.left
    have HE:Hid (RTurn p (Tr.put (Tr.insE t (Tr.fresh (F:Int) kind)) d x (F:Int)) (.tuple #[.int .i64 (F:Int),.int .i64 0]) (RS p (.slice (some ⟨g1,0,none⟩) n c) ev D) w1 (.returned (.tuple #[.int .i64 (F:Int),.int .i64 0])) w9):=(HL9.out.then hl10).turn
    clear hl10 ht9
    go_wp2_with fail
    go_ret2
    rw [HN.out]
    exact HE.out
end Rf
end Go.Proofs.YtjoedamiilgajaaGreat
