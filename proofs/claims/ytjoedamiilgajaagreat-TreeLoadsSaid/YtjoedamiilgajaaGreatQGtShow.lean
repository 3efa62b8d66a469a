/-
  OWN WORK. The program's tree: what Names' closure is shown.
-/
import Derived.Test.YtjoedamiilgajaaGreatQ13
import Derived.Test.YtjoedamiilgajaaGreatQMsRows
import Derived.Test.YtjoedamiilgajaaGreatQ03
set_option maxHeartbeats 4000000
namespace Go.Proofs.YtjoedamiilgajaaGreat
open Go.RowKit Rc
open Tr (Nm En T)
namespace Gt
/-! A list of rows in a box, in a region that draws. -/
def cont (v:Value) (L:List (List Bs)):Rc.Fact:=⟨fun _ w S=>Ms.LOwn 0 Ms.noOld v L S w,fun _ _ _ _ h hs hb=>h.keep hs hb⟩
def bx (lb:Nat) (v:Value):Rc.Fact:=⟨fun _ w S=>Blk w lb 27 [v]∧S lb,fun _ _ _ _ h _ hb=>⟨(hb lb h.2).trans h.1,h.2⟩⟩
def bxL (lb:Nat) (L:List (List Bs)):Rc.Fact:=⟨fun _ w S=>S lb∧∃ x S',Blk w lb 27 [x]∧Ms.LOwn 0 Ms.noOld x L S' w∧(∀ b,S' b→S b)∧¬ S' lb,fun _ _ _ _ h hs hb=>by
 obtain ⟨h1,x,S',h2,h3,h4,h5⟩:=h
 exact ⟨h1,x,S',(hb lb h1).trans h2,h3.keep hs fun b h=>hb b (h4 b h),h4,h5⟩⟩
section
variable {F:Nat→Rc.Fact} {cons:List (Nat × Nat)} {E:Nat→(Nat→Value)→Value→Prop} {V:Nat→Value} {S:Nat→Nat→Prop} {j:Nat} {o:Oper} {b:Act} {w:World}
theorem step_lload {n0:Nat} (L:List (List Bs)) (v:Value) (hF:F j=Ms.lrow L) (h0:(j,n0) ∈ cons) (hc:(cont v L).holds (V n0) w (S n0)) (hlt:∀ b,S n0 b→b<w.heap.size) (hE:∀ v,E j V v) (hg:Rg.Open o V) (hrun:(execOp b.eval o).run Tryz.prog w=.ok (.value v) w):Rg.Dz Tryz.prog o V b w (Rc.Good F cons E V S j w):=by
 refine .of hg fun K hK=>?_
 unfold Oper.wp
 rw [hrun]
 exact hK _ _ ⟨S n0,Mod.refl _ _,by rw [hF];exact hc,fun b hb=>⟨.inl ⟨n0,h0,hb⟩,hlt b hb⟩,hE _⟩
theorem step_lput {lb n0 r:Nat} (L:List (List Bs)) (v x:Value) (hV:V r=x) (hF:F j=bxL lb L) (h0:(j,n0) ∈ cons) (hr:(j,r) ∈ cons) (hb0:(bx lb v).holds (V n0) w (S n0)) (h1:(Ms.lrow L).holds (V r) w (S r)) (hsep:∀ b,S r b→¬ S n0 b)
    (hlt:∀ b,S r b→b<w.heap.size) (hE:∀ v,E j V v) (hg:Rg.Open o V) (h:(execOp b.eval o).run Tryz.prog w=.ok .skip (w.setCell ⟨lb,0,none⟩ x)):Rg.Dz Tryz.prog o V b w (Rc.Good F cons E V S j w):=by
 subst hV
 obtain ⟨hb,hSg⟩:=hb0
 refine .of hg fun K hK=>?_
 unfold Oper.wp
 rw [h]
 have hne:∀ b,S r b→b≠lb:=fun b h1 e=>hsep b h1 (e ▸ hSg)
 refine hK undef (w.setCell ⟨lb,0,none⟩ (V r)) ⟨fun b=>b=lb∨S r b,⟨rfl,rfl,rfl,by simp [World.setCell],fun m hm hn=>Below.heap_setCell _ _ _ _ (fun e=>hn ⟨n0,h0,e ▸ hSg⟩)⟩,?_,fun m hm=>?_,hE _⟩
 ·rw [hF]
  exact ⟨.inl rfl,V r,S r,hb.set_ 0 (V r),h1.keep (by simp [World.setCell]) fun b hb2=>Below.heap_setCell _ _ _ _ (hne b hb2),fun b hb2=>.inr hb2,fun h2=>hne lb h2 rfl⟩
 ·rcases hm with rfl|hm
  ·exact ⟨.inl ⟨n0,h0,hSg⟩,by have:=hb.lt;simpa [World.setCell] using this⟩
  ·exact ⟨.inl ⟨r,hr,hm⟩,by have:=hlt m hm;simpa [World.setCell] using this⟩
end
theorem two_inv {lb n:Nat} {v:Value} {L:List (List Bs)} {S0:Nat→Prop} {w:World} (hb:Blk w lb 27 [v]) (hL:Ms.LOwn 0 Ms.noOld v L S0 w) (hlt:∀ b,S0 b→b<w.heap.size) (hn:¬ S0 lb) (F:Nat→Rc.Fact) (cons:List (Nat × Nat)) (hF:F n=cont v L) (hF2:F (n+1)=bx lb v) :
    Rc.Inv F cons (Rg.alias []) w.drew (fun b=>b=lb∨S0 b) (fun i=>n≤i∧i<n+2) (fun _=>undef) (fun i b=>(i=n∧S0 b)∨(i=n+1∧b=lb)) w.drew:=by
 refine ⟨Mod.refl _ _,fun i hi=>?_,fun i b hi hb2=>?_,fun i k b hi hk hne h1 h2=>?_,fun j _=>fun i f hm=>by simp at hm⟩
 ·rcases (show i=n∨i=n+1 by have:=hi.1;omega) with rfl|rfl
  ·rw [hF];exact (hL.mono (Nat.le_refl _) (fun _ _ h=>h) fun b h=>.inl ⟨rfl,h⟩).keep (Nat.le_refl _) fun _ _=>rfl
  ·rw [hF2];exact ⟨hb,.inr ⟨rfl,rfl⟩⟩
 ·rcases hb2 with ⟨_,h⟩|⟨_,rfl⟩
  ·exact ⟨hlt b h,.inl (.inr h)⟩
  ·exact ⟨hb.lt,.inl (.inl rfl)⟩
 ·rcases h1 with ⟨h3,h4⟩|⟨h3,h4⟩ <;> rcases h2 with ⟨h5,h6⟩|⟨h5,h6⟩
  ·omega
  ·exact hn (h6 ▸ h4)
  ·exact hn (h4 ▸ h6)
  ·omega
theorem clone_out {w:World} {A:Option Addr} {x:List Bs} {cap:Nat} (hr:RdS w A x) (hx:x.length≤68719476736) :
    Calls Tryz.prog 91 #[.slice A x.length cap] w (Ms.HOut x w):=by
 refine (cloneS_any w A x cap hr hx).mono ?_
 rintro e w' ⟨v,rfl,hT⟩
 obtain ⟨X,c,rfl,hc,hrd⟩:=hT.form
 refine ⟨_,rfl,⟨X,c,rfl,hc,hrd,fun b hb=>?_⟩,hT.later⟩
 obtain ⟨_,h2⟩:=hT.1
 rcases h2 with ⟨h3,_⟩|⟨g,cap2,cur,h3,h4,h5,_⟩
 ·injection h3 with h3;subst h3;cases hb
 ·injection h3 with h3
  subst h3
  injection hb with hb
  subst hb
  exact ⟨h4,(Array.getElem?_eq_some_iff.1 h5).1⟩
def Grown (lb:Nat) (L:List (List Bs)) (S0:Nat→Prop) (w w':World):Prop :=
 ∃ x S',Blk w' lb 27 [x]∧Ms.LOwn 0 Ms.noOld x L S' w'∧¬ S' lb∧(∀ b,S' b→(S0 b∨w.heap.size≤b)∧b<w'.heap.size)∧Mod w w' (fun b=>b=lb∨S0 b)
set_option maxRecDepth 100000 in
theorem names1_yes (w:World) (lb idb g:Nat) (i:Int) (v:Value) (L:List (List Bs)) (S0:Nat→Prop) (A:Option Addr) (q:List Bs) (cap:Nat) (hid:w.cell? ⟨idb,0,none⟩=some (.int .i64 i)) (hbx:Blk w lb 27 [v]) (hL:Ms.LOwn 0 Ms.noOld v L S0 w) (hlt:∀ b,S0 b→b<w.heap.size) (hn:¬ S0 lb) (hLn:L.length≤100000000)
    (hr:RdS w A q) (hc:q.length≤cap) (hq:q.length≤1000) (hA:∀ b,0<q.length→A.map (·.block)=some b→b≠lb∧¬ S0 b) (hg:w.cell? ⟨g,0,none⟩=some (.int .i64 i)) :
    Calls Tryz.prog 90 #[.slice A q.length cap,.pointer (some ⟨g,0,none⟩),.pointer (some ⟨idb,0,none⟩),.pointer (some ⟨lb,0,none⟩)] w fun r w'=>r=.returned (.tuple #[])∧Grown lb (L++[q]) S0 w w':=by
 have hb:(i==i)=true:=by simp
 have HBX:=Lib.hid hbx
 have HLO:=Lib.hid hL
 have HLT:=Lib.hid hlt
 have HNS:=Lib.hid hn
 have HRD:Hid (∀ W,Mod w W (fun b=>b=lb∨S0 b)→RdS W A q):=by
  show ∀ W,_→_
  intro W hW h0
  exact Ms.RdS.keep hr (fun p hp hA2=>World.cell?_of_block (hW.block p.block hp (fun h=>by
   have:=hA p.block h0 hA2
   exact h.elim this.1 this.2))) hW.size h0
 clear hr hA hbx hL hlt hn
 go_enter Tryz.func90,Tryz.ntmps90
 go_wp2_with fail
 go_quiet (fail)
 go_upto_region 1 with (fail)
 refine Rc.wp_region (by kernel_rfl) (fun opn=>List.getD [Ms.lrow L,Rc.val (.slice A q.length cap),Ms.trow q,Ms.lrow [q],Ms.lrow (L++[q]),bxL lb (L++[q]),cont v L,bx lb v] opn Rc.any) 2 [] [[],[],[(1,14)],[(2,15)],[(0,13),(3,16)],[(4,17)]] [[],[],[1],[2],[0,3],[0,4]] [[6,7],[],[1],[2],[0,3],[4,7]] [(0,6),(3,2),(4,0),(4,3),(5,4),(5,7)] (by kernel_rfl) (by rfl) (by kernel_rfl) (fun b=>b=lb∨S0 b) (fun i b=>(i=6∧S0 b)∨(i=7∧b=lb)) (two_inv (w:=w.drewN nq) HBX.out HLO.out HLT.out HNS.out _ _ rfl rfl) ?_ ?_
 ·intro fr ha
  have hz:fr.tmps.size=18:=by rw [ha];rfl
  have y0:fr.eval (.tmp 0)=.slice A q.length cap:=by rw [ha];rfl
  have y3:fr.eval (.tmp 3)=.pointer (some ⟨lb,0,none⟩):=by rw [ha];rfl
  clear ha
  refine .cons ?_ (.cons ?_ (.cons ?_ (.cons ?_ (.cons ?_ (.cons ?_ .nil)))))
  ·intro V S NW HM HU HE
   have tb3:=(Rg.uE V fr 3 [] (by rw [hz];decide)).trans y3
   show Rg.Dz _ _ V (Rg.pU V [] fr) NW _
   have hbk:(bx lb v).holds (V 7) NW (S 7):=HU.holds 7 (by decide)
   have cl:=hbk.1.cell 0
   exact step_lload (n0:=6) L v rfl (by decide) (HU.holds 6 (by decide)) (HU.lt 6 (by decide)) (fun x=>Rg.aN rfl V x) True.intro (by simp only [execOp,tb3];go_simp)
  ·intro V S NW HM HU HE
   have tb0:=(Rg.uE V fr 0 [] (by rw [hz];decide)).trans y0
   show Rg.Dz _ _ V (Rg.pU V [] fr) NW _
   exact Ob.rc_mv (.slice A q.length cap) (by simp only [execOp,tb0];go_simp) rfl rfl True.intro
  ·intro V S NW HM HU HE
   have HM:Mod (w.drewN nq) NW (fun b=>b=lb∨S0 b):=HM
   have h1:V 1=_:=HU.holds 1 (by decide)
   have tb14:=(Rg.uE V fr 14 [(1,14)] (by rw [hz];decide)).trans h1
   show Rg.Dz _ _ V (Rg.pU V [(1,14)] fr) NW _
   exact Ms.step_hcall q #[.slice A q.length cap] (fun args w=>Rg.call_enter Tryz.func91 (by kernel_rfl) (by kernel_rfl) args w) rfl (by simp only [List.map_toArray,List.map_cons,List.map_nil,tb14]) rfl (fun x=>Rg.aN rfl V x) True.intro (clone_out (HRD.out NW ⟨HM.os,HM.tape,HM.output,HM.size,HM.block⟩) (by omega))
  ·intro V S NW HM HU HE
   obtain ⟨X2,k2,e2,hc2,hr2,hX2⟩:=HU.holds 2 (by decide)
   have tb15:=(Rg.uE V fr 15 [(2,15)] (by rw [hz];decide)).trans e2
   show Rg.Dz _ _ V (Rg.pU V [(2,15)] fr) NW _
   exact Ms.step_lone (i:=2) q rfl tb15 rfl (by decide) hc2 hr2 hX2 (HU.lt 2 (by decide)) (fun x=>Rg.aN rfl V x) True.intro
  ·intro V S NW HM HU HE
   have tb13:=(Rg.uE V fr 13 [(0,13),(3,16)] (by rw [hz];decide)).trans rfl
   have tb16:=(Rg.uE V fr 16 [(0,13),(3,16)] (by rw [hz];decide)).trans rfl
   show Rg.Dz _ _ V (Rg.pU V [(0,13),(3,16)] fr) NW _
   exact Ms.step_lapp (i:=0) (k:=3) L [q] (L++[q]) rfl rfl tb13 tb16 rfl (by decide) (by decide) (HU.holds 0 (by decide)) (HU.holds 3 (by decide)) (HU.sep 0 (by decide) 3 (by decide) (by decide)) (HU.lt 0 (by decide)) (HU.lt 3 (by decide)) (by simp) (by simp;omega) (fun x=>Rg.aN rfl V x) True.intro
  ·intro V S NW HM HU HE
   have tb17:=(Rg.uE V fr 17 [(4,17)] (by rw [hz];decide)).trans rfl
   have tb3:=(Rg.uE V fr 3 [(4,17)] (by rw [hz];decide)).trans y3
   show Rg.Dz _ _ V (Rg.pU V [(4,17)] fr) NW _
   have hbk:(bx lb v).holds (V 7) NW (S 7):=HU.holds 7 (by decide)
   have cl:=hbk.1.cell 0
   have fl:=hbk.1.frozen 0
   have h4:(Ms.lrow (L++[q])).holds (V 4) NW (S 4):=HU.holds 4 (by decide)
   obtain ⟨A9,c9,e9,_⟩:=Ms.LOwn.rd h4 (fun _ _ h=>h.elim)
   have tb17b:=tb17.trans e9
   exact step_lput (n0:=7) (r:=4) (L++[q]) v _ e9 rfl (by decide) (by decide) hbk h4 (HU.sep 4 (by decide) 7 (by decide) (by decide)) (HU.lt 4 (by decide)) (fun x=>Rg.aN rfl V x) True.intro (by simp only [execOp,tb17b,tb3];go_simp)
 ·intro V S w2 HI
  have hbx:(bxL lb (L++[q])).holds (V 5) w2 (S 5):=HI.get 5 (by decide) (by rfl)
  have hmod:Mod w w2 (fun b=>b=lb∨S0 b):=by
   have:=HI.mod
   exact ⟨this.os,this.tape,this.output,this.size,this.block⟩
  have hlt9:=HI.lt 5
  have hlv:Rc.Live [(0,6),(3,2),(4,0),(4,3),(5,4),(5,7)] (fun i=>i<8) 5:=⟨by decide,fun k _ hk=>by revert hk;decide +revert⟩
  obtain ⟨_,x,S',h2,h3,h4,h5⟩:=hbx
  have HG:Hid (Grown lb (L++[q]) S0 w w2):=⟨x,S',h2,h3,h5,fun b hb2=>by
   have h6:=hlt9 b hlv (h4 b hb2)
   refine ⟨?_,h6.1⟩
   rcases h6.2 with (h7|h7)|h7
   ·exact absurd (h7 ▸ hb2) h5
   ·exact .inl h7
   ·exact .inr h7,hmod⟩
  clear hlt9 hlv h2 h3 h4 h5 hmod HI
  simp only [Rg.putList,Act.put,List.setIfInBounds_toArray,List.set_cons_zero,List.set_cons_succ,Nat.zero_add,Nat.reduceAdd]
  go_wp2_with fail
  refine bodyPost_end (results_none rfl _ _ _) rfl ?_
  exact ⟨rfl,HG.out⟩
set_option maxRecDepth 100000 in
theorem names1_no (w:World) (lb idb g:Nat) (i k:Int) (A:Option Addr) (l cap:Nat) (hid:w.cell? ⟨idb,0,none⟩=some (.int .i64 i)) (hg:w.cell? ⟨g,0,none⟩=some (.int .i64 k)) (hk:k≠i) :
    Calls Tryz.prog 90 #[.slice A l cap,.pointer (some ⟨g,0,none⟩),.pointer (some ⟨idb,0,none⟩),.pointer (some ⟨lb,0,none⟩)] w fun r w'=>r=.returned (.tuple #[])∧Below w.heap.size w w':=by
 have hb:(k==i)=false:=by simpa using hk
 clear hk
 go_enter Tryz.func90,Tryz.ntmps90
 go_wp2_with fail
 go_quiet (fail)
 go_wp2_with fail
 refine bodyPost_end (results_none rfl _ _ _) rfl ?_
 exact ⟨rfl,⟨rfl,rfl,rfl,Nat.le_refl _,fun _ _=>rfl⟩⟩
end Gt
end Go.Proofs.YtjoedamiilgajaaGreat
