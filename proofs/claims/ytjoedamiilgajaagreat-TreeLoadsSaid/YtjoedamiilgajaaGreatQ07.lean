/-
  OWN WORK. RfCut, RfLook
-/
import Derived.Test.YtjoedamiilgajaaGreatQ06
import Derived.Deep.CutBlock
set_option maxHeartbeats 2000000
namespace Go.Proofs.YtjoedamiilgajaaGreat
open Go.RowKit Rc
open Tr (Nm En T)
namespace Rf
variable {p:Nat} {nv dv ev:Value} {D:Nat→Prop} {t t':T} {w:World}
theorem srcs {e k n:Nat} {v:Value} {xs:List Value} (ho:w.ownsRow 0 e k v n xs) (hp:v.ownBlock≠some p):∃ A c,v=.slice A n c∧n≤c∧∀ W,OnlyP p w W→Src W A xs∧∀ m,m<n→Src W (cutR A m k c) (xs.drop (m*k)):=by
 obtain ⟨A,c,hv,hnc,hS,hb⟩:=own_src ho
 refine ⟨A,c,hv,hnc,fun W hW=>?_⟩
 have h1:Src W A xs:=hS.keep fun b hb2=>hW.block b (Tm.oB ho (hb b hb2)).2.1 fun e=>hp (e ▸ hb b hb2)
 refine ⟨h1,fun m hm=>?_⟩
 obtain ⟨A0,c0,he0,_,h3⟩:=Tm.oF ho
 obtain ⟨g,hg,_⟩:=h3 (by omega)
 rw [hv] at he0
 injection he0 with e1 _ _
 subst e1 hg
 exact Src.tail h1 m k c n ho.1 hnc
theorem undrewR {b:Nat} {w w':World} (h:Below b w w'):Below b w w'.drew:=⟨h.os,h.tape,h.output,h.size,h.block⟩
theorem only_trans {a b c:World} (h:OnlyP p a b) (k:OnlyP p b c):OnlyP p a c:=Mod.trans h k
theorem own_only {w2 w3:World} {B e k n T:Nat} {v:Value} {xs cs:List Value} (h:w2.ownsRow B e k v n xs) (_hl:p<w2.heap.size) (hm:OnlyP p w2 w3) (hne:e≠T) (hb:Blk w2 p T cs):w3.ownsRow B e k v n xs:=Tm.own_keep h fun b hb2=>by
 obtain ⟨_,h1,cs2,h2⟩:=Tm.oB h hb2
 exact hm.block b h1 (h2.ne_ hb hne)
set_option maxRecDepth 100000 in
theorem cut_any (h:RA p nv dv ev D t w) (j:Nat) (hj:j<(Tr.flat t).length) (hfew:(Tr.flat t).length≤5000000) (hf:Tr.flat t'=(Tr.flat t).take j++(Tr.flat t).drop (j+1)) (hn:t'.map (·.nd)=t.map (·.nd)) (hd:t'.map (·.data)=t.map (·.data)) :
    Calls Tryz.prog 62 #[.pointer (some ⟨p,0,none⟩),.int .i64 (j:Nat)] w (RTurn p t' (.tuple #[]) (RS p nv ev D) w):=by
 have HEND:Hid (∀ w2 ev',OnlyP p w w2→Blk w2 p 84 [nv,dv,ev']→w2.ownsRow w.heap.size 110 3 ev' (Tr.flat t').length (flCells (Tr.flat t'))→RTurn p t' (.tuple #[]) (RS p nv ev D) w (.returned (.tuple #[])) w2):=fun w2 ev' hm hb ho=>(h.ents hm hb ho hn hd).turn
 obtain ⟨l,hl⟩:∃ l,l=Tr.flat t:=⟨_,rfl⟩
 obtain ⟨l',hl'⟩:∃ l',l'=Tr.flat t':=⟨_,rfl⟩
 have hO:=h.in_.ents
 rw [← hl] at hO hfew hj hf
 rw [← hl'] at HEND hf
 obtain ⟨A,c,hev,hnc,hS⟩:=srcs hO h.np.2.1
 obtain ⟨j1,hj1⟩:∃ j1,j1=j+1:=⟨_,rfl⟩
 have HHD:Hid (∀ W,OnlyP p w W→Src W A (flCells (l.take j))):=fun W hW=>by
  rw [← flCells_take]
  exact (hS W hW).1.head _
 have HTL:Hid (∀ W,OnlyP p w W→Src W (cutR A j1 3 c) (flCells (l.drop j1))):=fun W hW=>by
  by_cases hjl:j1<l.length
  ·rw [← flCells_drop]
   exact (hS W hW).2 j1 hjl
  ·rw [List.drop_eq_nil_of_le (by omega)]
   exact Src.nil _ _
 have HL1:Hid ((flCells (l.take j)).length=j*3):=by show _=_;rw [flCells_length,List.length_take,Nat.min_eq_left (by omega)]
 have HL2:Hid ((flCells (l.drop j1)).length=(l.length-j1)*3):=by show _=_;rw [flCells_length,List.length_drop]
 have HN2:Hid (l'.length=j+(l.length-j1)∧flCells l'=flCells (l.take j)++flCells (l.drop j1)):=by
  refine ⟨?_,?_⟩
  ·rw [hf,List.length_append,List.length_take,List.length_drop];omega
  ·rw [hf,flCells_app,hj1]
 have hrunh:=fun W=>run_head entTy W A l.length c j (by omega)
 have hrunt:=fun W=>run_tail entTy W A l.length c j1 (by omega)
 subst hev
 have hw1:IntKind.i64.wrap ((j:Int)+1)=(j1:Int):=by rw [IntKind.wrap_i64];omega
 have HLE:Hid (j≤5000000∧j+(l.length-j1)≤5000000):=⟨by omega,by omega⟩
 have HBX:=Lib.hid h.in_.box
 clear h hO hS hl hl' hf hn hd hj hfew hnc hj1
 go_enter Tryz.func62,Tryz.ntmps62
 refine Rc.wp_region (by kernel_rfl) (fun opn=>List.getD [Rc.val (.pointer (some ⟨p,0,none⟩)),crow 110 3 (0) ([]),Rc.val (.pointer (some ⟨p,0,none⟩)),Rc.val (.pointer (some ⟨p,0,none⟩)),Rc.val (.pointer (some ⟨p,2,none⟩)),Rc.val (.slice A l.length c),Rc.val (.int .i64 (j:Nat)),Rc.val (.slice A j c),crow 110 3 (j) (flCells (l.take j)),Rc.val (.pointer (some ⟨p,0,none⟩)),Rc.val (.pointer (some ⟨p,0,none⟩)),Rc.val (.pointer (some ⟨p,2,none⟩)),Rc.val (.slice A l.length c),Rc.val (.int .i64 (j:Nat)),Rc.val (.int .i64 (j1:Nat)),Rc.val (.slice (cutR A j1 3 c) (l.length-j1) (c-j1)),crow 110 3 (l'.length) (flCells l'),Rc.val (.pointer (some ⟨p,0,none⟩)),Rc.val (.pointer (some ⟨p,2,none⟩)),cbox 84 p 2 [nv,dv,(.slice A l.length c)] 110 3 (l'.length) (flCells l'),cobj 84 p [nv,dv,(.slice A l.length c)]] opn Rc.any) 1 [] [[],[],[],[(2,6)],[(3,7)],[(4,8)],[],[(5,9),(6,10)],[(1,5),(7,11)],[],[(9,13)],[(10,14)],[(11,15)],[],[(13,17)],[(12,16),(14,18)],[(8,12),(15,19)],[(0,4)],[(17,21)],[(18,22),(16,20)]] [[],[],[],[2],[3],[4],[],[5,6],[1,7],[],[9],[10],[11],[],[13],[12,14],[8,15],[0],[17],[5,12,16,18]] [[],[],[],[2],[3],[4,20],[],[5,6],[1,7],[],[9],[10],[11,20],[],[13],[12,14],[8,15],[0],[17],[18,16,20]] [(8,1),(16,8),(19,20),(19,16)] (by kernel_rfl) (by rfl) (by kernel_rfl) (fun b=>b=p) (fun _ b=>b=p) (box_inv HBX.out _ _ 20 rfl) ?_ ?_
 ·intro fr ha
  have hz:fr.tmps.size=23:=by rw [ha];rfl
  have y0:fr.eval (.tmp 0)=.pointer (some ⟨p,0,none⟩):=by rw [ha];rfl
  have y1:fr.eval (.tmp 1)=.int .i64 (j:Nat):=by rw [ha];rfl
  clear ha
  refine .cons ?_ (.cons ?_ (.cons ?_ (.cons ?_ (.cons ?_ (.cons ?_ (.cons ?_ (.cons ?_ (.cons ?_ (.cons ?_ (.cons ?_ (.cons ?_ (.cons ?_ (.cons ?_ (.cons ?_ (.cons ?_ (.cons ?_ (.cons ?_ (.cons ?_ (.cons ?_ (.nil))))))))))))))))))))
  ·intro V S w2 HM HU HE
   have tb0:=(Rg.uE V fr 0 [] (by rw [hz];decide)).trans y0
   show Rg.Dz _ _ V (Rg.pU V [] fr) w2 _
   exact Ob.rc_mv (.pointer (some ⟨p,0,none⟩)) (by simp only [execOp,tb0];go_simp) rfl rfl True.intro
  ·intro V S w2 HM HU HE
   show Rg.Dz _ _ V (Rg.pU V [] fr) w2 _
   exact step_cnil 110 3 rfl (fun x=>Rg.aN rfl V x) True.intro (by simp only [execOp,List.map_toArray,List.map_nil];go_simp)
  ·intro V S w2 HM HU HE
   have tb0:=(Rg.uE V fr 0 [] (by rw [hz];decide)).trans y0
   show Rg.Dz _ _ V (Rg.pU V [] fr) w2 _
   exact Ob.rc_mv (.pointer (some ⟨p,0,none⟩)) (by simp only [execOp,tb0];go_simp) rfl rfl True.intro
  ·intro V S w2 HM HU HE
   have h2:V 2=_:=HU.holds 2 (by decide)
   have tb6:=(Rg.uE V fr 6 [(2,6)] (by rw [hz];decide)).trans h2
   show Rg.Dz _ _ V (Rg.pU V [(2,6)] fr) w2 _
   exact Ob.rc_mv (.pointer (some ⟨p,0,none⟩)) (by simp only [execOp,tb6];go_simp) rfl rfl True.intro
  ·intro V S w2 HM HU HE
   have h3:V 3=_:=HU.holds 3 (by decide)
   have tb7:=(Rg.uE V fr 7 [(3,7)] (by rw [hz];decide)).trans h3
   show Rg.Dz _ _ V (Rg.pU V [(3,7)] fr) w2 _
   exact Ob.rc_mv (.pointer (some ⟨p,2,none⟩)) (by simp only [execOp,tb7];go_simp) rfl rfl True.intro
  ·intro V S w2 HM HU HE
   have h4:V 4=_:=HU.holds 4 (by decide)
   have tb8:=(Rg.uE V fr 8 [(4,8)] (by rw [hz];decide)).trans h4
   show Rg.Dz _ _ V (Rg.pU V [(4,8)] fr) w2 _
   have hbk:(cobj 84 p [nv,dv,(.slice A l.length c)]).holds (V 20) w2 (S 20):=HU.holds 20 (by decide)
   have cl:=hbk.1.cell 2
   exact Ob.rc_mv (.slice A l.length c) (by simp only [execOp,tb8];go_simp) rfl rfl True.intro
  ·intro V S w2 HM HU HE
   have tb1:=(Rg.uE V fr 1 [] (by rw [hz];decide)).trans y1
   show Rg.Dz _ _ V (Rg.pU V [] fr) w2 _
   exact Ob.rc_mv (.int .i64 (j:Nat)) (by simp only [execOp,tb1];go_simp) rfl rfl True.intro
  ·intro V S w2 HM HU HE
   have h5:V 5=_:=HU.holds 5 (by decide)
   have tb9:=(Rg.uE V fr 9 [(5,9),(6,10)] (by rw [hz];decide)).trans h5
   have h6:V 6=_:=HU.holds 6 (by decide)
   have tb10:=(Rg.uE V fr 10 [(5,9),(6,10)] (by rw [hz];decide)).trans h6
   show Rg.Dz _ _ V (Rg.pU V [(5,9),(6,10)] fr) w2 _
   exact Ob.rc_slh rfl tb9 tb10 (hrunh w2) rfl rfl True.intro
  ·intro V S w2 HM HU HE
   have HM:Mod w w2 (fun b=>b=p):=HM
   have tb5:=(Rg.uE V fr 5 [(1,5),(7,11)] (by rw [hz];decide)).trans rfl
   have h7:V 7=_:=HU.holds 7 (by decide)
   have tb11:=(Rg.uE V fr 11 [(1,5),(7,11)] (by rw [hz];decide)).trans h7
   show Rg.Dz _ _ V (Rg.pU V [(1,5),(7,11)] fr) w2 _
   exact step_capp entTy (i:=1) (n:=0) (m:=j) (xs:=[]) (ys:=flCells (l.take j)) rfl tb5 tb11 rfl (by decide) (HU.holds 1 (by decide)) (HHD.out w2 HM) (HL1.out) (flCells_one _) (by have:=HLE.out;omega) (by omega) (rfl) (fun x=>Rg.aN rfl V x) True.intro
  ·intro V S w2 HM HU HE
   have tb0:=(Rg.uE V fr 0 [] (by rw [hz];decide)).trans y0
   show Rg.Dz _ _ V (Rg.pU V [] fr) w2 _
   exact Ob.rc_mv (.pointer (some ⟨p,0,none⟩)) (by simp only [execOp,tb0];go_simp) rfl rfl True.intro
  ·intro V S w2 HM HU HE
   have h9:V 9=_:=HU.holds 9 (by decide)
   have tb13:=(Rg.uE V fr 13 [(9,13)] (by rw [hz];decide)).trans h9
   show Rg.Dz _ _ V (Rg.pU V [(9,13)] fr) w2 _
   exact Ob.rc_mv (.pointer (some ⟨p,0,none⟩)) (by simp only [execOp,tb13];go_simp) rfl rfl True.intro
  ·intro V S w2 HM HU HE
   have h10:V 10=_:=HU.holds 10 (by decide)
   have tb14:=(Rg.uE V fr 14 [(10,14)] (by rw [hz];decide)).trans h10
   show Rg.Dz _ _ V (Rg.pU V [(10,14)] fr) w2 _
   exact Ob.rc_mv (.pointer (some ⟨p,2,none⟩)) (by simp only [execOp,tb14];go_simp) rfl rfl True.intro
  ·intro V S w2 HM HU HE
   have h11:V 11=_:=HU.holds 11 (by decide)
   have tb15:=(Rg.uE V fr 15 [(11,15)] (by rw [hz];decide)).trans h11
   show Rg.Dz _ _ V (Rg.pU V [(11,15)] fr) w2 _
   have hbk:(cobj 84 p [nv,dv,(.slice A l.length c)]).holds (V 20) w2 (S 20):=HU.holds 20 (by decide)
   have cl:=hbk.1.cell 2
   exact Ob.rc_mv (.slice A l.length c) (by simp only [execOp,tb15];go_simp) rfl rfl True.intro
  ·intro V S w2 HM HU HE
   have tb1:=(Rg.uE V fr 1 [] (by rw [hz];decide)).trans y1
   show Rg.Dz _ _ V (Rg.pU V [] fr) w2 _
   exact Ob.rc_mv (.int .i64 (j:Nat)) (by simp only [execOp,tb1];go_simp) rfl rfl True.intro
  ·intro V S w2 HM HU HE
   have h13:V 13=_:=HU.holds 13 (by decide)
   have tb17:=(Rg.uE V fr 17 [(13,17)] (by rw [hz];decide)).trans h13
   show Rg.Dz _ _ V (Rg.pU V [(13,17)] fr) w2 _
   exact Ob.rc_mv (.int .i64 (j1:Nat)) (by simp only [execOp,tb17];go_simp) rfl rfl True.intro
  ·intro V S w2 HM HU HE
   have h12:V 12=_:=HU.holds 12 (by decide)
   have tb16:=(Rg.uE V fr 16 [(12,16),(14,18)] (by rw [hz];decide)).trans h12
   have h14:V 14=_:=HU.holds 14 (by decide)
   have tb18:=(Rg.uE V fr 18 [(12,16),(14,18)] (by rw [hz];decide)).trans h14
   show Rg.Dz _ _ V (Rg.pU V [(12,16),(14,18)] fr) w2 _
   exact Ob.rc_sll rfl tb16 tb18 (hrunt w2) rfl rfl True.intro
  ·intro V S w2 HM HU HE
   have HM:Mod w w2 (fun b=>b=p):=HM
   have tb12:=(Rg.uE V fr 12 [(8,12),(15,19)] (by rw [hz];decide)).trans rfl
   have h15:V 15=_:=HU.holds 15 (by decide)
   have tb19:=(Rg.uE V fr 19 [(8,12),(15,19)] (by rw [hz];decide)).trans h15
   show Rg.Dz _ _ V (Rg.pU V [(8,12),(15,19)] fr) w2 _
   exact step_capp entTy (i:=8) (n:=j) (m:=(l.length-j1)) (xs:=flCells (l.take j)) (ys:=flCells (l.drop j1)) rfl tb12 tb19 rfl (by decide) (HU.holds 8 (by decide)) (HTL.out w2 HM) (HL2.out) (flCells_one _) (by have:=HLE.out;omega) (HN2.out.1) (HN2.out.2) (fun x=>Rg.aN rfl V x) True.intro
  ·intro V S w2 HM HU HE
   have h0:V 0=_:=HU.holds 0 (by decide)
   have tb4:=(Rg.uE V fr 4 [(0,4)] (by rw [hz];decide)).trans h0
   show Rg.Dz _ _ V (Rg.pU V [(0,4)] fr) w2 _
   exact Ob.rc_mv (.pointer (some ⟨p,0,none⟩)) (by simp only [execOp,tb4];go_simp) rfl rfl True.intro
  ·intro V S w2 HM HU HE
   have h17:V 17=_:=HU.holds 17 (by decide)
   have tb21:=(Rg.uE V fr 21 [(17,21)] (by rw [hz];decide)).trans h17
   show Rg.Dz _ _ V (Rg.pU V [(17,21)] fr) w2 _
   exact Ob.rc_mv (.pointer (some ⟨p,2,none⟩)) (by simp only [execOp,tb21];go_simp) rfl rfl True.intro
  ·intro V S w2 HM HU HE
   have h18:V 18=_:=HU.holds 18 (by decide)
   have tb22:=(Rg.uE V fr 22 [(18,22),(16,20)] (by rw [hz];decide)).trans h18
   have hc16:(crow 110 3 (l'.length) (flCells l')).holds (V 16) w2 (S 16):=HU.holds 16 (by decide)
   obtain ⟨A9,c9,e9,_⟩:=Tm.oF hc16.1
   have tb20:=(Rg.uE V fr 20 [(18,22),(16,20)] (by rw [hz];decide)).trans e9
   show Rg.Dz _ _ V (Rg.pU V [(18,22),(16,20)] fr) w2 _
   have hbk:(cobj 84 p [nv,dv,(.slice A l.length c)]).holds (V 20) w2 (S 20):=HU.holds 20 (by decide)
   have cl:=hbk.1.cell 2
   have fl:=hbk.1.frozen 2
   exact step_cput (i:=2) (cs:=[nv,dv,(.slice A l.length c)]) _ e9 rfl (by decide) (by decide) hbk hc16 (by decide) (HU.lt 16 (by decide)) (fun x=>Rg.aN rfl V x) True.intro (by simp only [execOp,tb22,tb20];go_simp)
 ·intro V S w2 HI
  have hbx:(cbox 84 p 2 [nv,dv,(.slice A l.length c)] 110 3 (l'.length) (flCells l')).holds (V 19) w2 (S 19):=HI.get 19 (by decide) (by rfl)
  have hmod:OnlyP p w w2:=HI.mod.undrew
  have hlt9:=HI.lt 19
  have hlv:Rc.Live [(8,1),(16,8),(19,20),(19,16)] (fun i=>i<21) 19:=⟨by decide,fun k _ hk=>by have:=List.all_eq_true.1 (show [(8,1),(16,8),(19,20),(19,16)].all (fun x=>x.2 != 19)=true from by rfl) _ hk;simp at this⟩
  obtain ⟨_,x9,hk9,ho9,hs9⟩:=hbx
  have hx9:w2.ownsRow w.heap.size 110 3 x9 (l'.length) (flCells l'):=own_up ho9 fun b hb=>((hlt9 b hlv (hs9 b hb)).2).resolve_left fun e=>by have h3:=(Tm.oB ho9 hb).2.2;obtain ⟨cs3,h3⟩:=h3;exact absurd e (h3.ne_ hk9 (by decide))
  clear hlt9 hlv ho9 hs9 HI
  simp only [Rg.putList,Act.put,List.setIfInBounds_toArray,List.set_cons_zero,List.set_cons_succ,Nat.zero_add,Nat.reduceAdd]
  refine bodyPost_end (results_none rfl _ _ _) rfl ?_
  exact HEND.out _ _ hmod hk9 hx9
set_option maxRecDepth 100000 in
theorem gone_any (h:RA p nv dv ev D t w) (i:Int) (j:Nat) (hj:j<t.length) (hix:idx t i=(j:Nat)) (hfew:t.length≤1000000) (hT:t'=t.take j++t.drop (j+1)) (hf:Tr.flat t'=Tr.flat t) :
    Calls Tryz.prog 63 #[.pointer (some ⟨p,0,none⟩),.int .i64 i] w (RTurn p t' (.tuple #[]) (RS p nv ev D) w):=by
 have HAT:=Lib.hid (at_any h.in_ i hfew)
 rw [hix] at HAT
 obtain ⟨xs,hOd,hdc,_⟩:=RIn.dc h.in_.data
 rw [List.length_map] at hOd
 obtain ⟨j1,hj1⟩:∃ j1,j1=j+1:=⟨_,rfl⟩
 obtain ⟨n,hnl⟩:∃ n,n=t.length:=⟨_,rfl⟩
 have hlen:t'.length=j+(n-j1):=by rw [hT,List.length_append,List.length_take,List.length_drop];omega
 have HEND:Hid (∀ w3 nv' dv',OnlyP p w w3→Blk w3 p 84 [nv',dv',ev]→w3.ownsRow w.heap.size 59 6 nv' (j+(n-j1)) (ndCells (t.take j)++ndCells (t.drop j1))→w3.ownsRow w.heap.size 39 1 dv' (j+(n-j1)) (xs.take j++xs.drop j1)→RTurn p t' (.tuple #[]) (RS p nv ev D) w (.returned (.tuple #[])) w3):=fun w3 nv' dv' hm hb hon ho=>by
  refine (h.both (t':=t') hm hb ?_ (xs:=xs.take j++xs.drop j1) ?_ ?_ hf).turn
  ·rw [hlen,hT,ndCells_app,← hj1];exact hon
  ·rw [hlen];exact ho
  ·rw [hT,← hj1,List.map_append,List.map_take,List.map_drop]
   exact (hdc.take j).app (hdc.drop j1)
 obtain ⟨A,c,hnv,hnc,hS⟩:=srcs h.in_.nodes h.np.1
 have hdp:dv.ownBlock≠some p:=fun e=>by
  obtain ⟨_,_,cs,h1⟩:=Tm.oB hOd e
  exact absurd rfl (h1.ne_ h.in_.box (by decide))
 obtain ⟨A2,c2,hdv,hnc2,_⟩:=srcs hOd hdp
 rw [← hnl] at hnv hnc hS hdv hnc2 hOd
 have HHD:Hid (∀ W,OnlyP p w W→Src W A (ndCells (t.take j))):=fun W hW=>by
  rw [← ndCells_take]
  exact (hS W hW).1.head _
 have HTL:Hid (∀ W,OnlyP p w W→Src W (cutR A j1 6 c) (ndCells (t.drop j1))):=fun W hW=>by
  by_cases hjl:j1<n
  ·rw [← ndCells_drop]
   exact (hS W hW).2 j1 hjl
  ·rw [List.drop_eq_nil_of_le (by omega)]
   exact Src.nil _ _
 have HHD2:Hid (∀ w2,OnlyP p w w2→∀ W,OnlyP p w2 W→Src W A2 (xs.take j)):=fun w2 hw2 W hW=>by
  obtain ⟨A3,c3,he,_,h3⟩:=srcs (Tm.own_keep hOd fun b hb=>hw2.block b (Tm.oB hOd hb).2.1 fun e=>hdp (e ▸ hb)) hdp
  rw [hdv] at he
  injection he with e1 _ _
  subst e1
  exact (h3 W hW).1.head _
 have HTL2:Hid (∀ w2,OnlyP p w w2→∀ W,OnlyP p w2 W→Src W (cutR A2 j1 1 c2) (xs.drop j1)):=fun w2 hw2 W hW=>by
  obtain ⟨A3,c3,he,_,h3⟩:=srcs (Tm.own_keep hOd fun b hb=>hw2.block b (Tm.oB hOd hb).2.1 fun e=>hdp (e ▸ hb)) hdp
  rw [hdv] at he
  injection he with e1 _ e2
  subst e1 e2
  by_cases hjl:j1<n
  ·have:=(h3 W hW).2 j1 hjl
   rw [Nat.mul_one] at this
   exact this
  ·rw [List.drop_eq_nil_of_le (by have:=hdc.1;rw [List.length_map] at this;omega)]
   exact Src.nil _ _
 have HL1:Hid ((ndCells (t.take j)).length=j*6):=by show _=_;rw [ndCells_length,List.length_take,Nat.min_eq_left (by omega)]
 have HL2:Hid ((ndCells (t.drop j1)).length=(n-j1)*6):=by show _=_;rw [ndCells_length,List.length_drop,hnl]
 have hxl:xs.length=n:=by have:=hdc.1;rw [List.length_map] at this;omega
 have HM1:Hid ((xs.take j).length=j*1):=by show _=_;rw [List.length_take,Nat.min_eq_left (by omega)];omega
 have HM2:Hid ((xs.drop j1).length=(n-j1)*1):=by show _=_;rw [List.length_drop,hxl];omega
 have HD1:Hid (∀ u ∈ xs.take j,u.oneCell'=true):=fun u hu=>hdc.one u (List.mem_of_mem_take hu)
 have HD2:Hid (∀ u ∈ xs.drop j1,u.oneCell'=true):=fun u hu=>hdc.one u (List.mem_of_mem_drop hu)
 have hrunh:=fun W=>run_head nodeTy W A n c j (by omega)
 have hrunt:=fun W=>run_tail nodeTy W A n c j1 (by omega)
 have hrunh2:=fun W=>run_head bytesTy W A2 n c2 j (by omega)
 have hrunt2:=fun W=>run_tail bytesTy W A2 n c2 j1 (by omega)
 have HBX:=Lib.hid h.in_.box
 subst hnv hdv
 have hw1:IntKind.i64.wrap ((j:Int)+1)=(j1:Int):=by rw [IntKind.wrap_i64];omega
 have HLE:Hid (j≤5000000∧j+(n-j1)≤5000000):=⟨by omega,by omega⟩
 clear h hOd hdc hS hnl hlen hf hj hfew hnc hnc2 hj1 hix hT hdp hxl
 go_enter Tryz.func63,Tryz.ntmps63
 go_wp2_with fail
 refine HAT.out.mono ?_
 rintro e w1 ⟨rfl,rfl⟩
 go_upto_region 1 with (fail)
 refine Rc.wp_region (by kernel_rfl) (fun opn=>List.getD [Rc.val (.pointer (some ⟨p,0,none⟩)),crow 59 6 (0) ([]),Rc.val (.pointer (some ⟨p,0,none⟩)),Rc.val (.pointer (some ⟨p,0,none⟩)),Rc.val (.pointer (some ⟨p,0,none⟩)),Rc.val (.slice A n c),Rc.val (.int .i64 (j:Nat)),Rc.val (.slice A j c),crow 59 6 (j) (ndCells (t.take j)),Rc.val (.pointer (some ⟨p,0,none⟩)),Rc.val (.pointer (some ⟨p,0,none⟩)),Rc.val (.pointer (some ⟨p,0,none⟩)),Rc.val (.slice A n c),Rc.val (.int .i64 (j:Nat)),Rc.val (.int .i64 (j1:Nat)),Rc.val (.slice (cutR A j1 6 c) (n-j1) (c-j1)),crow 59 6 ((j+(n-j1))) ((ndCells (t.take j)++ndCells (t.drop j1))),Rc.val (.pointer (some ⟨p,0,none⟩)),Rc.val (.pointer (some ⟨p,0,none⟩)),cbox 84 p 0 [(.slice A n c),(.slice A2 n c2),ev] 59 6 ((j+(n-j1))) ((ndCells (t.take j)++ndCells (t.drop j1))),cobj 84 p [(.slice A n c),(.slice A2 n c2),ev]] opn Rc.any) 1 [] [[],[],[],[(2,10)],[(3,11)],[(4,12)],[],[(5,13),(6,14)],[(1,9),(7,15)],[],[(9,17)],[(10,18)],[(11,19)],[],[(13,21)],[(12,20),(14,22)],[(8,16),(15,23)],[(0,8)],[(17,25)],[(18,26),(16,24)]] [[],[],[],[2],[3],[4],[],[5,6],[1,7],[],[9],[10],[11],[],[13],[12,14],[8,15],[0],[17],[5,12,16,18]] [[],[],[],[2],[3],[4,20],[],[5,6],[1,7],[],[9],[10],[11,20],[],[13],[12,14],[8,15],[0],[17],[18,16,20]] [(8,1),(16,8),(19,20),(19,16)] (by kernel_rfl) (by rfl) (by kernel_rfl) (fun b=>b=p) (fun _ b=>b=p) (box_inv HBX.out _ _ 20 rfl) ?_ ?_
 ·intro fr ha
  have hz:fr.tmps.size=46:=by rw [ha];rfl
  have y0:fr.eval (.tmp 0)=.pointer (some ⟨p,0,none⟩):=by rw [ha];rfl
  have y4:fr.eval (.tmp 4)=.int .i64 (j:Nat):=by rw [ha];rfl
  clear ha
  refine .cons ?_ (.cons ?_ (.cons ?_ (.cons ?_ (.cons ?_ (.cons ?_ (.cons ?_ (.cons ?_ (.cons ?_ (.cons ?_ (.cons ?_ (.cons ?_ (.cons ?_ (.cons ?_ (.cons ?_ (.cons ?_ (.cons ?_ (.cons ?_ (.cons ?_ (.cons ?_ (.nil))))))))))))))))))))
  ·intro V S w2 HM HU HE
   have tb0:=(Rg.uE V fr 0 [] (by rw [hz];decide)).trans y0
   show Rg.Dz _ _ V (Rg.pU V [] fr) w2 _
   exact Ob.rc_mv (.pointer (some ⟨p,0,none⟩)) (by simp only [execOp,tb0];go_simp) rfl rfl True.intro
  ·intro V S w2 HM HU HE
   show Rg.Dz _ _ V (Rg.pU V [] fr) w2 _
   exact step_cnil 59 6 rfl (fun x=>Rg.aN rfl V x) True.intro (by simp only [execOp,List.map_toArray,List.map_nil];go_simp)
  ·intro V S w2 HM HU HE
   have tb0:=(Rg.uE V fr 0 [] (by rw [hz];decide)).trans y0
   show Rg.Dz _ _ V (Rg.pU V [] fr) w2 _
   exact Ob.rc_mv (.pointer (some ⟨p,0,none⟩)) (by simp only [execOp,tb0];go_simp) rfl rfl True.intro
  ·intro V S w2 HM HU HE
   have h2:V 2=_:=HU.holds 2 (by decide)
   have tb10:=(Rg.uE V fr 10 [(2,10)] (by rw [hz];decide)).trans h2
   show Rg.Dz _ _ V (Rg.pU V [(2,10)] fr) w2 _
   exact Ob.rc_mv (.pointer (some ⟨p,0,none⟩)) (by simp only [execOp,tb10];go_simp) rfl rfl True.intro
  ·intro V S w2 HM HU HE
   have h3:V 3=_:=HU.holds 3 (by decide)
   have tb11:=(Rg.uE V fr 11 [(3,11)] (by rw [hz];decide)).trans h3
   show Rg.Dz _ _ V (Rg.pU V [(3,11)] fr) w2 _
   exact Ob.rc_mv (.pointer (some ⟨p,0,none⟩)) (by simp only [execOp,tb11];go_simp) rfl rfl True.intro
  ·intro V S w2 HM HU HE
   have h4:V 4=_:=HU.holds 4 (by decide)
   have tb12:=(Rg.uE V fr 12 [(4,12)] (by rw [hz];decide)).trans h4
   show Rg.Dz _ _ V (Rg.pU V [(4,12)] fr) w2 _
   have hbk:(cobj 84 p [(.slice A n c),(.slice A2 n c2),ev]).holds (V 20) w2 (S 20):=HU.holds 20 (by decide)
   have cl:=hbk.1.cell 0
   exact Ob.rc_mv (.slice A n c) (by simp only [execOp,tb12];go_simp) rfl rfl True.intro
  ·intro V S w2 HM HU HE
   have tb4:=(Rg.uE V fr 4 [] (by rw [hz];decide)).trans y4
   show Rg.Dz _ _ V (Rg.pU V [] fr) w2 _
   exact Ob.rc_mv (.int .i64 (j:Nat)) (by simp only [execOp,tb4];go_simp) rfl rfl True.intro
  ·intro V S w2 HM HU HE
   have h5:V 5=_:=HU.holds 5 (by decide)
   have tb13:=(Rg.uE V fr 13 [(5,13),(6,14)] (by rw [hz];decide)).trans h5
   have h6:V 6=_:=HU.holds 6 (by decide)
   have tb14:=(Rg.uE V fr 14 [(5,13),(6,14)] (by rw [hz];decide)).trans h6
   show Rg.Dz _ _ V (Rg.pU V [(5,13),(6,14)] fr) w2 _
   exact Ob.rc_slh rfl tb13 tb14 (hrunh w2) rfl rfl True.intro
  ·intro V S w2 HM HU HE
   have HM:Mod w1 w2 (fun b=>b=p):=HM
   have tb9:=(Rg.uE V fr 9 [(1,9),(7,15)] (by rw [hz];decide)).trans rfl
   have h7:V 7=_:=HU.holds 7 (by decide)
   have tb15:=(Rg.uE V fr 15 [(1,9),(7,15)] (by rw [hz];decide)).trans h7
   show Rg.Dz _ _ V (Rg.pU V [(1,9),(7,15)] fr) w2 _
   exact step_capp nodeTy (i:=1) (n:=0) (m:=j) (xs:=[]) (ys:=ndCells (t.take j)) rfl tb9 tb15 rfl (by decide) (HU.holds 1 (by decide)) (HHD.out w2 HM) (HL1.out) (ndCells_one _) (by have:=HLE.out;omega) (by omega) (rfl) (fun x=>Rg.aN rfl V x) True.intro
  ·intro V S w2 HM HU HE
   have tb0:=(Rg.uE V fr 0 [] (by rw [hz];decide)).trans y0
   show Rg.Dz _ _ V (Rg.pU V [] fr) w2 _
   exact Ob.rc_mv (.pointer (some ⟨p,0,none⟩)) (by simp only [execOp,tb0];go_simp) rfl rfl True.intro
  ·intro V S w2 HM HU HE
   have h9:V 9=_:=HU.holds 9 (by decide)
   have tb17:=(Rg.uE V fr 17 [(9,17)] (by rw [hz];decide)).trans h9
   show Rg.Dz _ _ V (Rg.pU V [(9,17)] fr) w2 _
   exact Ob.rc_mv (.pointer (some ⟨p,0,none⟩)) (by simp only [execOp,tb17];go_simp) rfl rfl True.intro
  ·intro V S w2 HM HU HE
   have h10:V 10=_:=HU.holds 10 (by decide)
   have tb18:=(Rg.uE V fr 18 [(10,18)] (by rw [hz];decide)).trans h10
   show Rg.Dz _ _ V (Rg.pU V [(10,18)] fr) w2 _
   exact Ob.rc_mv (.pointer (some ⟨p,0,none⟩)) (by simp only [execOp,tb18];go_simp) rfl rfl True.intro
  ·intro V S w2 HM HU HE
   have h11:V 11=_:=HU.holds 11 (by decide)
   have tb19:=(Rg.uE V fr 19 [(11,19)] (by rw [hz];decide)).trans h11
   show Rg.Dz _ _ V (Rg.pU V [(11,19)] fr) w2 _
   have hbk:(cobj 84 p [(.slice A n c),(.slice A2 n c2),ev]).holds (V 20) w2 (S 20):=HU.holds 20 (by decide)
   have cl:=hbk.1.cell 0
   exact Ob.rc_mv (.slice A n c) (by simp only [execOp,tb19];go_simp) rfl rfl True.intro
  ·intro V S w2 HM HU HE
   have tb4:=(Rg.uE V fr 4 [] (by rw [hz];decide)).trans y4
   show Rg.Dz _ _ V (Rg.pU V [] fr) w2 _
   exact Ob.rc_mv (.int .i64 (j:Nat)) (by simp only [execOp,tb4];go_simp) rfl rfl True.intro
  ·intro V S w2 HM HU HE
   have h13:V 13=_:=HU.holds 13 (by decide)
   have tb21:=(Rg.uE V fr 21 [(13,21)] (by rw [hz];decide)).trans h13
   show Rg.Dz _ _ V (Rg.pU V [(13,21)] fr) w2 _
   exact Ob.rc_mv (.int .i64 (j1:Nat)) (by simp only [execOp,tb21];go_simp) rfl rfl True.intro
  ·intro V S w2 HM HU HE
   have h12:V 12=_:=HU.holds 12 (by decide)
   have tb20:=(Rg.uE V fr 20 [(12,20),(14,22)] (by rw [hz];decide)).trans h12
   have h14:V 14=_:=HU.holds 14 (by decide)
   have tb22:=(Rg.uE V fr 22 [(12,20),(14,22)] (by rw [hz];decide)).trans h14
   show Rg.Dz _ _ V (Rg.pU V [(12,20),(14,22)] fr) w2 _
   exact Ob.rc_sll rfl tb20 tb22 (hrunt w2) rfl rfl True.intro
  ·intro V S w2 HM HU HE
   have HM:Mod w1 w2 (fun b=>b=p):=HM
   have tb16:=(Rg.uE V fr 16 [(8,16),(15,23)] (by rw [hz];decide)).trans rfl
   have h15:V 15=_:=HU.holds 15 (by decide)
   have tb23:=(Rg.uE V fr 23 [(8,16),(15,23)] (by rw [hz];decide)).trans h15
   show Rg.Dz _ _ V (Rg.pU V [(8,16),(15,23)] fr) w2 _
   exact step_capp nodeTy (i:=8) (n:=j) (m:=(n-j1)) (xs:=ndCells (t.take j)) (ys:=ndCells (t.drop j1)) rfl tb16 tb23 rfl (by decide) (HU.holds 8 (by decide)) (HTL.out w2 HM) (HL2.out) (ndCells_one _) (by have:=HLE.out;omega) (rfl) (rfl) (fun x=>Rg.aN rfl V x) True.intro
  ·intro V S w2 HM HU HE
   have h0:V 0=_:=HU.holds 0 (by decide)
   have tb8:=(Rg.uE V fr 8 [(0,8)] (by rw [hz];decide)).trans h0
   show Rg.Dz _ _ V (Rg.pU V [(0,8)] fr) w2 _
   exact Ob.rc_mv (.pointer (some ⟨p,0,none⟩)) (by simp only [execOp,tb8];go_simp) rfl rfl True.intro
  ·intro V S w2 HM HU HE
   have h17:V 17=_:=HU.holds 17 (by decide)
   have tb25:=(Rg.uE V fr 25 [(17,25)] (by rw [hz];decide)).trans h17
   show Rg.Dz _ _ V (Rg.pU V [(17,25)] fr) w2 _
   exact Ob.rc_mv (.pointer (some ⟨p,0,none⟩)) (by simp only [execOp,tb25];go_simp) rfl rfl True.intro
  ·intro V S w2 HM HU HE
   have h18:V 18=_:=HU.holds 18 (by decide)
   have tb26:=(Rg.uE V fr 26 [(18,26),(16,24)] (by rw [hz];decide)).trans h18
   have hc16:(crow 59 6 ((j+(n-j1))) ((ndCells (t.take j)++ndCells (t.drop j1)))).holds (V 16) w2 (S 16):=HU.holds 16 (by decide)
   obtain ⟨A9,c9,e9,_⟩:=Tm.oF hc16.1
   have tb24:=(Rg.uE V fr 24 [(18,26),(16,24)] (by rw [hz];decide)).trans e9
   show Rg.Dz _ _ V (Rg.pU V [(18,26),(16,24)] fr) w2 _
   have hbk:(cobj 84 p [(.slice A n c),(.slice A2 n c2),ev]).holds (V 20) w2 (S 20):=HU.holds 20 (by decide)
   have cl:=hbk.1.cell 0
   have fl:=hbk.1.frozen 0
   exact step_cput (i:=0) (cs:=[(.slice A n c),(.slice A2 n c2),ev]) _ e9 rfl (by decide) (by decide) hbk hc16 (by decide) (HU.lt 16 (by decide)) (fun x=>Rg.aN rfl V x) True.intro (by simp only [execOp,tb26,tb24];go_simp)
 ·intro V S w2 HI
  have hbx:(cbox 84 p 0 [(.slice A n c),(.slice A2 n c2),ev] 59 6 ((j+(n-j1))) ((ndCells (t.take j)++ndCells (t.drop j1)))).holds (V 19) w2 (S 19):=HI.get 19 (by decide) (by rfl)
  have hmod:OnlyP p w1 w2:=HI.mod.undrew
  have hlt9:=HI.lt 19
  have hlv:Rc.Live [(8,1),(16,8),(19,20),(19,16)] (fun i=>i<21) 19:=⟨by decide,fun k _ hk=>by have:=List.all_eq_true.1 (show [(8,1),(16,8),(19,20),(19,16)].all (fun x=>x.2 != 19)=true from by rfl) _ hk;simp at this⟩
  obtain ⟨_,x9,hk9,ho9,hs9⟩:=hbx
  have hx9:w2.ownsRow w1.heap.size 59 6 x9 ((j+(n-j1))) ((ndCells (t.take j)++ndCells (t.drop j1))):=own_up ho9 fun b hb=>((hlt9 b hlv (hs9 b hb)).2).resolve_left fun e=>by have h3:=(Tm.oB ho9 hb).2.2;obtain ⟨cs3,h3⟩:=h3;exact absurd e (h3.ne_ hk9 (by decide))
  clear hlt9 hlv ho9 hs9 HI
  simp only [Rg.putList,Act.put,List.setIfInBounds_toArray,List.set_cons_zero,List.set_cons_succ,Nat.zero_add,Nat.reduceAdd]
  have HX:=Lib.hid hx9
  have HK:=Lib.hid hk9
  have HM9:=Lib.hid hmod
  clear hx9 hk9 hmod hrunh hrunt
  go_upto_region 2 with (fail)
  refine Rc.wp_region (by kernel_rfl) (fun opn=>List.getD [Rc.val (.pointer (some ⟨p,0,none⟩)),crow 39 1 (0) ([]),Rc.val (.pointer (some ⟨p,0,none⟩)),Rc.val (.pointer (some ⟨p,0,none⟩)),Rc.val (.pointer (some ⟨p,1,none⟩)),Rc.val (.slice A2 n c2),Rc.val (.int .i64 (j:Nat)),Rc.val (.slice A2 j c2),crow 39 1 (j) (xs.take j),Rc.val (.pointer (some ⟨p,0,none⟩)),Rc.val (.pointer (some ⟨p,0,none⟩)),Rc.val (.pointer (some ⟨p,1,none⟩)),Rc.val (.slice A2 n c2),Rc.val (.int .i64 (j:Nat)),Rc.val (.int .i64 (j1:Nat)),Rc.val (.slice (cutR A2 j1 1 c2) (n-j1) (c2-j1)),crow 39 1 ((j+(n-j1))) ((xs.take j++xs.drop j1)),Rc.val (.pointer (some ⟨p,0,none⟩)),Rc.val (.pointer (some ⟨p,1,none⟩)),cbox 84 p 1 [x9,(.slice A2 n c2),ev] 39 1 ((j+(n-j1))) ((xs.take j++xs.drop j1)),cobj 84 p [x9,(.slice A2 n c2),ev]] opn Rc.any) 1 [] [[],[],[],[(2,29)],[(3,30)],[(4,31)],[],[(5,32),(6,33)],[(1,28),(7,34)],[],[(9,36)],[(10,37)],[(11,38)],[],[(13,40)],[(12,39),(14,41)],[(8,35),(15,42)],[(0,27)],[(17,44)],[(18,45),(16,43)]] [[],[],[],[2],[3],[4],[],[5,6],[1,7],[],[9],[10],[11],[],[13],[12,14],[8,15],[0],[17],[5,12,16,18]] [[],[],[],[2],[3],[4,20],[],[5,6],[1,7],[],[9],[10],[11,20],[],[13],[12,14],[8,15],[0],[17],[18,16,20]] [(8,1),(16,8),(19,20),(19,16)] (by kernel_rfl) (by rfl) (by kernel_rfl) (fun b=>b=p) (fun _ b=>b=p) (box_inv HK.out _ _ 20 rfl) ?_ ?_
  ·intro fr ha
   have hz:fr.tmps.size=46:=by rw [ha];rfl
   have y0:fr.eval (.tmp 0)=.pointer (some ⟨p,0,none⟩):=by rw [ha];rfl
   have y4:fr.eval (.tmp 4)=.int .i64 (j:Nat):=by rw [ha];rfl
   clear ha
   refine .cons ?_ (.cons ?_ (.cons ?_ (.cons ?_ (.cons ?_ (.cons ?_ (.cons ?_ (.cons ?_ (.cons ?_ (.cons ?_ (.cons ?_ (.cons ?_ (.cons ?_ (.cons ?_ (.cons ?_ (.cons ?_ (.cons ?_ (.cons ?_ (.cons ?_ (.cons ?_ (.nil))))))))))))))))))))
   ·intro V S w3 HM HU HE
    have tb0:=(Rg.uE V fr 0 [] (by rw [hz];decide)).trans y0
    show Rg.Dz _ _ V (Rg.pU V [] fr) w3 _
    exact Ob.rc_mv (.pointer (some ⟨p,0,none⟩)) (by simp only [execOp,tb0];go_simp) rfl rfl True.intro
   ·intro V S w3 HM HU HE
    show Rg.Dz _ _ V (Rg.pU V [] fr) w3 _
    exact step_cnil 39 1 rfl (fun x=>Rg.aN rfl V x) True.intro (by simp only [execOp,List.map_toArray,List.map_nil];go_simp)
   ·intro V S w3 HM HU HE
    have tb0:=(Rg.uE V fr 0 [] (by rw [hz];decide)).trans y0
    show Rg.Dz _ _ V (Rg.pU V [] fr) w3 _
    exact Ob.rc_mv (.pointer (some ⟨p,0,none⟩)) (by simp only [execOp,tb0];go_simp) rfl rfl True.intro
   ·intro V S w3 HM HU HE
    have h2:V 2=_:=HU.holds 2 (by decide)
    have tb29:=(Rg.uE V fr 29 [(2,29)] (by rw [hz];decide)).trans h2
    show Rg.Dz _ _ V (Rg.pU V [(2,29)] fr) w3 _
    exact Ob.rc_mv (.pointer (some ⟨p,0,none⟩)) (by simp only [execOp,tb29];go_simp) rfl rfl True.intro
   ·intro V S w3 HM HU HE
    have h3:V 3=_:=HU.holds 3 (by decide)
    have tb30:=(Rg.uE V fr 30 [(3,30)] (by rw [hz];decide)).trans h3
    show Rg.Dz _ _ V (Rg.pU V [(3,30)] fr) w3 _
    exact Ob.rc_mv (.pointer (some ⟨p,1,none⟩)) (by simp only [execOp,tb30];go_simp) rfl rfl True.intro
   ·intro V S w3 HM HU HE
    have h4:V 4=_:=HU.holds 4 (by decide)
    have tb31:=(Rg.uE V fr 31 [(4,31)] (by rw [hz];decide)).trans h4
    show Rg.Dz _ _ V (Rg.pU V [(4,31)] fr) w3 _
    have hbk:(cobj 84 p [x9,(.slice A2 n c2),ev]).holds (V 20) w3 (S 20):=HU.holds 20 (by decide)
    have cl:=hbk.1.cell 1
    exact Ob.rc_mv (.slice A2 n c2) (by simp only [execOp,tb31];go_simp) rfl rfl True.intro
   ·intro V S w3 HM HU HE
    have tb4:=(Rg.uE V fr 4 [] (by rw [hz];decide)).trans y4
    show Rg.Dz _ _ V (Rg.pU V [] fr) w3 _
    exact Ob.rc_mv (.int .i64 (j:Nat)) (by simp only [execOp,tb4];go_simp) rfl rfl True.intro
   ·intro V S w3 HM HU HE
    have h5:V 5=_:=HU.holds 5 (by decide)
    have tb32:=(Rg.uE V fr 32 [(5,32),(6,33)] (by rw [hz];decide)).trans h5
    have h6:V 6=_:=HU.holds 6 (by decide)
    have tb33:=(Rg.uE V fr 33 [(5,32),(6,33)] (by rw [hz];decide)).trans h6
    show Rg.Dz _ _ V (Rg.pU V [(5,32),(6,33)] fr) w3 _
    exact Ob.rc_slh rfl tb32 tb33 (hrunh2 w3) rfl rfl True.intro
   ·intro V S w3 HM HU HE
    have HM:Mod w2 w3 (fun b=>b=p):=HM
    have tb28:=(Rg.uE V fr 28 [(1,28),(7,34)] (by rw [hz];decide)).trans rfl
    have h7:V 7=_:=HU.holds 7 (by decide)
    have tb34:=(Rg.uE V fr 34 [(1,28),(7,34)] (by rw [hz];decide)).trans h7
    show Rg.Dz _ _ V (Rg.pU V [(1,28),(7,34)] fr) w3 _
    exact step_capp bytesTy (i:=1) (n:=0) (m:=j) (xs:=[]) (ys:=xs.take j) rfl tb28 tb34 rfl (by decide) (HU.holds 1 (by decide)) (HHD2.out w2 HM9.out w3 HM) (HM1.out) (HD1.out) (by have:=HLE.out;omega) (by omega) (rfl) (fun x=>Rg.aN rfl V x) True.intro
   ·intro V S w3 HM HU HE
    have tb0:=(Rg.uE V fr 0 [] (by rw [hz];decide)).trans y0
    show Rg.Dz _ _ V (Rg.pU V [] fr) w3 _
    exact Ob.rc_mv (.pointer (some ⟨p,0,none⟩)) (by simp only [execOp,tb0];go_simp) rfl rfl True.intro
   ·intro V S w3 HM HU HE
    have h9:V 9=_:=HU.holds 9 (by decide)
    have tb36:=(Rg.uE V fr 36 [(9,36)] (by rw [hz];decide)).trans h9
    show Rg.Dz _ _ V (Rg.pU V [(9,36)] fr) w3 _
    exact Ob.rc_mv (.pointer (some ⟨p,0,none⟩)) (by simp only [execOp,tb36];go_simp) rfl rfl True.intro
   ·intro V S w3 HM HU HE
    have h10:V 10=_:=HU.holds 10 (by decide)
    have tb37:=(Rg.uE V fr 37 [(10,37)] (by rw [hz];decide)).trans h10
    show Rg.Dz _ _ V (Rg.pU V [(10,37)] fr) w3 _
    exact Ob.rc_mv (.pointer (some ⟨p,1,none⟩)) (by simp only [execOp,tb37];go_simp) rfl rfl True.intro
   ·intro V S w3 HM HU HE
    have h11:V 11=_:=HU.holds 11 (by decide)
    have tb38:=(Rg.uE V fr 38 [(11,38)] (by rw [hz];decide)).trans h11
    show Rg.Dz _ _ V (Rg.pU V [(11,38)] fr) w3 _
    have hbk:(cobj 84 p [x9,(.slice A2 n c2),ev]).holds (V 20) w3 (S 20):=HU.holds 20 (by decide)
    have cl:=hbk.1.cell 1
    exact Ob.rc_mv (.slice A2 n c2) (by simp only [execOp,tb38];go_simp) rfl rfl True.intro
   ·intro V S w3 HM HU HE
    have tb4:=(Rg.uE V fr 4 [] (by rw [hz];decide)).trans y4
    show Rg.Dz _ _ V (Rg.pU V [] fr) w3 _
    exact Ob.rc_mv (.int .i64 (j:Nat)) (by simp only [execOp,tb4];go_simp) rfl rfl True.intro
   ·intro V S w3 HM HU HE
    have h13:V 13=_:=HU.holds 13 (by decide)
    have tb40:=(Rg.uE V fr 40 [(13,40)] (by rw [hz];decide)).trans h13
    show Rg.Dz _ _ V (Rg.pU V [(13,40)] fr) w3 _
    exact Ob.rc_mv (.int .i64 (j1:Nat)) (by simp only [execOp,tb40];go_simp) rfl rfl True.intro
   ·intro V S w3 HM HU HE
    have h12:V 12=_:=HU.holds 12 (by decide)
    have tb39:=(Rg.uE V fr 39 [(12,39),(14,41)] (by rw [hz];decide)).trans h12
    have h14:V 14=_:=HU.holds 14 (by decide)
    have tb41:=(Rg.uE V fr 41 [(12,39),(14,41)] (by rw [hz];decide)).trans h14
    show Rg.Dz _ _ V (Rg.pU V [(12,39),(14,41)] fr) w3 _
    exact Ob.rc_sll rfl tb39 tb41 (hrunt2 w3) rfl rfl True.intro
   ·intro V S w3 HM HU HE
    have HM:Mod w2 w3 (fun b=>b=p):=HM
    have tb35:=(Rg.uE V fr 35 [(8,35),(15,42)] (by rw [hz];decide)).trans rfl
    have h15:V 15=_:=HU.holds 15 (by decide)
    have tb42:=(Rg.uE V fr 42 [(8,35),(15,42)] (by rw [hz];decide)).trans h15
    show Rg.Dz _ _ V (Rg.pU V [(8,35),(15,42)] fr) w3 _
    exact step_capp bytesTy (i:=8) (n:=j) (m:=(n-j1)) (xs:=xs.take j) (ys:=xs.drop j1) rfl tb35 tb42 rfl (by decide) (HU.holds 8 (by decide)) (HTL2.out w2 HM9.out w3 HM) (HM2.out) (HD2.out) (by have:=HLE.out;omega) (rfl) (rfl) (fun x=>Rg.aN rfl V x) True.intro
   ·intro V S w3 HM HU HE
    have h0:V 0=_:=HU.holds 0 (by decide)
    have tb27:=(Rg.uE V fr 27 [(0,27)] (by rw [hz];decide)).trans h0
    show Rg.Dz _ _ V (Rg.pU V [(0,27)] fr) w3 _
    exact Ob.rc_mv (.pointer (some ⟨p,0,none⟩)) (by simp only [execOp,tb27];go_simp) rfl rfl True.intro
   ·intro V S w3 HM HU HE
    have h17:V 17=_:=HU.holds 17 (by decide)
    have tb44:=(Rg.uE V fr 44 [(17,44)] (by rw [hz];decide)).trans h17
    show Rg.Dz _ _ V (Rg.pU V [(17,44)] fr) w3 _
    exact Ob.rc_mv (.pointer (some ⟨p,1,none⟩)) (by simp only [execOp,tb44];go_simp) rfl rfl True.intro
   ·intro V S w3 HM HU HE
    have h18:V 18=_:=HU.holds 18 (by decide)
    have tb45:=(Rg.uE V fr 45 [(18,45),(16,43)] (by rw [hz];decide)).trans h18
    have hc16:(crow 39 1 ((j+(n-j1))) ((xs.take j++xs.drop j1))).holds (V 16) w3 (S 16):=HU.holds 16 (by decide)
    obtain ⟨A9,c9,e9,_⟩:=Tm.oF hc16.1
    have tb43:=(Rg.uE V fr 43 [(18,45),(16,43)] (by rw [hz];decide)).trans e9
    show Rg.Dz _ _ V (Rg.pU V [(18,45),(16,43)] fr) w3 _
    have hbk:(cobj 84 p [x9,(.slice A2 n c2),ev]).holds (V 20) w3 (S 20):=HU.holds 20 (by decide)
    have cl:=hbk.1.cell 1
    have fl:=hbk.1.frozen 1
    exact step_cput (i:=1) (cs:=[x9,(.slice A2 n c2),ev]) _ e9 rfl (by decide) (by decide) hbk hc16 (by decide) (HU.lt 16 (by decide)) (fun x=>Rg.aN rfl V x) True.intro (by simp only [execOp,tb45,tb43];go_simp)
  ·intro V S w3 HI
   have hbx:(cbox 84 p 1 [x9,(.slice A2 n c2),ev] 39 1 ((j+(n-j1))) ((xs.take j++xs.drop j1))).holds (V 19) w3 (S 19):=HI.get 19 (by decide) (by rfl)
   have hmod:OnlyP p w2 w3:=HI.mod.undrew
   have hlt9:=HI.lt 19
   have hlv:Rc.Live [(8,1),(16,8),(19,20),(19,16)] (fun i=>i<21) 19:=⟨by decide,fun k _ hk=>by have:=List.all_eq_true.1 (show [(8,1),(16,8),(19,20),(19,16)].all (fun x=>x.2 != 19)=true from by rfl) _ hk;simp at this⟩
   obtain ⟨_,x10,hk9,ho9,hs9⟩:=hbx
   have hx9:w3.ownsRow w2.heap.size 39 1 x10 ((j+(n-j1))) ((xs.take j++xs.drop j1)):=own_up ho9 fun b hb=>((hlt9 b hlv (hs9 b hb)).2).resolve_left fun e=>by have h3:=(Tm.oB ho9 hb).2.2;obtain ⟨cs3,h3⟩:=h3;exact absurd e (h3.ne_ hk9 (by decide))
   clear hlt9 hlv ho9 hs9 HI
   simp only [Rg.putList,Act.put,List.setIfInBounds_toArray,List.set_cons_zero,List.set_cons_succ,Nat.zero_add,Nat.reduceAdd]
   refine bodyPost_end (results_none rfl _ _ _) rfl ?_
   exact HEND.out w3 _ _ (only_trans HM9.out hmod) hk9 (own_only HX.out HK.out.lt hmod (by decide) HK.out) (own_mono hx9 HM9.out.size)
set_option maxRecDepth 100000 in
theorem add_any (h:RA p nv dv ev D t w) (d:Int) (x:Bs) (i:Int) (hfew:(Tr.flat t).length≤5000000) (hf:Tr.flat t'=insF (Tr.flat t) d x i) (hn:t'.map (·.nd)=t.map (·.nd)) (hd:t'.map (·.data)=t.map (·.data)) :
    Calls Tryz.prog 56 #[.pointer (some ⟨p,0,none⟩),.int .i64 d,.string (strOf x),.int .i64 i] w (RTurn p t' (.tuple #[]) (RS p nv ev D) w):=by
 have HEND:Hid (∀ w2 ev',OnlyP p w w2→Blk w2 p 84 [nv,dv,ev']→w2.ownsRow w.heap.size 110 3 ev' (Tr.flat t').length (flCells (Tr.flat t'))→RTurn p t' (.tuple #[]) (RS p nv ev D) w (.returned (.tuple #[])) w2):=fun w2 ev' hm hb ho=>(h.ents hm hb ho hn hd).turn
 obtain ⟨l,hl⟩:∃ l,l=Tr.flat t:=⟨_,rfl⟩
 obtain ⟨l',hl'⟩:∃ l',l'=Tr.flat t':=⟨_,rfl⟩
 have hO:=h.in_.ents
 rw [← hl] at hO hfew hf
 rw [← hl'] at HEND hf
 obtain ⟨A,c,hev,hnc,hS⟩:=srcs hO h.np.2.1
 have HFEW:=Lib.hid hfew
 have HF:=Lib.hid hf
 have HNC:=Lib.hid hnc
 have HS:=Lib.hid hS
 obtain ⟨A9,c9,hev2,_,hA⟩:=Tm.oF hO
 have HA:=Lib.hid hA
 rw [hev] at hev2
 injection hev2 with e1 _ e2
 subst e1 e2
 subst hev
 have HBX:=Lib.hid h.in_.box
 have c0:w.cell? ⟨p,2,none⟩=some (.slice A l.length c):=HBX.out.cell 2
 clear h hO hS hl hl' hf hn hd hfew hnc hA
 go_enter Tryz.func56,Tryz.ntmps56
 go_upto_block 0 with (fail)
 go_cut [8] (fun t8 wx=>∃ j:Nat,t8=.int .i64 (j:Nat)∧Hid (j≤l.length∧l'=l.take j++(d,(x,i)) :: l.drop j)∧w=wx)
 case first =>
  go_wp2_with fail
  go_loopw [8] (fun t8 wr=>∃ j:Nat,t8=.int .i64 j∧j≤l.length∧Hid (∀ m ∈ l.take j,ahead m d x=true)∧wr=w) (fun t8 _=>l.length-(match t8 with|.int _ k=>k.toNat|_=>0))
  case atStart=>exact ⟨0,rfl,Nat.zero_le _,fun e he=>by simp at he,rfl⟩
  case round =>
   obtain ⟨j,rfl,hj,HN1,rfl⟩:=hrel
   have hfew:=HFEW.out
   by_cases hk:j<l.length
   ·obtain ⟨y,hy⟩:∃ y,l[j]?=some y:=⟨_,List.getElem?_eq_getElem hk⟩
    obtain ⟨q,rfl,_,_,hql,hcell⟩:=HA.out (by omega)
    have d0:wr.cell? ⟨q,j*3,none⟩=some (.int .i64 y.1):=hcell _ _ (fl_get hy 0 (by omega))
    have d1:wr.cell? ⟨q,j*3+1,none⟩=some (.string (strOf y.2.1)):=hcell _ _ (fl_get hy 1 (by omega))
    have hlt2:(j:Int)<(l.length:Int):=by omega
    have HNX:Hid (ahead y d x=true→∀ m ∈ l.take (j+1),ahead m d x=true):=fun ha m hm=>by
     rw [List.take_succ_eq_append_getElem hk,List.mem_append] at hm
     rcases hm with hm|hm
     ·exact HN1.out m hm
     ·simp only [List.mem_singleton] at hm
      rw [hm,(List.getElem?_eq_some_iff.1 hy).2];exact ha
    have HST:Hid (ahead y d x=false→j≤l.length∧l'=l.take j++(d,(x,i)) :: l.drop j):=fun ha=>by
     refine ⟨hj,?_⟩
     rw [HF.out]
     exact insF_at d x i l j hj HN1.out fun e he=>by rw [hy] at he;injection he with he;rw [← he];exact ha
    obtain ⟨y1,y2,y3⟩:=y
    simp only at d0 d1
    clear hy hcell hql HN1
    by_cases h1:y1<d
    ·have HN:=Lib.hid (HNX.out (by simp [ahead,h1]))
     clear HNX HST
     go_wp2_with fail
     go_roundw
     case rel=>exact ⟨j+1,by go_num,by omega,HN.out,by first|rfl|trivial⟩
     case measure=>simp;omega
    ·by_cases h2:y1=d
     ·subst h2
      cases hb:Tr.less y2 x with
      | true =>
        have hbb:Op.bytesLess (strOf y2).toList (strOf x).toList=true:=by rw [strOf_list,strOf_list];exact hb
        have HN:=Lib.hid (HNX.out (by simp [ahead,hb]))
        clear HNX HST hb
        go_wp2_with fail
        go_roundw
        case rel=>exact ⟨j+1,by go_num,by omega,HN.out,by first|rfl|trivial⟩
        case measure=>simp;omega
      | false =>
        have hbb:Op.bytesLess (strOf y2).toList (strOf x).toList=false:=by rw [strOf_list,strOf_list];exact hb
        have HN:=Lib.hid (HST.out (by simp [ahead,hb]))
        clear HNX HST hb
        go_wp2_with fail
        go_meet
        case rel=>exact ⟨j,rfl,HN.out,rfl⟩
     ·have h2b:(y1==d)=false:=by rw [beq_eq_false_iff_ne];exact h2
      have HN:=Lib.hid (HST.out (by simp [ahead,h1,h2]))
      clear HNX HST h2
      go_wp2_with fail
      go_meet
      case rel=>exact ⟨j,rfl,HN.out,rfl⟩
   ·obtain rfl:j=l.length:=by omega
    have HN:Hid (l.length≤l.length∧l'=l.take l.length++(d,(x,i)) :: l.drop l.length):=by
     refine ⟨Nat.le_refl _,?_⟩
     rw [HF.out]
     exact insF_at d x i l l.length (Nat.le_refl _) HN1.out fun e he=>by rw [List.getElem?_eq_none (Nat.le_refl _)] at he;cases he
    clear HN1 hk hj
    go_wp2_with fail
    go_meet
    case rel=>exact ⟨l.length,rfl,HN.out,rfl⟩
 case rest =>
  obtain ⟨j,rfl,HJ,rfl⟩:=hcut
  have hj:=HJ.out.1
  have hnc:=HNC.out
  have hfew:=HFEW.out
  have HHD:Hid (∀ W,OnlyP p w W→Src W A (flCells (l.take j))):=fun W hW=>by
   rw [← flCells_take]
   exact (HS.out W hW).1.head _
  have HTL:Hid (∀ W,OnlyP p w W→Src W (cutR A j 3 c) (flCells (l.drop j))):=fun W hW=>by
   by_cases hjl:j<l.length
   ·rw [← flCells_drop]
    exact (HS.out W hW).2 j hjl
   ·rw [List.drop_eq_nil_of_le (by omega)]
    exact Src.nil _ _
  have HL1:Hid ((flCells (l.take j)).length=j*3):=by show _=_;rw [flCells_length,List.length_take,Nat.min_eq_left (by omega)]
  have HL2:Hid ((flCells (l.drop j)).length=(l.length-j)*3):=by show _=_;rw [flCells_length,List.length_drop]
  have HN2:Hid (l'.length=j+1+(l.length-j)∧flCells l'=(flCells (l.take j)++flCell (d,(x,i)))++flCells (l.drop j)):=by
   refine ⟨?_,?_⟩
   ·rw [HJ.out.2,List.length_append,List.length_take,List.length_cons,List.length_drop];omega
   ·rw [HJ.out.2,flCells_app,List.append_assoc];rfl
  have hrunh:=fun W=>run_head entTy W A l.length c j (by omega)
  have hrunt:=fun W=>run_tail entTy W A l.length c j (by omega)
  have HLE:Hid (j≤5000000∧j+1+(l.length-j)≤5000001):=⟨by omega,by omega⟩
  clear HS HA HNC HFEW HF HJ hj hnc hfew c0
  go_upto_region 3 with (fail)
  refine Rc.wp_region (by kernel_rfl) (fun opn=>List.getD [Rc.val (.pointer (some ⟨p,0,none⟩)),crow 110 3 (0) ([]),Rc.val (.pointer (some ⟨p,0,none⟩)),Rc.val (.pointer (some ⟨p,0,none⟩)),Rc.val (.pointer (some ⟨p,2,none⟩)),Rc.val (.slice A l.length c),Rc.val (.int .i64 (j:Nat)),Rc.val (.slice A j c),crow 110 3 (j) (flCells (l.take j)),Rc.val (.int .i64 d),Rc.val (.string (strOf x)),Rc.val (.int .i64 i),Rc.val (.agg #[.int .i64 d,.string (strOf x),.int .i64 i]),crow 110 3 (1) (flCell (d,(x,i))),crow 110 3 ((j+1)) ((flCells (l.take j)++flCell (d,(x,i)))),Rc.val (.pointer (some ⟨p,0,none⟩)),Rc.val (.pointer (some ⟨p,0,none⟩)),Rc.val (.pointer (some ⟨p,2,none⟩)),Rc.val (.slice A l.length c),Rc.val (.int .i64 (j:Nat)),Rc.val (.slice (cutR A j 3 c) (l.length-j) (c-j)),crow 110 3 (l'.length) (flCells l'),Rc.val (.pointer (some ⟨p,0,none⟩)),Rc.val (.pointer (some ⟨p,2,none⟩)),cbox 84 p 2 [nv,dv,(.slice A l.length c)] 110 3 (l'.length) (flCells l'),cobj 84 p [nv,dv,(.slice A l.length c)]] opn Rc.any) 1 [] [[],[],[],[(2,56)],[(3,57)],[(4,58)],[],[(5,59),(6,60)],[(1,55),(7,61)],[],[],[],[(9,63),(10,64),(11,65)],[(12,66)],[(8,62),(13,67)],[],[(15,69)],[(16,70)],[(17,71)],[],[(18,72),(19,73)],[(14,68),(20,74)],[(0,54)],[(22,76)],[(23,77),(21,75)]] [[],[],[],[2],[3],[4],[],[5,6],[1,7],[],[],[],[9,10,11],[12],[8,13],[],[15],[16],[17],[],[18,19],[14,20],[0],[22],[5,18,21,23]] [[],[],[],[2],[3],[4,25],[],[5,6],[1,7],[],[],[],[9,10,11],[12],[8,13],[],[15],[16],[17,25],[],[18,19],[14,20],[0],[22],[23,21,25]] [(8,1),(14,8),(21,14),(24,25),(24,21)] (by kernel_rfl) (by rfl) (by kernel_rfl) (fun b=>b=p) (fun _ b=>b=p) (box_inv HBX.out _ _ 25 rfl) ?_ ?_
  ·intro fr ha
   have hz:fr.tmps.size=78:=by rw [ha];rfl
   have y0:fr.eval (.tmp 0)=.pointer (some ⟨p,0,none⟩):=by rw [ha];rfl
   have y1:fr.eval (.tmp 1)=.int .i64 d:=by rw [ha];rfl
   have y2:fr.eval (.tmp 2)=.string (strOf x):=by rw [ha];rfl
   have y3:fr.eval (.tmp 3)=.int .i64 i:=by rw [ha];rfl
   have y8:fr.eval (.tmp 8)=.int .i64 (j:Nat):=by rw [ha];rfl
   clear ha
   refine .cons ?_ (.cons ?_ (.cons ?_ (.cons ?_ (.cons ?_ (.cons ?_ (.cons ?_ (.cons ?_ (.cons ?_ (.cons ?_ (.cons ?_ (.cons ?_ (.cons ?_ (.cons ?_ (.cons ?_ (.cons ?_ (.cons ?_ (.cons ?_ (.cons ?_ (.cons ?_ (.cons ?_ (.cons ?_ (.cons ?_ (.cons ?_ (.cons ?_ (.nil)))))))))))))))))))))))))
   ·intro V S w2 HM HU HE
    have tb0:=(Rg.uE V fr 0 [] (by rw [hz];decide)).trans y0
    show Rg.Dz _ _ V (Rg.pU V [] fr) w2 _
    exact Ob.rc_mv (.pointer (some ⟨p,0,none⟩)) (by simp only [execOp,tb0];go_simp) rfl rfl True.intro
   ·intro V S w2 HM HU HE
    show Rg.Dz _ _ V (Rg.pU V [] fr) w2 _
    exact step_cnil 110 3 rfl (fun x=>Rg.aN rfl V x) True.intro (by simp only [execOp,List.map_toArray,List.map_nil];go_simp)
   ·intro V S w2 HM HU HE
    have tb0:=(Rg.uE V fr 0 [] (by rw [hz];decide)).trans y0
    show Rg.Dz _ _ V (Rg.pU V [] fr) w2 _
    exact Ob.rc_mv (.pointer (some ⟨p,0,none⟩)) (by simp only [execOp,tb0];go_simp) rfl rfl True.intro
   ·intro V S w2 HM HU HE
    have h2:V 2=_:=HU.holds 2 (by decide)
    have tb56:=(Rg.uE V fr 56 [(2,56)] (by rw [hz];decide)).trans h2
    show Rg.Dz _ _ V (Rg.pU V [(2,56)] fr) w2 _
    exact Ob.rc_mv (.pointer (some ⟨p,0,none⟩)) (by simp only [execOp,tb56];go_simp) rfl rfl True.intro
   ·intro V S w2 HM HU HE
    have h3:V 3=_:=HU.holds 3 (by decide)
    have tb57:=(Rg.uE V fr 57 [(3,57)] (by rw [hz];decide)).trans h3
    show Rg.Dz _ _ V (Rg.pU V [(3,57)] fr) w2 _
    exact Ob.rc_mv (.pointer (some ⟨p,2,none⟩)) (by simp only [execOp,tb57];go_simp) rfl rfl True.intro
   ·intro V S w2 HM HU HE
    have h4:V 4=_:=HU.holds 4 (by decide)
    have tb58:=(Rg.uE V fr 58 [(4,58)] (by rw [hz];decide)).trans h4
    show Rg.Dz _ _ V (Rg.pU V [(4,58)] fr) w2 _
    have hbk:(cobj 84 p [nv,dv,(.slice A l.length c)]).holds (V 25) w2 (S 25):=HU.holds 25 (by decide)
    have cl:=hbk.1.cell 2
    exact Ob.rc_mv (.slice A l.length c) (by simp only [execOp,tb58];go_simp) rfl rfl True.intro
   ·intro V S w2 HM HU HE
    have tb8:=(Rg.uE V fr 8 [] (by rw [hz];decide)).trans y8
    show Rg.Dz _ _ V (Rg.pU V [] fr) w2 _
    exact Ob.rc_mv (.int .i64 (j:Nat)) (by simp only [execOp,tb8];go_simp) rfl rfl True.intro
   ·intro V S w2 HM HU HE
    have h5:V 5=_:=HU.holds 5 (by decide)
    have tb59:=(Rg.uE V fr 59 [(5,59),(6,60)] (by rw [hz];decide)).trans h5
    have h6:V 6=_:=HU.holds 6 (by decide)
    have tb60:=(Rg.uE V fr 60 [(5,59),(6,60)] (by rw [hz];decide)).trans h6
    show Rg.Dz _ _ V (Rg.pU V [(5,59),(6,60)] fr) w2 _
    exact Ob.rc_slh rfl tb59 tb60 (hrunh w2) rfl rfl True.intro
   ·intro V S w2 HM HU HE
    have HM:Mod w w2 (fun b=>b=p):=HM
    have tb55:=(Rg.uE V fr 55 [(1,55),(7,61)] (by rw [hz];decide)).trans rfl
    have h7:V 7=_:=HU.holds 7 (by decide)
    have tb61:=(Rg.uE V fr 61 [(1,55),(7,61)] (by rw [hz];decide)).trans h7
    show Rg.Dz _ _ V (Rg.pU V [(1,55),(7,61)] fr) w2 _
    exact step_capp entTy (i:=1) (n:=0) (m:=j) (xs:=[]) (ys:=flCells (l.take j)) rfl tb55 tb61 rfl (by decide) (HU.holds 1 (by decide)) (HHD.out w2 HM) (HL1.out) (flCells_one _) (by have:=HLE.out;omega) (by omega) (rfl) (fun x=>Rg.aN rfl V x) True.intro
   ·intro V S w2 HM HU HE
    have tb1:=(Rg.uE V fr 1 [] (by rw [hz];decide)).trans y1
    show Rg.Dz _ _ V (Rg.pU V [] fr) w2 _
    exact Ob.rc_mv (.int .i64 d) (by simp only [execOp,tb1];go_simp) rfl rfl True.intro
   ·intro V S w2 HM HU HE
    have tb2:=(Rg.uE V fr 2 [] (by rw [hz];decide)).trans y2
    show Rg.Dz _ _ V (Rg.pU V [] fr) w2 _
    exact Ob.rc_mv (.string (strOf x)) (by simp only [execOp,tb2];go_simp) rfl rfl True.intro
   ·intro V S w2 HM HU HE
    have tb3:=(Rg.uE V fr 3 [] (by rw [hz];decide)).trans y3
    show Rg.Dz _ _ V (Rg.pU V [] fr) w2 _
    exact Ob.rc_mv (.int .i64 i) (by simp only [execOp,tb3];go_simp) rfl rfl True.intro
   ·intro V S w2 HM HU HE
    have h9:V 9=_:=HU.holds 9 (by decide)
    have tb63:=(Rg.uE V fr 63 [(9,63),(10,64),(11,65)] (by rw [hz];decide)).trans h9
    have h10:V 10=_:=HU.holds 10 (by decide)
    have tb64:=(Rg.uE V fr 64 [(9,63),(10,64),(11,65)] (by rw [hz];decide)).trans h10
    have h11:V 11=_:=HU.holds 11 (by decide)
    have tb65:=(Rg.uE V fr 65 [(9,63),(10,64),(11,65)] (by rw [hz];decide)).trans h11
    show Rg.Dz _ _ V (Rg.pU V [(9,63),(10,64),(11,65)] fr) w2 _
    exact Ob.rc_mv (.agg #[.int .i64 d,.string (strOf x),.int .i64 i]) (by simp only [execOp,List.map_toArray,List.map_cons,List.map_nil,tb63,tb64,tb65];go_simp) rfl rfl True.intro
   ·intro V S w2 HM HU HE
    have h12:V 12=_:=HU.holds 12 (by decide)
    have tb66:=(Rg.uE V fr 66 [(12,66)] (by rw [hz];decide)).trans h12
    show Rg.Dz _ _ V (Rg.pU V [(12,66)] fr) w2 _
    exact step_cone 110 3 (flCell (d,(x,i))) rfl rfl (fun x=>Rg.aN rfl V x) True.intro (by simp only [execOp,List.map_toArray,List.map_cons,List.map_nil,tb66];go_simp;try rfl)
   ·intro V S w2 HM HU HE
    have tb62:=(Rg.uE V fr 62 [(8,62),(13,67)] (by rw [hz];decide)).trans rfl
    have tb67:=(Rg.uE V fr 67 [(8,62),(13,67)] (by rw [hz];decide)).trans rfl
    show Rg.Dz _ _ V (Rg.pU V [(8,62),(13,67)] fr) w2 _
    exact step_capp2 entTy (i:=8) (i2:=13) (n:=j) (m:=1) (xs:=flCells (l.take j)) (ys:=flCell (d,(x,i))) rfl tb62 tb67 rfl (by decide) (HU.holds 8 (by decide)) (HU.holds 13 (by decide)) (flCells_one [(d,(x,i))]) (by have:=HLE.out;omega) (rfl) (rfl) (fun x=>Rg.aN rfl V x) True.intro
   ·intro V S w2 HM HU HE
    have tb0:=(Rg.uE V fr 0 [] (by rw [hz];decide)).trans y0
    show Rg.Dz _ _ V (Rg.pU V [] fr) w2 _
    exact Ob.rc_mv (.pointer (some ⟨p,0,none⟩)) (by simp only [execOp,tb0];go_simp) rfl rfl True.intro
   ·intro V S w2 HM HU HE
    have h15:V 15=_:=HU.holds 15 (by decide)
    have tb69:=(Rg.uE V fr 69 [(15,69)] (by rw [hz];decide)).trans h15
    show Rg.Dz _ _ V (Rg.pU V [(15,69)] fr) w2 _
    exact Ob.rc_mv (.pointer (some ⟨p,0,none⟩)) (by simp only [execOp,tb69];go_simp) rfl rfl True.intro
   ·intro V S w2 HM HU HE
    have h16:V 16=_:=HU.holds 16 (by decide)
    have tb70:=(Rg.uE V fr 70 [(16,70)] (by rw [hz];decide)).trans h16
    show Rg.Dz _ _ V (Rg.pU V [(16,70)] fr) w2 _
    exact Ob.rc_mv (.pointer (some ⟨p,2,none⟩)) (by simp only [execOp,tb70];go_simp) rfl rfl True.intro
   ·intro V S w2 HM HU HE
    have h17:V 17=_:=HU.holds 17 (by decide)
    have tb71:=(Rg.uE V fr 71 [(17,71)] (by rw [hz];decide)).trans h17
    show Rg.Dz _ _ V (Rg.pU V [(17,71)] fr) w2 _
    have hbk:(cobj 84 p [nv,dv,(.slice A l.length c)]).holds (V 25) w2 (S 25):=HU.holds 25 (by decide)
    have cl:=hbk.1.cell 2
    exact Ob.rc_mv (.slice A l.length c) (by simp only [execOp,tb71];go_simp) rfl rfl True.intro
   ·intro V S w2 HM HU HE
    have tb8:=(Rg.uE V fr 8 [] (by rw [hz];decide)).trans y8
    show Rg.Dz _ _ V (Rg.pU V [] fr) w2 _
    exact Ob.rc_mv (.int .i64 (j:Nat)) (by simp only [execOp,tb8];go_simp) rfl rfl True.intro
   ·intro V S w2 HM HU HE
    have h18:V 18=_:=HU.holds 18 (by decide)
    have tb72:=(Rg.uE V fr 72 [(18,72),(19,73)] (by rw [hz];decide)).trans h18
    have h19:V 19=_:=HU.holds 19 (by decide)
    have tb73:=(Rg.uE V fr 73 [(18,72),(19,73)] (by rw [hz];decide)).trans h19
    show Rg.Dz _ _ V (Rg.pU V [(18,72),(19,73)] fr) w2 _
    exact Ob.rc_sll rfl tb72 tb73 (hrunt w2) rfl rfl True.intro
   ·intro V S w2 HM HU HE
    have HM:Mod w w2 (fun b=>b=p):=HM
    have tb68:=(Rg.uE V fr 68 [(14,68),(20,74)] (by rw [hz];decide)).trans rfl
    have h20:V 20=_:=HU.holds 20 (by decide)
    have tb74:=(Rg.uE V fr 74 [(14,68),(20,74)] (by rw [hz];decide)).trans h20
    show Rg.Dz _ _ V (Rg.pU V [(14,68),(20,74)] fr) w2 _
    exact step_capp entTy (i:=14) (n:=(j+1)) (m:=(l.length-j)) (xs:=(flCells (l.take j)++flCell (d,(x,i)))) (ys:=flCells (l.drop j)) rfl tb68 tb74 rfl (by decide) (HU.holds 14 (by decide)) (HTL.out w2 HM) (HL2.out) (flCells_one _) (by have:=HLE.out;omega) (HN2.out.1) (HN2.out.2) (fun x=>Rg.aN rfl V x) True.intro
   ·intro V S w2 HM HU HE
    have h0:V 0=_:=HU.holds 0 (by decide)
    have tb54:=(Rg.uE V fr 54 [(0,54)] (by rw [hz];decide)).trans h0
    show Rg.Dz _ _ V (Rg.pU V [(0,54)] fr) w2 _
    exact Ob.rc_mv (.pointer (some ⟨p,0,none⟩)) (by simp only [execOp,tb54];go_simp) rfl rfl True.intro
   ·intro V S w2 HM HU HE
    have h22:V 22=_:=HU.holds 22 (by decide)
    have tb76:=(Rg.uE V fr 76 [(22,76)] (by rw [hz];decide)).trans h22
    show Rg.Dz _ _ V (Rg.pU V [(22,76)] fr) w2 _
    exact Ob.rc_mv (.pointer (some ⟨p,2,none⟩)) (by simp only [execOp,tb76];go_simp) rfl rfl True.intro
   ·intro V S w2 HM HU HE
    have h23:V 23=_:=HU.holds 23 (by decide)
    have tb77:=(Rg.uE V fr 77 [(23,77),(21,75)] (by rw [hz];decide)).trans h23
    have hc21:(crow 110 3 (l'.length) (flCells l')).holds (V 21) w2 (S 21):=HU.holds 21 (by decide)
    obtain ⟨A9,c9,e9,_⟩:=Tm.oF hc21.1
    have tb75:=(Rg.uE V fr 75 [(23,77),(21,75)] (by rw [hz];decide)).trans e9
    show Rg.Dz _ _ V (Rg.pU V [(23,77),(21,75)] fr) w2 _
    have hbk:(cobj 84 p [nv,dv,(.slice A l.length c)]).holds (V 25) w2 (S 25):=HU.holds 25 (by decide)
    have cl:=hbk.1.cell 2
    have fl:=hbk.1.frozen 2
    exact step_cput (i:=2) (cs:=[nv,dv,(.slice A l.length c)]) _ e9 rfl (by decide) (by decide) hbk hc21 (by decide) (HU.lt 21 (by decide)) (fun x=>Rg.aN rfl V x) True.intro (by simp only [execOp,tb77,tb75];go_simp)
  ·intro V S w2 HI
   have hbx:(cbox 84 p 2 [nv,dv,(.slice A l.length c)] 110 3 (l'.length) (flCells l')).holds (V 24) w2 (S 24):=HI.get 24 (by decide) (by rfl)
   have hmod:OnlyP p w w2:=HI.mod.undrew
   have hlt9:=HI.lt 24
   have hlv:Rc.Live [(8,1),(14,8),(21,14),(24,25),(24,21)] (fun i=>i<26) 24:=⟨by decide,fun k _ hk=>by have:=List.all_eq_true.1 (show [(8,1),(14,8),(21,14),(24,25),(24,21)].all (fun x=>x.2 != 24)=true from by rfl) _ hk;simp at this⟩
   obtain ⟨_,x9,hk9,ho9,hs9⟩:=hbx
   have hx9:w2.ownsRow w.heap.size 110 3 x9 (l'.length) (flCells l'):=own_up ho9 fun b hb=>((hlt9 b hlv (hs9 b hb)).2).resolve_left fun e=>by have h3:=(Tm.oB ho9 hb).2.2;obtain ⟨cs3,h3⟩:=h3;exact absurd e (h3.ne_ hk9 (by decide))
   clear hlt9 hlv ho9 hs9 HI
   simp only [Rg.putList,Act.put,List.setIfInBounds_toArray,List.set_cons_zero,List.set_cons_succ,Nat.zero_add,Nat.reduceAdd]
   refine bodyPost_end (results_none rfl _ _ _) rfl ?_
   exact HEND.out _ _ hmod hk9 hx9
end Rf
end Go.Proofs.YtjoedamiilgajaaGreat
namespace Go.Proofs.YtjoedamiilgajaaGreat
open Go.RowKit Rc
open Tr (Nm En T)
namespace Rf
variable {p:Nat} {nv dv ev:Value} {D:Nat→Prop} {t:T} {w:World}
set_option maxRecDepth 100000 in
theorem lookF_any (h:RIn p nv dv ev D t w) (hG:Tr.Good t) (hD:∀ b,D b→b<w.heap.size) (A:Option Addr) (q:List Bs) (cap:Nat) (hr:RdS w A q) (hl:q.length≤1000000) :
    Calls Tryz.prog 66 #[.pointer (some ⟨p,0,none⟩),.slice A q.length cap] w fun e w'=>e=.returned (.tuple #[.int .i64 (Tr.lF t 0 q).1,.int .i64 ((Tr.lF t 0 q).2:Nat)])∧Below w.heap.size w w':=by
 have HIN:Hid (∀ W,Below w.heap.size w W→RIn p nv dv ev D t W∧∀ b,D b→b<W.heap.size):=fun W hW=>⟨h.keep hW.size fun b hb=>hW.block b (RS_lt h hb hD),fun b hb=>Nat.lt_of_lt_of_le (hD b hb) hW.size⟩
 have HR:=Lib.hid hr
 have HG:=Lib.hid hG
 have HFL:Hid ((Tr.flat t).length≤4194240):=hG.flat_le
 have HTL:Hid (t.length≤1000000):=by have:=hG.few;show _≤_;omega
 obtain ⟨Ae,ce,rfl,hce,hAe⟩:=Tm.oF h.ents
 have HAE:=Lib.hid hAe
 have HCE:Hid (∀ W,Below w.heap.size w W→W.cell? ⟨p,2,none⟩=some (.slice Ae (Tr.flat t).length ce)):=fun W hW=>(hW.cell (p:=⟨p,2,none⟩) h.box.lt).trans (h.box.cell 2)
 clear h hr hG hD hAe
 obtain ⟨R,hR⟩:∃ R,R=Tr.lF t 0 q:=⟨_,rfl⟩
 rw [← hR]
 have HRE:=Lib.hid hR
 clear hR
 go_enter Tryz.func66,Tryz.ntmps66
 go_wp2_with fail
 go_loopw [6,7,8,9,10] (fun t6 t7 t8 t9 t10 wr=>∃ (j:Nat) (id:Int) (v8 v9 v10:Value),t6=.int .i64 id∧t7=.int .i64 j∧t8=v8∧t9=v9∧t10=v10∧j≤q.length∧Hid (R=Tr.lF t id (q.drop j))∧Hid (Below w.heap.size w wr)) (fun _ t7 _ _ _ _=>q.length-(match t7 with|.int _ k=>k.toNat|_=>0))
 case atStart=>exact ⟨0,0,_,_,_,rfl,rfl,rfl,rfl,rfl,Nat.zero_le _,HRE.out,Below.refl _ _⟩
 case round =>
  obtain ⟨j,id,v8,v9,v10,rfl,rfl,rfl,rfl,rfl,hj,HL,HB⟩:=hrel
  by_cases hk:j<q.length
  ·obtain ⟨x,hx⟩:∃ x,q[j]?=some x:=⟨_,List.getElem?_eq_getElem hk⟩
   obtain ⟨b,off,rfl,hbl,hcell⟩:=HR.out (by omega)
   have HCX:Hid (∀ W,Below w.heap.size w W→W.cell? ⟨b,off+j,none⟩=some (.string (strOf x))):=fun W hW=>(hW.cell (p:=⟨b,off+j,none⟩) hbl).trans (hcell j x hx)
   have hlt:(j:Int)<(q.length:Int):=by omega
   have hdr:q.drop j=x :: q.drop (j+1):=by
    rw [List.drop_eq_getElem_cons hk]
    rw [List.getElem?_eq_getElem hk] at hx
    injection hx with hx
    rw [hx]
   have hL:=HL.out
   rw [hdr,Tr.lookF_cons] at hL
   obtain ⟨hin1,hin2⟩:=HIN.out wr HB.out
   have HND:=Lib.hid (node_any hin1 hin2 id HTL.out)
   have hkd:Tr.kindOf t id=(Tr.ndOf t id).kind:=rfl
   rw [hkd] at hL
   have e0:Tr.node t id=(Tr.ndOf t id,(Tr.find t id).isSome):=rfl
   rw [e0] at HND
   obtain ⟨fo,hfo⟩:∃ fo,fo=(Tr.find t id).isSome:=⟨_,rfl⟩
   rw [← hfo] at HND
   obtain ⟨⟨a1,a2,a3,a4,a5,a6⟩,hnd⟩:∃ nd,nd=Tr.ndOf t id:=⟨_,rfl⟩
   rw [← hnd] at HND hL
   unfold Nd.val at HND
   simp only at HND hL
   have HL2:=Lib.hid hL
   clear hx hcell hbl hdr hL hin1 hin2 hkd e0 hfo hnd
   go_wp2_with fail
   refine HND.out.mono ?_
   rintro e w1 ⟨rfl,hb1⟩
   have HB1:Hid (Below w.heap.size w w1):=HB.out.trans (hb1.mono HB.out.size)
   have HB2:Hid (Below w.heap.size w (w1.alloc (.cells #[.int .i64 a1,.int .i64 a2,.int .i64 a3,.int .i64 a4,.int .u64 (a5:Nat),.bool a6] 59))):=HB1.out.alloc HB1.out.size _
   clear hb1 HND
   by_cases h2:a2=2
   case neg =>
    have hk2:(a2 != 2)=true:=by rw [bne_iff_ne];exact h2
    have HN:Hid (R=(0,23)):=by
     have:=HL2.out
     rw [if_pos h2] at this
     exact this
    clear h2
    go_wp2_with fail
    go_ret2
    rw [HN.out]
    exact ⟨rfl,HB2.out⟩
   subst h2
   have HL3:=Lib.hid HL2.out
   simp only [ne_eq,not_true_eq_false,if_false] at HL3
   have HEN:=Lib.hid (entry_any (HIN.out _ HB2.out).1 id x (by have:=HFL.out;omega))
   have cx:=HCX.out _ HB2.out
   have ce2:=HCE.out _ HB2.out
   clear HL2
   rcases flat_idx HG.out id x with ⟨h3,h4⟩|⟨k,j2,h3,h4,h5,h6⟩
   ·rw [h4] at HEN
    have HN:Hid (R=(0,20)):=by
     have:=HL3.out
     rw [h3] at this
     exact this
    clear h3 h4
    go_wp2_with fail
    refine HEN.out.mono ?_
    rintro e w3 ⟨rfl,rfl⟩
    go_wp2_with fail
    go_ret2
    rw [HN.out]
    exact ⟨rfl,HB2.out⟩
   ·rw [h4] at HEN
    have HN:Hid (R=Tr.lF t k (q.drop (j+1))):=by
     have:=HL3.out
     rw [h3] at this
     exact this
    obtain ⟨g,rfl,_,_,hgl,hcl⟩:=HAE.out (by omega)
    have d2:=(HB2.out.cell (p:=⟨g,j2*3+2,none⟩) hgl).trans (hcl _ _ (fl_get h5 2 (by omega)))
    simp only at d2
    have hj2:(j2:Int)<((Tr.flat t).length:Int):=by omega
    clear h3 h4 h5 hcl hgl h6
    go_wp2_with fail
    refine HEN.out.mono ?_
    rintro e w3 ⟨rfl,rfl⟩
    go_wp2_with fail
    go_roundw
    case rel=>exact ⟨j+1,k,_,_,_,rfl,by go_num,rfl,rfl,rfl,by omega,HN.out,HB2.out⟩
    case measure=>simp;omega
  ·obtain rfl:j=q.length:=by omega
   have HN:Hid (R=(id,0)):=by
    have:=HL.out
    rw [List.drop_length] at this
    exact this
   go_wp2_with fail
   go_ret2
   rw [HN.out]
   exact ⟨rfl,HB.out⟩
end Rf
end Go.Proofs.YtjoedamiilgajaaGreat
