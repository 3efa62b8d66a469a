/-
  OWN WORK. TwDo2
-/
import Derived.Test.YtjoedamiilgajaaGreatW15
import Derived.Test.YtjoedamiilgajaaGreatW01
namespace Go.Proofs.YtjoedamiilgajaaGreat
open Go.RowKit Rc
open Tr (Nm En T)
namespace Tw
def kindN (p:AskT):Int:=if p.dir=true then 2 else 1
def stepT (p:AskT) (t:T):T :=
 if p.kd=1 then (Tr.make t (Tm.nmF p.p) (kindN p)).2 else if p.kd=2 then (Tr.link t (Tm.nmF p.p) (Tm.nmF p.z)).2 else if p.kd=3 then (Tr.unlink t (Tm.nmF p.p)).2 else if p.kd=4 then (Tr.rmdir t (Tm.nmF p.p)).2
 else if p.kd=5 then (Tr.rename t (Tm.nmF p.p) (Tm.nmF p.z)).2 else if p.kd=6 then (Tr.append t p.id (p.b.take 100)).2 else if p.kd=8 then (Tr.seal_ t p.id p.u).2 else if p.kd=9 then (Tr.keep t p.id p.u).2 else if p.kd=10 then (Tr.drop t p.id).2 else t
theorem stepT_good (p:AskT) {t:T} (h:Tr.Good t):Tr.Good (stepT p t):=by
 unfold stepT
 repeat' split
 ·exact Tr.make_good h _ _
 ·exact Tr.link_good h _ _
 ·exact Tr.unlink_good h _
 ·exact Tr.rmdir_good h _
 ·exact Tr.rename_good h _ _
 ·exact Tr.append_good h _ _
 ·exact Tr.seal_good h _ _
 ·exact Tr.keep_good h _ _
 ·exact Tr.drop_good h _
 ·exact h
def Done (v r:Value) (Tp Tq:T) (B1 B2:Nat→Prop) (w:World) (e:Ending) (w':World):Prop:=(∃ b,e=.returned (.bool b))∧∃ B1' B2',Tm.TAt v Tp B1' w'∧Rf.RAt r Tq B2' w'∧(∀ k,B1' k→¬ B2' k)∧Mod w w' (fun k=>B1 k∨B2 k)∧∀ k,B1' k∨B2' k→(B1 k∨B2 k)∨w.heap.size≤k
theorem St.done {v r:Value} {Tp Tq:T} {g0:Nat} {cs:List Value} {A A2:Option Addr} {q q2:List Bs} {X:Option Addr} {b:Bs} {c c2 cb:Nat} {w0:World} {B1 B2 B1' B2':Nat→Prop} {w:World} (h:St v r Tp Tq g0 cs A A2 q q2 X b c c2 cb (fun k=>B1 k∨B2 k) w0 B1' B2' w) (y:Bool):Done v r Tp Tq B1 B2 w0 (.returned (.bool y)) w:=⟨⟨y,rfl⟩,B1',B2',h.t,h.r,h.ap,h.mod,h.sub⟩
theorem nd_eql2 (a b:Nd):∃ c,∀ w:World,(binOp .eql 59 a.val b.val).run Tryz.prog w=.ok (.bool c) w:=by
 obtain ⟨ia,ka,la,za,ta,sa⟩:=a
 obtain ⟨ib,kb,lb,zb,tb,sb⟩:=b
 refine ⟨(ia==ib)&&((ka==kb)&&((la==lb)&&((za==zb)&&(((ta:Int)==(tb:Int))&&(sa==sb))))),fun w=>?_⟩
 show (binOp .eql 59 (.agg #[.int .i64 ia,.int .i64 ka,.int .i64 la,.int .i64 za,.int .u64 (ta:Nat),.bool sa]) (.agg #[.int .i64 ib,.int .i64 kb,.int .i64 lb,.int .i64 zb,.int .u64 (tb:Nat),.bool sb])).run Tryz.prog w=_
 go_simp
 repeat' split
 all_goals simp_all
set_option maxHeartbeats 8000000 in
set_option maxRecDepth 100000 in
theorem do2_to {Q:Ending→World→Prop} {v r:Value} {Tp Tq:T} {B1 B2:Nat→Prop} {w:World} {p:AskT} (HQ:Hid (∀ e w',Done v r (stepT p Tp) (stepT p Tq) B1 B2 w e w'→Q e w')) (ht:Tm.TAt v Tp B1 w) (hr:Rf.RAt r Tq B2 w) (hap:∀ k,B1 k→¬ B2 k) (hG:Tr.Good Tp) (hG2:Tr.Good Tq) (hp:p.Fits w) (hfar:0<p.b.length→∀ k,p.X.map (·.block)=some k→¬ B1 k∧¬ B2 k) :
    Calls Tryz.prog 33 #[v,r,p.val] w Q:=by
 obtain ⟨w1,hw1⟩:∃ w1,w1=w.alloc (.cells p.cells.toArray 56):=⟨_,rfl⟩
 have hb1:Below w.heap.size w w1:=by rw [hw1];exact below_new w _
 have hk1:Blk w1 w.heap.size 56 p.cells:=by rw [hw1];exact Blk.new w _ _
 have hl1:∀ k,B1 k→k<w.heap.size:=fun k hk=>Tm.tobj.lt ht k hk
 have hl2:∀ k,B2 k→k<w.heap.size:=fun k hk=>Rf.robj.lt hr k hk
 have hsz1:w1.heap.size=w.heap.size+1:=by rw [hw1,World.size_alloc]
 have HCL:Hid (∀ W,Below w1.heap.size w1 W→W.cell? ⟨w.heap.size,1,none⟩=some (.int .i64 p.p)∧W.cell? ⟨w.heap.size,2,none⟩=some (.int .i64 p.z)):=fun W hW=>by
  have h:=hk1.below hW hk1.lt
  exact ⟨h.cell 1,h.cell 2⟩
 have HST:Hid (∀ (W:World) (A A2:Option Addr) (q q2:List Bs) (x:Bs) (c c2:Nat),Below w1.heap.size w1 W→RdS W A q→q.length≤c∧q.length≤3∧(∀ s ∈ q,s.length≤1)→(∀ k,A.map (·.block)=some k→w1.heap.size≤k)→RdS W A2 q2→q2.length≤c2∧q2.length≤3∧(∀ s ∈ q2,s.length≤1)→(∀ k,A2.map (·.block)=some k→w1.heap.size≤k)→Rd W p.X x→x.length≤100∧x.length≤p.cb→(x.length≤p.b.length) →
     St v r Tp Tq w.heap.size p.cells A A2 q q2 p.X x c c2 p.cb (fun k=>B1 k∨B2 k) w B1 B2 W):=fun W A A2 q q2 x c c2 hW r1 s1 f1 r2 s2 f2 rb sb hxb=>by
  have hWw:Below w.heap.size w W:=hb1.trans (hW.mono hb1.size)
  refine ⟨Tm.tobj.keep ht hWw.size fun k hk=>hWw.block k (hl1 k hk),Rf.robj.keep hr hWw.size fun k hk=>hWw.block k (hl2 k hk),hap,hk1.below hW hk1.lt,⟨fun h=>by have:=hl1 _ h;omega,fun h=>by have:=hl2 _ h;omega⟩,r1,r2,rb,fun hl k hk=>⟨?_,fun h=>?_,fun h=>?_⟩,fun hl k hk=>⟨?_,fun h=>?_,fun h=>?_⟩,fun hl k hk=>⟨Ob.rd_lt rb hl hk,hfar (by omega) k hk⟩,⟨s1.1,by omega,fun s hs=>by have:=s1.2.2 s hs;omega⟩,⟨s2.1,by omega,fun s hs=>by have:=s2.2.2 s hs;omega⟩,⟨sb.2,by omega⟩,Mod.of_below hWw _,fun k hk=>.inl hk⟩
  ·obtain ⟨b,off,hA,hlt,_⟩:=r1 hl;rw [hA] at hk;simp at hk;omega
  ·have h1:=f1 k hk;have h2:=hl1 k h;omega
  ·have h1:=f1 k hk;have h2:=hl2 k h;omega
  ·obtain ⟨b,off,hA,hlt,_⟩:=r2 hl;rw [hA] at hk;simp at hk;omega
  ·have h1:=f2 k hk;have h2:=hl1 k h;omega
  ·have h1:=f2 k hk;have h2:=hl2 k h;omega
 have HRB:Hid (∀ W,Below w1.heap.size w1 W→Rd W p.X p.b):=fun W hW=>(hp.rd.below hb1).below hW
 have HB7:Hid (∀ W,Below w1.heap.size w1 W→W.cell? ⟨w.heap.size,7,none⟩=some (.slice p.X p.b.length p.cb)∧W.cell? ⟨w.heap.size,0,none⟩=some (.int .i64 p.kd)):=fun W hW=>by
  have h:=hk1.below hW hk1.lt
  exact ⟨h.cell 7,h.cell 0⟩
 have HPF:=Lib.hid hp
 have HG0:=Lib.hid hG
 have HG2:=Lib.hid hG2
 have hcl:=HCL.out w1 (Below.refl _ _)
 obtain ⟨hcl1,hcl2⟩:=hcl
 have HCD:Hid (w1.drew.cell? ⟨w.heap.size,1,none⟩=some (.int .i64 p.p)∧w1.drew.cell? ⟨w.heap.size,2,none⟩=some (.int .i64 p.z)):=⟨hcl1,hcl2⟩
 have HNA:Hid (∀ W,Calls Tryz.prog 84 #[.int .i64 p.p] W fun e w'=>∃ (A:Option Addr) (q:List Bs) (cap:Nat),e=.returned (.slice A q.length cap)∧Hid (q.length≤cap∧q.length≤3∧(∀ s ∈ q,s.length≤1))∧Hid (RdS w' A q∧q=Tm.nmF p.p)∧Hid (Below W.heap.size W w')∧Hid (∀ k,A.map (·.block)=some k→W.heap.size≤k)):=fun W=>(Tm.names_at W p.p HPF.out.ip.1 HPF.out.ip.2).mono fun e w' ⟨A,c,h1,h2,h3,h4,h5,h6,h7⟩=>⟨A,_,c,h1,⟨h2,h3,h4⟩,⟨h5,rfl⟩,h6,h7⟩
 have HNB:Hid (∀ W,Calls Tryz.prog 84 #[.int .i64 p.z] W fun e w'=>∃ (A:Option Addr) (q:List Bs) (cap:Nat),e=.returned (.slice A q.length cap)∧Hid (q.length≤cap∧q.length≤3∧(∀ s ∈ q,s.length≤1))∧Hid (RdS w' A q∧q=Tm.nmF p.z)∧Hid (Below W.heap.size W w')∧Hid (∀ k,A.map (·.block)=some k→W.heap.size≤k)):=fun W=>(Tm.names_at W p.z HPF.out.ito.1 HPF.out.ito.2).mono fun e w' ⟨A,c,h1,h2,h3,h4,h5,h6,h7⟩=>⟨A,_,c,h1,⟨h2,h3,h4⟩,⟨h5,rfl⟩,h6,h7⟩
 obtain ⟨pp,hpp⟩:∃ pp,pp=p.p:=⟨_,rfl⟩
 obtain ⟨pz,hpz⟩:∃ pz,pz=p.z:=⟨_,rfl⟩
 have hval:p.val=.agg #[.int .i64 p.kd,.int .i64 p.p,.int .i64 p.z,.bool p.dir,.int .i64 p.id,.int .i64 p.a,.int .i64 p.m,.slice p.X p.b.length p.cb,.int .u64 (p.u:Nat)]:=rfl
 have hcs:p.cells.toArray=#[.int .i64 p.kd,.int .i64 p.p,.int .i64 p.z,.bool p.dir,.int .i64 p.id,.int .i64 p.a,.int .i64 p.m,.slice p.X p.b.length p.cb,.int .u64 (p.u:Nat)]:=rfl
 rw [hcs] at hw1
 rw [hval]
 rw [← hpp] at HNA HCL HCD hcl1 hw1 ⊢
 rw [← hpz] at HNB HCL HCD hcl2 hw1 ⊢
 have HW1:=Lib.hid hw1
 have HPP:Hid (pp=p.p∧pz=p.z):=⟨hpp,hpz⟩
 clear hpp hpz ht hr hap hG hG2 hp hfar hb1 hk1 hl1 hl2 hsz1 hval hcs
 go_enter Tryz.func33,Tryz.ntmps33
 go_upto_region 1 with (fail)
 rw [← hw1]
 clear hw1
 go_cut [7,8] (fun t7 t8 wx=>∃ (W:World) (A A2:Option Addr) (q q2:List Bs) (c c2:Nat),W=wx∧t7=.slice A q.length c∧t8=.slice A2 q2.length c2∧Hid (Below w1.heap.size w1 W)∧Hid ((RdS W A q∧q=Tm.nmF pp)∧(q.length≤c∧q.length≤3∧(∀ s ∈ q,s.length≤1))∧(∀ k,A.map (·.block)=some k→w1.heap.size≤k))∧Hid ((RdS W A2 q2∧q2=Tm.nmF pz)∧(q2.length≤c2∧q2.length≤3∧(∀ s ∈ q2,s.length≤1))∧(∀ k,A2.map (·.block)=some k→w1.heap.size≤k)))
 case first =>
  go_region_held3 (fun w'=>w'.cell? ⟨w.heap.size,1,none⟩=some (.int .i64 pp)∧w'.cell? ⟨w.heap.size,2,none⟩=some (.int .i64 pz))
   (first
    | exact HCL.out _ (HBB.out)
    | exact HCL.out _ (HBA.out)
    | exact ⟨hcl1,hcl2⟩
    | fail)
   (first
    | (have hx:=HBA.out;clear hx;go_at_call 84;refine (HNB.out _).mono ?_;rintro e1 w3 ⟨A2,q2,c2,rfl,QB1,QB2,QB3,QB4⟩;have HBB:Hid (Below w1.heap.size w1 w3):=HBA.out.trans (Below.mono QB3.out HBA.out.size))
    | (go_at_call 84;refine (HNA.out _).mono ?_;rintro e1 w2 ⟨A,q,c,rfl,QA1,QA2,QA3,QA4⟩;have HBA:Hid (Below w1.heap.size w1 w2):=later_drew QA3.out)
    | fail)
  go_wp2_with fail
  go_meet
  case rel=>exact ⟨_,A,A2,q,q2,c,c2,rfl,rfl,rfl,HBB.out,⟨⟨QA2.out.1.below QB3.out,QA2.out.2⟩,QA1.out,QA4.out⟩,⟨QB2.out,QB1.out,fun k hk=>Nat.le_trans HBA.out.size (QB4.out k hk)⟩⟩
 case rest =>
 obtain ⟨w3,A,A2,q,q2,c,c2,hw3,rfl,rfl,HBB,HQA,HQB⟩:=hcut
 subst hw3
 clear hcl1 hcl2 HNA HNB HCL HCD
 obtain ⟨c7,c0⟩:=HB7.out w3 HBB.out
 obtain ⟨kd,hkd⟩:∃ kd,kd=p.kd:=⟨_,rfl⟩
 rw [← hkd] at c0
 have HKD:Hid (p.kd=kd):=hkd.symm
 clear hkd
 go_wp2_with fail
 refine (cut_any p.X p.b p.cb 100 HPF.out.fits (by omega) HPF.out.long w3).mono ?_
 rintro e _ ⟨rfl,rfl⟩
 obtain ⟨x,hx⟩:∃ x,x=p.b.take 100:=⟨_,rfl⟩
 rw [← hx]
 have HSTT:Hid (St v r Tp Tq w.heap.size p.cells A A2 q q2 p.X x c c2 p.cb (fun k=>B1 k∨B2 k) w B1 B2 w3):=HST.out w3 A A2 q q2 x c c2 HBB.out HQA.out.1.1 HQA.out.2.1 HQA.out.2.2 HQB.out.1.1 HQB.out.2.1 HQB.out.2.2 (by rw [hx];exact (HRB.out w3 HBB.out).take 100) ⟨by rw [hx,List.length_take];omega,by rw [hx,List.length_take];have:=HPF.out.fits;omega⟩ (by rw [hx,List.length_take];omega)
 have HQS:Hid ((∀ s ∈ q,s.length≤1)∧∀ s ∈ q2,s.length≤1):=⟨HQA.out.2.1.2.2,HQB.out.2.1.2.2⟩
 have HNQ:Hid (q=Tm.nmF p.p∧q2=Tm.nmF p.z∧x=p.b.take 100):=⟨by rw [← HPP.out.1];exact HQA.out.1.2,by rw [← HPP.out.2];exact HQB.out.1.2,hx⟩
 clear hx HST HRB HB7 HW1 HPP HQA HQB HBB c7
 go_upto_block 0 with (fail)
 go_cut [6] (fun t6 wx=>∃ (W:World) (B1' B2':Nat→Prop),W=wx∧t6=.bool false∧Hid (St v r (stepT p Tp) (stepT p Tq) w.heap.size p.cells A A2 q q2 p.X x c c2 p.cb (fun k=>B1 k∨B2 k) w B1' B2' W))
 case first =>
  clear c0
  by_cases k1:kd=1
  ·subst k1
   as_aux_lemma =>
    have d0:w3.cell? ⟨w.heap.size,0,none⟩=some (.int .i64 p.kd):=HSTT.out.box.cell 0
    have d1:w3.cell? ⟨w.heap.size,1,none⟩=some (.int .i64 p.p):=HSTT.out.box.cell 1
    have d2:w3.cell? ⟨w.heap.size,2,none⟩=some (.int .i64 p.z):=HSTT.out.box.cell 2
    have d3:w3.cell? ⟨w.heap.size,3,none⟩=some (.bool p.dir):=HSTT.out.box.cell 3
    have d4:w3.cell? ⟨w.heap.size,4,none⟩=some (.int .i64 p.id):=HSTT.out.box.cell 4
    have d5:w3.cell? ⟨w.heap.size,5,none⟩=some (.int .i64 p.a):=HSTT.out.box.cell 5
    have d6:w3.cell? ⟨w.heap.size,6,none⟩=some (.int .i64 p.m):=HSTT.out.box.cell 6
    have d7:w3.cell? ⟨w.heap.size,7,none⟩=some (.slice p.X p.b.length p.cb):=HSTT.out.box.cell 7
    have d8:w3.cell? ⟨w.heap.size,8,none⟩=some (.int .u64 (p.u:Nat)):=HSTT.out.box.cell 8
    have HKN:Hid (∀ W,Calls Tryz.prog 85 #[.agg #[.int .i64 p.kd,.int .i64 p.p,.int .i64 p.z,.bool p.dir,.int .i64 p.id,.int .i64 p.a,.int .i64 p.m,.slice p.X p.b.length p.cb,.int .u64 (p.u:Nat)]] W fun e w'=>e=.returned (.int .i64 (if p.dir=true then 2 else 1))∧Below W.heap.size W w'):=fun W=>kind_any W p
    obtain ⟨kn,hkn⟩:∃ kn:Int,kn=if p.dir=true then 2 else 1:=⟨_,rfl⟩
    rw [← hkn] at HKN
    have HKNE:Hid (kn=kindN p):=hkn
    clear hkn
    go_wp2_with fail
    refine (HKN.out w3).mono ?_
    rintro e w4 ⟨rfl,hb4⟩
    have HU0:=Lib.hid (HSTT.out.later hb4)
    clear hb4
    clear d0 d1 d2 d3 d4 d5 d6 d7 d8
    go_wp2_with fail
    refine (HU0.out.makeT HG0.out kn).mono ?_
    rintro e w5 ⟨rfl,B1',HU1⟩
    have d0:w5.cell? ⟨w.heap.size,0,none⟩=some (.int .i64 p.kd):=HU1.out.box.cell 0
    have d1:w5.cell? ⟨w.heap.size,1,none⟩=some (.int .i64 p.p):=HU1.out.box.cell 1
    have d2:w5.cell? ⟨w.heap.size,2,none⟩=some (.int .i64 p.z):=HU1.out.box.cell 2
    have d3:w5.cell? ⟨w.heap.size,3,none⟩=some (.bool p.dir):=HU1.out.box.cell 3
    have d4:w5.cell? ⟨w.heap.size,4,none⟩=some (.int .i64 p.id):=HU1.out.box.cell 4
    have d5:w5.cell? ⟨w.heap.size,5,none⟩=some (.int .i64 p.a):=HU1.out.box.cell 5
    have d6:w5.cell? ⟨w.heap.size,6,none⟩=some (.int .i64 p.m):=HU1.out.box.cell 6
    have d7:w5.cell? ⟨w.heap.size,7,none⟩=some (.slice p.X p.b.length p.cb):=HU1.out.box.cell 7
    have d8:w5.cell? ⟨w.heap.size,8,none⟩=some (.int .u64 (p.u:Nat)):=HU1.out.box.cell 8
    go_wp2_with fail
    refine (HKN.out w5).mono ?_
    rintro e w6 ⟨rfl,hb6⟩
    have HU2:=Lib.hid (HU1.out.later hb6)
    clear hb6
    clear d0 d1 d2 d3 d4 d5 d6 d7 d8
    go_wp2_with fail
    refine (HU2.out.makeR HG2.out kn).mono ?_
    rintro e w7 ⟨rfl,B2',HU3⟩
    have hkn:kn=kindN p:=HKNE.out
    subst hkn
    have hst:∀ t,(Tr.make t q (kindN p)).2=stepT p t:=fun t=>by
     obtain ⟨h1,h2,h3⟩:=HNQ.out
     unfold stepT
     rw [show p.kd=1 from HKD.out,h1]
     rfl
    rw [hst,hst] at HU3
    clear hst
    go_wp2_with fail
    all_goals first
     | (go_meet
        case rel=>exact ⟨_,B1',B2',rfl,rfl,HU3.out⟩)
     | exact HQ.out _ _ (HU3.out.done _)
     | (go_ret;exact HQ.out _ _ (HU3.out.done _))
  have n1:(kd==1)=false:=by rw [beq_eq_false_iff_ne];exact k1
  clear k1
  by_cases k2:kd=2
  ·subst k2
   as_aux_lemma =>
    go_wp2_with fail
    refine (HSTT.out.linkT HG0.out).mono ?_
    rintro e w5 ⟨rfl,B1',HU1⟩
    go_wp2_with fail
    refine (HU1.out.linkR HG2.out).mono ?_
    rintro e w7 ⟨rfl,B2',HU3⟩
    have hst:∀ t,(Tr.link t q q2).2=stepT p t:=fun t=>by
     obtain ⟨h1,h2,h3⟩:=HNQ.out
     unfold stepT
     rw [show p.kd=2 from HKD.out,h1,h2]
     rfl
    rw [hst,hst] at HU3
    clear hst
    go_wp2_with fail
    all_goals first
     | (go_meet
        case rel=>exact ⟨_,B1',B2',rfl,rfl,HU3.out⟩)
     | exact HQ.out _ _ (HU3.out.done _)
     | (go_ret;exact HQ.out _ _ (HU3.out.done _))
  have n2:(kd==2)=false:=by rw [beq_eq_false_iff_ne];exact k2
  clear k2
  by_cases k3:kd=3
  ·subst k3
   as_aux_lemma =>
    go_wp2_with fail
    refine (HSTT.out.unlinkT HG0.out).mono ?_
    rintro e w5 ⟨rfl,B1',HU1⟩
    go_wp2_with fail
    refine (HU1.out.unlinkR HG2.out).mono ?_
    rintro e w7 ⟨rfl,B2',HU3⟩
    have hst:∀ t,(Tr.unlink t q).2=stepT p t:=fun t=>by
     obtain ⟨h1,h2,h3⟩:=HNQ.out
     unfold stepT
     rw [show p.kd=3 from HKD.out,h1]
     rfl
    rw [hst,hst] at HU3
    clear hst
    go_wp2_with fail
    all_goals first
     | (go_meet
        case rel=>exact ⟨_,B1',B2',rfl,rfl,HU3.out⟩)
     | exact HQ.out _ _ (HU3.out.done _)
     | (go_ret;exact HQ.out _ _ (HU3.out.done _))
  have n3:(kd==3)=false:=by rw [beq_eq_false_iff_ne];exact k3
  clear k3
  by_cases k4:kd=4
  ·subst k4
   as_aux_lemma =>
    go_wp2_with fail
    refine (HSTT.out.rmdirT HG0.out).mono ?_
    rintro e w5 ⟨rfl,B1',HU1⟩
    go_wp2_with fail
    refine (HU1.out.rmdirR HG2.out).mono ?_
    rintro e w7 ⟨rfl,B2',HU3⟩
    have hst:∀ t,(Tr.rmdir t q).2=stepT p t:=fun t=>by
     obtain ⟨h1,h2,h3⟩:=HNQ.out
     unfold stepT
     rw [show p.kd=4 from HKD.out,h1]
     rfl
    rw [hst,hst] at HU3
    clear hst
    go_wp2_with fail
    all_goals first
     | (go_meet
        case rel=>exact ⟨_,B1',B2',rfl,rfl,HU3.out⟩)
     | exact HQ.out _ _ (HU3.out.done _)
     | (go_ret;exact HQ.out _ _ (HU3.out.done _))
  have n4:(kd==4)=false:=by rw [beq_eq_false_iff_ne];exact k4
  clear k4
  by_cases k5:kd=5
  ·subst k5
   as_aux_lemma =>
    go_wp2_with fail
    refine (HSTT.out.renameT HG0.out).mono ?_
    rintro e w5 ⟨rfl,B1',HU1⟩
    go_wp2_with fail
    refine (HU1.out.renameR HG2.out).mono ?_
    rintro e w7 ⟨rfl,B2',HU3⟩
    have hst:∀ t,(Tr.rename t q q2).2=stepT p t:=fun t=>by
     obtain ⟨h1,h2,h3⟩:=HNQ.out
     unfold stepT
     rw [show p.kd=5 from HKD.out,h1,h2]
     rfl
    rw [hst,hst] at HU3
    clear hst
    go_wp2_with fail
    all_goals first
     | (go_meet
        case rel=>exact ⟨_,B1',B2',rfl,rfl,HU3.out⟩)
     | exact HQ.out _ _ (HU3.out.done _)
     | (go_ret;exact HQ.out _ _ (HU3.out.done _))
  have n5:(kd==5)=false:=by rw [beq_eq_false_iff_ne];exact k5
  clear k5
  by_cases k6:kd=6
  ·subst k6
   as_aux_lemma =>
    have HSD:Hid (St v r Tp Tq w.heap.size p.cells A A2 q q2 p.X x c c2 p.cb (fun k=>B1 k∨B2 k) w B1 B2 w3.drew):=HSTT.out.later (undrewR2 (Below.refl _ _))
    have d4:w3.cell? ⟨w.heap.size,4,none⟩=some (.int .i64 p.id):=HSTT.out.box.cell 4
    go_upto_region 22 with (fail)
    go_region_held3 (fun w'=>w'.cell? ⟨w.heap.size,4,none⟩=some (.int .i64 p.id))
     (first
      | exact HU3.out.box.cell 4
      | exact HU1.out.box.cell 4
      | exact HSD.out.box.cell 4
      | fail)
     (first
      | (have hx:=HU1.out;clear hx;go_at_call 19;refine (HU1.out.appendR HG2.out p.id).mono ?_;rintro e1 w7 ⟨rfl,B2',HU3⟩)
      | (go_at_call 17;refine (HSD.out.appendT HG0.out p.id).mono ?_;rintro e1 w5 ⟨rfl,B1',HU1⟩)
      | fail)
    have hst:∀ t,(Tr.append t p.id x).2=stepT p t:=fun t=>by
     obtain ⟨h1,h2,h3⟩:=HNQ.out
     unfold stepT
     rw [show p.kd=6 from HKD.out,h3]
     rfl
    rw [hst,hst] at HU3
    clear hst
    go_wp2_with fail
    all_goals first
     | (go_meet
        case rel=>exact ⟨_,B1',B2',rfl,rfl,HU3.out⟩)
     | exact HQ.out _ _ (HU3.out.done _)
     | (go_ret;exact HQ.out _ _ (HU3.out.done _))
  have n6:(kd==6)=false:=by rw [beq_eq_false_iff_ne];exact k6
  clear k6
  by_cases k7:kd=7
  ·subst k7
   as_aux_lemma =>
    have d4:w3.cell? ⟨w.heap.size,4,none⟩=some (.int .i64 p.id):=HSTT.out.box.cell 4
    have d5:w3.cell? ⟨w.heap.size,5,none⟩=some (.int .i64 p.a):=HSTT.out.box.cell 5
    have d6:w3.cell? ⟨w.heap.size,6,none⟩=some (.int .i64 p.m):=HSTT.out.box.cell 6
    go_wp2_with fail
    refine (HSTT.out.readT HG0.out p.id p.a p.m HPF.out.ia HPF.out.im).mono ?_
    rintro e w5 ⟨y,rfl,hf5,hb5⟩
    obtain ⟨Y,cy,rfl,hyc,hry,_⟩:=hf5.form
    have HU1:=Lib.hid (HSTT.out.later hb5)
    clear d4 d5 d6
    have d4:w5.cell? ⟨w.heap.size,4,none⟩=some (.int .i64 p.id):=HU1.out.box.cell 4
    have d5:w5.cell? ⟨w.heap.size,5,none⟩=some (.int .i64 p.a):=HU1.out.box.cell 5
    have d6:w5.cell? ⟨w.heap.size,6,none⟩=some (.int .i64 p.m):=HU1.out.box.cell 6
    clear hf5 hb5
    have HRY:=Lib.hid hry
    clear hry
    go_wp2_with fail
    refine (HU1.out.readR HG2.out p.id p.a p.m HPF.out.ia HPF.out.im).mono ?_
    rintro e w7 ⟨Z,cz,rfl,hzc,hrz,rfl⟩
    have st1:=Ob.str_run w7 Y (Tr.read Tp p.id p.a p.m).1 cy HRY.out
    have st2:=Ob.str_run w7 Z (Tr.read Tq p.id p.a p.m).1 cz hrz
    clear d4 d5 d6
    clear hrz
    have hst:∀ t,stepT p t=t:=fun t=>by
     unfold stepT
     rw [show p.kd=7 from HKD.out]
     rfl
    have HU3:Hid (St v r (stepT p Tp) (stepT p Tq) w.heap.size p.cells A A2 q q2 p.X x c c2 p.cb (fun k=>B1 k∨B2 k) w B1 B2 w7):=by rw [hst,hst];exact HU1.out
    clear hst
    go_wp2_with fail
    all_goals first
     | (go_meet
        case rel=>exact ⟨_,B1,B2,rfl,rfl,HU3.out⟩)
     | exact HQ.out _ _ (HU3.out.done _)
     | (go_ret;exact HQ.out _ _ (HU3.out.done _))
  have n7:(kd==7)=false:=by rw [beq_eq_false_iff_ne];exact k7
  clear k7
  by_cases k8:kd=8
  ·subst k8
   as_aux_lemma =>
    have HSD:Hid (St v r Tp Tq w.heap.size p.cells A A2 q q2 p.X x c c2 p.cb (fun k=>B1 k∨B2 k) w B1 B2 w3.drew):=HSTT.out.later (undrewR2 (Below.refl _ _))
    have d4:w3.cell? ⟨w.heap.size,4,none⟩=some (.int .i64 p.id):=HSTT.out.box.cell 4
    have d8:w3.cell? ⟨w.heap.size,8,none⟩=some (.int .u64 (p.u:Nat)):=HSTT.out.box.cell 8
    go_upto_region 30 with (fail)
    go_region_held3 (fun w'=>w'.cell? ⟨w.heap.size,4,none⟩=some (.int .i64 p.id)∧w'.cell? ⟨w.heap.size,8,none⟩=some (.int .u64 (p.u:Nat)))
     (first
      | exact ⟨HU3.out.box.cell 4,HU3.out.box.cell 8⟩
      | exact ⟨HU1.out.box.cell 4,HU1.out.box.cell 8⟩
      | exact ⟨HSD.out.box.cell 4,HSD.out.box.cell 8⟩
      | fail)
     (first
      | (have hx:=HU1.out;clear hx;go_at_call 21;refine (HU1.out.sealR HG2.out p.id p.u HPF.out.iu).mono ?_;rintro e1 w7 ⟨rfl,B2',HU3⟩)
      | (go_at_call 20;refine (HSD.out.sealT HG0.out p.id p.u HPF.out.iu).mono ?_;rintro e1 w5 ⟨rfl,B1',HU1⟩)
      | fail)
    have hst:∀ t,(Tr.seal_ t p.id p.u).2=stepT p t:=fun t=>by
     unfold stepT
     rw [show p.kd=8 from HKD.out]
     rfl
    rw [hst,hst] at HU3
    clear hst
    go_wp2_with fail
    all_goals first
     | (go_meet
        case rel=>exact ⟨_,B1',B2',rfl,rfl,HU3.out⟩)
     | exact HQ.out _ _ (HU3.out.done _)
     | (go_ret;exact HQ.out _ _ (HU3.out.done _))
  have n8:(kd==8)=false:=by rw [beq_eq_false_iff_ne];exact k8
  clear k8
  by_cases k9:kd=9
  ·subst k9
   as_aux_lemma =>
    have HSD:Hid (St v r Tp Tq w.heap.size p.cells A A2 q q2 p.X x c c2 p.cb (fun k=>B1 k∨B2 k) w B1 B2 w3.drew):=HSTT.out.later (undrewR2 (Below.refl _ _))
    have d4:w3.cell? ⟨w.heap.size,4,none⟩=some (.int .i64 p.id):=HSTT.out.box.cell 4
    have d8:w3.cell? ⟨w.heap.size,8,none⟩=some (.int .u64 (p.u:Nat)):=HSTT.out.box.cell 8
    go_upto_region 33 with (fail)
    go_region_held3 (fun w'=>w'.cell? ⟨w.heap.size,4,none⟩=some (.int .i64 p.id)∧w'.cell? ⟨w.heap.size,8,none⟩=some (.int .u64 (p.u:Nat)))
     (first
      | exact ⟨HU3.out.box.cell 4,HU3.out.box.cell 8⟩
      | exact ⟨HU1.out.box.cell 4,HU1.out.box.cell 8⟩
      | exact ⟨HSD.out.box.cell 4,HSD.out.box.cell 8⟩
      | fail)
     (first
      | (have hx:=HU1.out;clear hx;go_at_call 23;refine (HU1.out.keepR HG2.out p.id p.u HPF.out.iu).mono ?_;rintro e1 w7 ⟨rfl,B2',HU3⟩)
      | (go_at_call 22;refine (HSD.out.keepT HG0.out p.id p.u HPF.out.iu).mono ?_;rintro e1 w5 ⟨rfl,B1',HU1⟩)
      | fail)
    have hst:∀ t,(Tr.keep t p.id p.u).2=stepT p t:=fun t=>by
     unfold stepT
     rw [show p.kd=9 from HKD.out]
     rfl
    rw [hst,hst] at HU3
    clear hst
    go_wp2_with fail
    all_goals first
     | (go_meet
        case rel=>exact ⟨_,B1',B2',rfl,rfl,HU3.out⟩)
     | exact HQ.out _ _ (HU3.out.done _)
     | (go_ret;exact HQ.out _ _ (HU3.out.done _))
  have n9:(kd==9)=false:=by rw [beq_eq_false_iff_ne];exact k9
  clear k9
  by_cases k10:kd=10
  ·subst k10
   as_aux_lemma =>
    have HSD:Hid (St v r Tp Tq w.heap.size p.cells A A2 q q2 p.X x c c2 p.cb (fun k=>B1 k∨B2 k) w B1 B2 w3.drew):=HSTT.out.later (undrewR2 (Below.refl _ _))
    have d4:w3.cell? ⟨w.heap.size,4,none⟩=some (.int .i64 p.id):=HSTT.out.box.cell 4
    go_upto_region 36 with (fail)
    go_region_held3 (fun w'=>w'.cell? ⟨w.heap.size,4,none⟩=some (.int .i64 p.id))
     (first
      | exact HU3.out.box.cell 4
      | exact HU1.out.box.cell 4
      | exact HSD.out.box.cell 4
      | fail)
     (first
      | (have hx:=HU1.out;clear hx;go_at_call 27;refine (HU1.out.dropR HG2.out p.id).mono ?_;rintro e1 w7 ⟨rfl,B2',HU3⟩)
      | (go_at_call 26;refine (HSD.out.dropT HG0.out p.id).mono ?_;rintro e1 w5 ⟨rfl,B1',HU1⟩)
      | fail)
    have hst:∀ t,(Tr.drop t p.id).2=stepT p t:=fun t=>by
     unfold stepT
     rw [show p.kd=10 from HKD.out]
     rfl
    rw [hst,hst] at HU3
    clear hst
    go_wp2_with fail
    all_goals first
     | (go_meet
        case rel=>exact ⟨_,B1',B2',rfl,rfl,HU3.out⟩)
     | exact HQ.out _ _ (HU3.out.done _)
     | (go_ret;exact HQ.out _ _ (HU3.out.done _))
  have n10:(kd==10)=false:=by rw [beq_eq_false_iff_ne];exact k10
  clear k10
  have HSX:Hid (St v r (stepT p Tp) (stepT p Tq) w.heap.size p.cells A A2 q q2 p.X x c c2 p.cb (fun k=>B1 k∨B2 k) w B1 B2 w3):=by
   have hst:∀ t,stepT p t=t:=fun t=>by
    have h0:p.kd=kd:=HKD.out
    unfold stepT
    rw [h0,if_neg (beq_eq_false_iff_ne.1 n1),if_neg (beq_eq_false_iff_ne.1 n2),if_neg (beq_eq_false_iff_ne.1 n3),if_neg (beq_eq_false_iff_ne.1 n4),if_neg (beq_eq_false_iff_ne.1 n5),if_neg (beq_eq_false_iff_ne.1 n6),if_neg (beq_eq_false_iff_ne.1 n8),if_neg (beq_eq_false_iff_ne.1 n9),if_neg (beq_eq_false_iff_ne.1 n10)]
   show St _ _ _ _ _ _ _ _ _ _ _ _ _ _ _ _ _ _ _ _
   rw [hst,hst]
   exact HSTT.out
  go_wp2_with fail
  go_meet
  case rel=>exact ⟨_,B1,B2,rfl,rfl,HSX.out⟩
 case rest =>
 obtain ⟨w9,B1',B2',hw9,rfl,HS9⟩:=hcut
 subst hw9
 clear c0 HSTT HQS HNQ HKD
 obtain ⟨Ta,hTa⟩:∃ Ta,Ta=stepT p Tp:=⟨_,rfl⟩
 obtain ⟨Tb,hTb⟩:∃ Tb,Tb=stepT p Tq:=⟨_,rfl⟩
 have HGA:Hid (Tr.Good Ta):=by show Tr.Good _;rw [hTa];exact stepT_good p HG0.out
 have HGB:Hid (Tr.Good Tb):=by show Tr.Good _;rw [hTb];exact stepT_good p HG2.out
 rw [← hTa,← hTb] at HS9 HQ
 clear hTa hTb HG0 HG2
 obtain ⟨⟨⟨a1,a2,a3,a4,a5,a6⟩,fo⟩,hnv⟩:∃ z,Tr.node Ta p.id=z:=⟨_,rfl⟩
 obtain ⟨⟨⟨b1,b2,b3,b4,b5,b6⟩,fp⟩,hnw⟩:∃ z,Tr.node Tb p.id=z:=⟨_,rfl⟩
 have HNT:Hid (∀ Ba Bb W,St v r Ta Tb w.heap.size p.cells A A2 q q2 p.X x c c2 p.cb (fun k=>B1 k∨B2 k) w Ba Bb W→Calls Tryz.prog 83 #[v,.int .i64 p.id] W fun e w'=>e=.returned (.tuple #[.agg #[.int .i64 a1,.int .i64 a2,.int .i64 a3,.int .i64 a4,.int .u64 (a5:Nat),.bool a6],.bool fo])∧Below W.heap.size W w'):=fun Ba Bb W hW=>by
  have h:=hW.nodeT HGA.out p.id
  rw [hnv] at h
  exact h
 have HNR:Hid (∀ Ba Bb W,St v r Ta Tb w.heap.size p.cells A A2 q q2 p.X x c c2 p.cb (fun k=>B1 k∨B2 k) w Ba Bb W→Calls Tryz.prog 35 #[r,.int .i64 p.id] W fun e w'=>e=.returned (.tuple #[.agg #[.int .i64 b1,.int .i64 b2,.int .i64 b3,.int .i64 b4,.int .u64 (b5:Nat),.bool b6],.bool fp])∧Below W.heap.size W w'):=fun Ba Bb W hW=>by
  have h:=hW.nodeR HGB.out p.id
  rw [hnw] at h
  exact h
 have HLE:∀ {t:T},Tr.Good t→(Tr.list t p.id).1.length≤1000000000:=fun {t} hG=>by
  have h2:(Tr.list t p.id).1.length≤4194240:=by
   unfold Tr.list
   split
   ·exact Nat.zero_le _
   ·split
    ·exact Nat.zero_le _
    ·rename_i h3 h4
     obtain ⟨en,hen⟩:=hG.has (Decidable.byContradiction h4)
     rw [Tr.kids_of hen,List.length_map]
     exact hG.names_le (Tr.find_some hen).1
  omega
 have hla:=HLE HGA.out
 have hlb:=HLE HGB.out
 have HLT:Hid (∀ Ba Bb W,St v r Ta Tb w.heap.size p.cells A A2 q q2 p.X x c c2 p.cb (fun k=>B1 k∨B2 k) w Ba Bb W→Calls Tryz.prog 87 #[v,.int .i64 p.id] W (Tm.LAns (Tr.list Ta p.id).1 (Tr.list Ta p.id).2 W)):=fun Ba Bb W hW=>hW.listT HGA.out p.id
 have HLR:Hid (∀ Ba Bb W,St v r Ta Tb w.heap.size p.cells A A2 q q2 p.X x c c2 p.cb (fun k=>B1 k∨B2 k) w Ba Bb W→Calls Tryz.prog 61 #[r,.int .i64 p.id] W (Rf.LAns (Tr.list Tb p.id).1 (Tr.list Tb p.id).2 W)):=fun Ba Bb W hW=>hW.listR HGB.out p.id
 obtain ⟨⟨li,ln⟩,hlv⟩:∃ z,z=Tr.list Ta p.id:=⟨_,rfl⟩
 obtain ⟨⟨lj,lm⟩,hlw⟩:∃ z,z=Tr.list Tb p.id:=⟨_,rfl⟩
 rw [← hlv] at HLT hla
 rw [← hlw] at HLR hlb
 have HLL:Hid (li.length≤1000000000∧lj.length≤1000000000):=⟨hla,hlb⟩
 dsimp only at HLT HLR
 clear hnv hnw hlv hlw HLE hla hlb
 go_wp2_with fail
 refine (HS9.out.lookT HGA.out).mono ?_
 rintro e w10 ⟨rfl,hb10⟩
 have HS10:=Lib.hid (HS9.out.later hb10)
 clear hb10 HS9
 obtain ⟨lk,hlk⟩:∃ lk,lk=Tr.look Ta q:=⟨_,rfl⟩
 rw [← hlk]
 clear hlk
 go_wp2_with fail
 refine (HS10.out.lookR HGB.out).mono ?_
 rintro e w11 ⟨rfl,hb11⟩
 have HS11:=Lib.hid (HS10.out.later hb11)
 clear hb11 HS10
 obtain ⟨lp,hlp⟩:∃ lp,lp=Tr.look Tb q:=⟨_,rfl⟩
 rw [← hlp]
 clear hlp
 have d4:w11.cell? ⟨w.heap.size,4,none⟩=some (.int .i64 p.id):=HS11.out.box.cell 4
 go_wp2_with fail
 refine (HNT.out _ _ _ HS11.out).mono ?_
 rintro e w12 ⟨rfl,hb12⟩
 have HS12:=Lib.hid (HS11.out.later hb12)
 clear hb12 HS11 d4
 obtain ⟨wa,hwa⟩:∃ wa,wa=w12.alloc (.cells #[.int .i64 a1,.int .i64 a2,.int .i64 a3,.int .i64 a4,.int .u64 (a5:Nat),.bool a6] 59):=⟨_,rfl⟩
 have HSa:Hid (St v r Ta Tb w.heap.size p.cells A A2 q q2 p.X x c c2 p.cb (fun k=>B1 k∨B2 k) w B1' B2' wa):=by show St _ _ _ _ _ _ _ _ _ _ _ _ _ _ _ _ _ _ _ _;rw [hwa];exact HS12.out.later (below_new w12 _)
 have HKa:Hid (Blk wa w12.heap.size 59 [.int .i64 a1,.int .i64 a2,.int .i64 a3,.int .i64 a4,.int .u64 (a5:Nat),.bool a6]):=by show Blk _ _ _ _;rw [hwa];exact Blk.new w12 _ _
 go_upto_region 41 with (fail)
 rw [← hwa]
 clear hwa HS12
 have d4:wa.cell? ⟨w.heap.size,4,none⟩=some (.int .i64 p.id):=HSa.out.box.cell 4
 go_wp2_with fail
 refine (HNR.out _ _ _ HSa.out).mono ?_
 rintro e w13 ⟨rfl,hb13⟩
 have HS13:=Lib.hid (HSa.out.later hb13)
 have HK13:Hid (Blk w13 w12.heap.size 59 [.int .i64 a1,.int .i64 a2,.int .i64 a3,.int .i64 a4,.int .u64 (a5:Nat),.bool a6]):=HKa.out.below hb13 HKa.out.lt
 clear hb13 HSa HKa d4
 obtain ⟨wb,hwb⟩:∃ wb,wb=w13.alloc (.cells #[.int .i64 b1,.int .i64 b2,.int .i64 b3,.int .i64 b4,.int .u64 (b5:Nat),.bool b6] 59):=⟨_,rfl⟩
 have HSb:Hid (St v r Ta Tb w.heap.size p.cells A A2 q q2 p.X x c c2 p.cb (fun k=>B1 k∨B2 k) w B1' B2' wb):=by show St _ _ _ _ _ _ _ _ _ _ _ _ _ _ _ _ _ _ _ _;rw [hwb];exact HS13.out.later (below_new w13 _)
 have HKb:Hid (Blk wb w12.heap.size 59 [.int .i64 a1,.int .i64 a2,.int .i64 a3,.int .i64 a4,.int .u64 (a5:Nat),.bool a6]∧Blk wb w13.heap.size 59 [.int .i64 b1,.int .i64 b2,.int .i64 b3,.int .i64 b4,.int .u64 (b5:Nat),.bool b6]):=by
  rw [hwb]
  exact ⟨HK13.out.below (below_new w13 _) HK13.out.lt,Blk.new w13 _ _⟩
 go_upto_region 42 with (fail)
 rw [← hwb]
 clear hwb HS13 HK13
 have d4:wb.cell? ⟨w.heap.size,4,none⟩=some (.int .i64 p.id):=HSb.out.box.cell 4
 go_wp2_with fail
 refine (HLT.out _ _ _ HSb.out).mono ?_
 rintro e w14 ⟨x14,rfl,ht14⟩
 obtain ⟨Y,cy,rfl,_,hry⟩:=ht14.form
 have HS14:=Lib.hid (HSb.out.later ht14.later)
 have HK14:Hid (Blk w14 w12.heap.size 59 [.int .i64 a1,.int .i64 a2,.int .i64 a3,.int .i64 a4,.int .u64 (a5:Nat),.bool a6]∧Blk w14 w13.heap.size 59 [.int .i64 b1,.int .i64 b2,.int .i64 b3,.int .i64 b4,.int .u64 (b5:Nat),.bool b6]):=⟨HKb.out.1.below ht14.later HKb.out.1.lt,HKb.out.2.below ht14.later HKb.out.2.lt⟩
 have HRY:=Lib.hid hry
 clear ht14 HSb HKb d4 hry HLT
 have d4:w14.cell? ⟨w.heap.size,4,none⟩=some (.int .i64 p.id):=HS14.out.box.cell 4
 go_wp2_with fail
 refine (HLR.out _ _ _ HS14.out).mono ?_
 rintro e w15 ⟨x15,rfl,ht15⟩
 obtain ⟨Z,cz,rfl,_,hrz⟩:=ht15.form
 have HS15:=Lib.hid (HS14.out.later ht15.later)
 have HK15:Hid (Blk w15 w12.heap.size 59 [.int .i64 a1,.int .i64 a2,.int .i64 a3,.int .i64 a4,.int .u64 (a5:Nat),.bool a6]∧Blk w15 w13.heap.size 59 [.int .i64 b1,.int .i64 b2,.int .i64 b3,.int .i64 b4,.int .u64 (b5:Nat),.bool b6]):=⟨HK14.out.1.below ht15.later HK14.out.1.lt,HK14.out.2.below ht15.later HK14.out.2.lt⟩
 have HRZ:Hid (RdS w15 Y li∧RdS w15 Z lj):=⟨HRY.out.below ht15.later,hrz⟩
 clear ht15 HS14 HK14 d4 hrz HLR HRY
 obtain ⟨pr,Yr,dr,hr0,cr0⟩:=HS15.out.refcell
 subst hr0
 obtain ⟨c3,heq⟩:=nd_eql2 ⟨a1,a2,a3,a4,a5,a6⟩ ⟨b1,b2,b3,b4,b5,b6⟩
 have heq:∀ W,(binOp .eql 59 (.agg #[.int .i64 a1,.int .i64 a2,.int .i64 a3,.int .i64 a4,.int .u64 (a5:Nat),.bool a6]) (.agg #[.int .i64 b1,.int .i64 b2,.int .i64 b3,.int .i64 b4,.int .u64 (b5:Nat),.bool b6])).run Tryz.prog W=.ok (.bool c3) W:=heq
 have HCS:Hid (∀ W,Below w15.heap.size w15 W→(W.cell? ⟨w12.heap.size,0,none⟩=some (.int .i64 a1)∧W.cell? ⟨w12.heap.size,1,none⟩=some (.int .i64 a2)∧W.cell? ⟨w12.heap.size,2,none⟩=some (.int .i64 a3)∧W.cell? ⟨w12.heap.size,3,none⟩=some (.int .i64 a4)∧W.cell? ⟨w12.heap.size,4,none⟩=some (.int .u64 (a5:Nat))∧W.cell? ⟨w12.heap.size,5,none⟩=some (.bool a6))∧(W.cell? ⟨w13.heap.size,0,none⟩=some (.int .i64 b1)∧W.cell? ⟨w13.heap.size,1,none⟩=some (.int .i64 b2)∧W.cell? ⟨w13.heap.size,2,none⟩=some (.int .i64 b3)∧W.cell? ⟨w13.heap.size,3,none⟩=some (.int .i64 b4)∧W.cell? ⟨w13.heap.size,4,none⟩=some (.int .u64 (b5:Nat))∧W.cell? ⟨w13.heap.size,5,none⟩=some (.bool b6))∧W.cell? ⟨pr,0,none⟩=some (.slice Yr Tb.length dr)):=fun W hW=>by
  have h1:=HK15.out.1.below hW HK15.out.1.lt
  have h2:=HK15.out.2.below hW HK15.out.2.lt
  obtain ⟨p2,nv2,dv2,ev2,D2,hp2,H2,_⟩:=HS15.out.r
  injection hp2 with hp2
  injection hp2 with hp2
  injection hp2 with hp2
  subst hp2
  refine ⟨⟨h1.cell 0,h1.cell 1,h1.cell 2,h1.cell 3,h1.cell 4,h1.cell 5⟩,⟨h2.cell 0,h2.cell 1,h2.cell 2,h2.cell 3,h2.cell 4,h2.cell 5⟩,?_⟩
  exact (hW.cell (p:=⟨pr,0,none⟩) H2.in_.box.lt).trans cr0
 obtain ⟨c5,hc5⟩:∃ c5,c5=decide (li=lj):=⟨_,rfl⟩
 have HSM:Hid (∀ W,Below w15.heap.size w15 W→Calls Tryz.prog 37 #[.slice Y li.length cy,.slice Z lj.length cz] W fun e w'=>e=.returned (.bool c5)∧Below W.heap.size W w'):=fun W hW=>by
  have h:=sameS_any W li lj Y Z cy cz (HRZ.out.1.below hW) (HRZ.out.2.below hW) HLL.out.1 HLL.out.2
  rw [← hc5] at h
  exact h
 have HCT:Hid (∀ W,Below w15.heap.size w15 W→Calls Tryz.prog 40 #[v] W fun e w'=>e=.returned (.int .i64 (Ta.length:Nat))∧Below W.heap.size W w'):=fun W hW=>((HS15.out.later hW).count).mono fun e w' ⟨h1,h2⟩=>⟨h1,by rw [h2];exact Below.refl _ _⟩
 have HEND:Hid (∀ W y,Below w15.heap.size w15 W→Done v (.pointer (some ⟨pr,0,none⟩)) Ta Tb B1 B2 w (.returned (.bool y)) W):=fun W y hW=>(HS15.out.later hW).done y
 clear cr0 HS15 HK15 HRZ HNT HNR HGA HGB HLL hc5
 obtain ⟨c1,hc1⟩:∃ c1,(lk.1==lp.1)=c1:=⟨_,rfl⟩
 obtain ⟨c2',hc2⟩:∃ c2',((lk.2:Int)==(lp.2:Int))=c2':=⟨_,rfl⟩
 obtain ⟨c4,hc4⟩:∃ c4,(fo==fp)=c4:=⟨_,rfl⟩
 obtain ⟨c6,hc6⟩:∃ c6,((ln:Int)==(lm:Int))=c6:=⟨_,rfl⟩
 obtain ⟨c7,hc7⟩:∃ c7,((Ta.length:Int)==(Tb.length:Int))=c7:=⟨_,rfl⟩
 go_upto_region 44 with (fail)
 cases c1
 ·skip
  refine Rg.wp_region_facts (by kernel_rfl) (fun opn=>List.getD [Rg.val (.int .i64 lk.1),Rg.val (.int .i64 lp.1),Rg.val (.bool false),Rg.val (.bool false),Rg.val (undef),Rg.val (undef),Rg.val (undef),Rg.val (.bool false),Rg.val (.bool false),Rg.val (undef),Rg.val (undef),Rg.val (undef),Rg.val (.bool false),Rg.val (.bool false),Rg.val (undef),Rg.val (undef),Rg.val (undef),Rg.val (.bool false),Rg.val (.bool false),Rg.val (undef),Rg.val (undef),Rg.val (undef),Rg.val (.bool false),Rg.val (.bool false),Rg.val (undef),Rg.val (undef),Rg.val (undef),Rg.val (.bool false),Rg.val (.bool false),Rg.val (undef),Rg.val (undef),Rg.val (undef),Rg.val (undef),Rg.val (undef),Rg.val (undef),Rg.val (undef),Rg.val (undef),Rg.val (.bool false),Rg.val (.bool false)] opn Rg.any) [] [[],[],[(0,235),(1,236)],[(2,237)],[(3,238)],[(3,238)],[(3,238),(4,239),(5,240)],[(3,238),(6,241)],[(7,242)],[(8,243)],[(8,243)],[(8,243),(9,244),(10,245)],[(8,243),(11,246)],[(12,247)],[(13,248)],[(13,248)],[(13,248),(14,249),(15,250)],[(13,248),(16,251)],[(17,252)],[(18,253)],[(18,253)],[(18,253),(19,254),(20,255)],[(18,253),(21,256)],[(22,257)],[(23,258)],[(23,258)],[(23,258),(24,259),(25,260)],[(23,258),(26,261)],[(27,262)],[(28,263)],[(28,263),(29,264)],[(28,263)],[(28,263),(31,266)],[(28,263),(32,267)],[(28,263),(33,268)],[(28,263),(34,269)],[(28,263),(30,265),(35,270)],[(28,263),(36,271)],[(37,272)]] [] (by kernel_rfl) (by rfl) (by kernel_rfl) ?_ ?_
  ·intro fr ha
   have hz:fr.tmps.size=273:=by rw [ha];rfl
   have y18:fr.eval (.tmp 18)=.int .i64 lk.1:=by rw [ha];rfl
   have y20:fr.eval (.tmp 20)=.int .i64 lp.1:=by rw [ha];rfl
   clear ha
   refine .cons ?_ (.cons ?_ (.cons ?_ (.cons ?_ (.cons ?_ (.cons ?_ (.cons ?_ (.cons ?_ (.cons ?_ (.cons ?_ (.cons ?_ (.cons ?_ (.cons ?_ (.cons ?_ (.cons ?_ (.cons ?_ (.cons ?_ (.cons ?_ (.cons ?_ (.cons ?_ (.cons ?_ (.cons ?_ (.cons ?_ (.cons ?_ (.cons ?_ (.cons ?_ (.cons ?_ (.cons ?_ (.cons ?_ (.cons ?_ (.cons ?_ (.cons ?_ (.cons ?_ (.cons ?_ (.cons ?_ (.cons ?_ (.cons ?_ (.cons ?_ (.cons ?_ (.nil)))))))))))))))))))))))))))))))))))))))
   ·intro V w2 HL HH
    have tb18:=(Rg.use_eval V fr 18 [] (by rw [hz];decide)).trans y18
    show Rg.Does1 _ _ V (Rg.putUse V [] fr) w2 _
    exact step_mv (.int .i64 lk.1) (by simp only [execOp,tb18];go_simp) rfl rfl rfl True.intro
   ·intro V w2 HL HH
    have tb20:=(Rg.use_eval V fr 20 [] (by rw [hz];decide)).trans y20
    show Rg.Does1 _ _ V (Rg.putUse V [] fr) w2 _
    exact step_mv (.int .i64 lp.1) (by simp only [execOp,tb20];go_simp) rfl rfl rfl True.intro
   ·intro V w2 HL HH
    have h0:V 0=_:=HH.1
    have h1:V 1=_:=HH.2.1
    have tb235:=(Rg.use_eval V fr 235 [(0,235),(1,236)] (by rw [hz];decide)).trans h0
    have tb236:=(Rg.use_eval V fr 236 [(0,235),(1,236)] (by rw [hz];decide)).trans h1
    show Rg.Does1 _ _ V (Rg.putUse V [(0,235),(1,236)] fr) w2 _
    exact step_mv (.bool false) (by simp only [execOp,tb235,tb236];go_simp) rfl rfl rfl True.intro
   ·intro V w2 HL HH
    have h2:V 2=_:=HH.1
    have tb237:=(Rg.use_eval V fr 237 [(2,237)] (by rw [hz];decide)).trans h2
    show Rg.Does1 _ _ V (Rg.putUse V [(2,237)] fr) w2 _
    exact step_mv (.bool false) (by simp only [execOp,tb237];go_simp) rfl rfl rfl True.intro
   ·intro V w2 HL HH
    have h3:V 3=_:=HH.1
    exact Rg.step_not rfl h3 (Rg.alias_none rfl _ _) rfl rfl rfl
   ·intro V w2 HL HH
    have h3:V 3=_:=HH.1
    exact Rg.step_not rfl h3 (Rg.alias_none rfl _ _) rfl rfl rfl
   ·intro V w2 HL HH
    have h3:V 3=_:=HH.1
    have h4:V 4=_:=HH.2.1
    have h5:V 5=_:=HH.2.2.1
    exact Rg.step_not rfl h3 (Rg.alias_none rfl _ _) rfl rfl rfl
   ·intro V w2 HL HH
    have h3:V 3=_:=HH.1
    have h6:V 6=_:=HH.2.1
    have tb238:=(Rg.use_eval V fr 238 [(3,238),(6,241)] (by rw [hz];decide)).trans h3
    have tb241:=(Rg.use_eval V fr 241 [(3,238),(6,241)] (by rw [hz];decide)).trans h6
    show Rg.Does1 _ _ V (Rg.putUse V [(3,238),(6,241)] fr) w2 _
    exact step_mv (.bool false) (by simp only [execOp,tb238,tb241];go_simp) rfl rfl rfl True.intro
   ·intro V w2 HL HH
    have h7:V 7=_:=HH.1
    have tb242:=(Rg.use_eval V fr 242 [(7,242)] (by rw [hz];decide)).trans h7
    show Rg.Does1 _ _ V (Rg.putUse V [(7,242)] fr) w2 _
    exact step_mv (.bool false) (by simp only [execOp,tb242];go_simp) rfl rfl rfl True.intro
   ·intro V w2 HL HH
    have h8:V 8=_:=HH.1
    exact Rg.step_not rfl h8 (Rg.alias_none rfl _ _) rfl rfl rfl
   ·intro V w2 HL HH
    have h8:V 8=_:=HH.1
    exact Rg.step_not rfl h8 (Rg.alias_none rfl _ _) rfl rfl rfl
   ·intro V w2 HL HH
    have h8:V 8=_:=HH.1
    have h9:V 9=_:=HH.2.1
    have h10:V 10=_:=HH.2.2.1
    exact Rg.step_not rfl h8 (Rg.alias_none rfl _ _) rfl rfl rfl
   ·intro V w2 HL HH
    have h8:V 8=_:=HH.1
    have h11:V 11=_:=HH.2.1
    have tb243:=(Rg.use_eval V fr 243 [(8,243),(11,246)] (by rw [hz];decide)).trans h8
    have tb246:=(Rg.use_eval V fr 246 [(8,243),(11,246)] (by rw [hz];decide)).trans h11
    show Rg.Does1 _ _ V (Rg.putUse V [(8,243),(11,246)] fr) w2 _
    exact step_mv (.bool false) (by simp only [execOp,tb243,tb246];go_simp) rfl rfl rfl True.intro
   ·intro V w2 HL HH
    have h12:V 12=_:=HH.1
    have tb247:=(Rg.use_eval V fr 247 [(12,247)] (by rw [hz];decide)).trans h12
    show Rg.Does1 _ _ V (Rg.putUse V [(12,247)] fr) w2 _
    exact step_mv (.bool false) (by simp only [execOp,tb247];go_simp) rfl rfl rfl True.intro
   ·intro V w2 HL HH
    have h13:V 13=_:=HH.1
    exact Rg.step_not rfl h13 (Rg.alias_none rfl _ _) rfl rfl rfl
   ·intro V w2 HL HH
    have h13:V 13=_:=HH.1
    exact Rg.step_not rfl h13 (Rg.alias_none rfl _ _) rfl rfl rfl
   ·intro V w2 HL HH
    have h13:V 13=_:=HH.1
    have h14:V 14=_:=HH.2.1
    have h15:V 15=_:=HH.2.2.1
    exact Rg.step_not rfl h13 (Rg.alias_none rfl _ _) rfl rfl rfl
   ·intro V w2 HL HH
    have h13:V 13=_:=HH.1
    have h16:V 16=_:=HH.2.1
    have tb248:=(Rg.use_eval V fr 248 [(13,248),(16,251)] (by rw [hz];decide)).trans h13
    have tb251:=(Rg.use_eval V fr 251 [(13,248),(16,251)] (by rw [hz];decide)).trans h16
    show Rg.Does1 _ _ V (Rg.putUse V [(13,248),(16,251)] fr) w2 _
    exact step_mv (.bool false) (by simp only [execOp,tb248,tb251];go_simp) rfl rfl rfl True.intro
   ·intro V w2 HL HH
    have h17:V 17=_:=HH.1
    have tb252:=(Rg.use_eval V fr 252 [(17,252)] (by rw [hz];decide)).trans h17
    show Rg.Does1 _ _ V (Rg.putUse V [(17,252)] fr) w2 _
    exact step_mv (.bool false) (by simp only [execOp,tb252];go_simp) rfl rfl rfl True.intro
   ·intro V w2 HL HH
    have h18:V 18=_:=HH.1
    exact Rg.step_not rfl h18 (Rg.alias_none rfl _ _) rfl rfl rfl
   ·intro V w2 HL HH
    have h18:V 18=_:=HH.1
    exact Rg.step_not rfl h18 (Rg.alias_none rfl _ _) rfl rfl rfl
   ·intro V w2 HL HH
    have h18:V 18=_:=HH.1
    have h19:V 19=_:=HH.2.1
    have h20:V 20=_:=HH.2.2.1
    exact Rg.step_not rfl h18 (Rg.alias_none rfl _ _) rfl rfl rfl
   ·intro V w2 HL HH
    have h18:V 18=_:=HH.1
    have h21:V 21=_:=HH.2.1
    have tb253:=(Rg.use_eval V fr 253 [(18,253),(21,256)] (by rw [hz];decide)).trans h18
    have tb256:=(Rg.use_eval V fr 256 [(18,253),(21,256)] (by rw [hz];decide)).trans h21
    show Rg.Does1 _ _ V (Rg.putUse V [(18,253),(21,256)] fr) w2 _
    exact step_mv (.bool false) (by simp only [execOp,tb253,tb256];go_simp) rfl rfl rfl True.intro
   ·intro V w2 HL HH
    have h22:V 22=_:=HH.1
    have tb257:=(Rg.use_eval V fr 257 [(22,257)] (by rw [hz];decide)).trans h22
    show Rg.Does1 _ _ V (Rg.putUse V [(22,257)] fr) w2 _
    exact step_mv (.bool false) (by simp only [execOp,tb257];go_simp) rfl rfl rfl True.intro
   ·intro V w2 HL HH
    have h23:V 23=_:=HH.1
    exact Rg.step_not rfl h23 (Rg.alias_none rfl _ _) rfl rfl rfl
   ·intro V w2 HL HH
    have h23:V 23=_:=HH.1
    exact Rg.step_not rfl h23 (Rg.alias_none rfl _ _) rfl rfl rfl
   ·intro V w2 HL HH
    have h23:V 23=_:=HH.1
    have h24:V 24=_:=HH.2.1
    have h25:V 25=_:=HH.2.2.1
    exact Rg.step_not rfl h23 (Rg.alias_none rfl _ _) rfl rfl rfl
   ·intro V w2 HL HH
    have h23:V 23=_:=HH.1
    have h26:V 26=_:=HH.2.1
    have tb258:=(Rg.use_eval V fr 258 [(23,258),(26,261)] (by rw [hz];decide)).trans h23
    have tb261:=(Rg.use_eval V fr 261 [(23,258),(26,261)] (by rw [hz];decide)).trans h26
    show Rg.Does1 _ _ V (Rg.putUse V [(23,258),(26,261)] fr) w2 _
    exact step_mv (.bool false) (by simp only [execOp,tb258,tb261];go_simp) rfl rfl rfl True.intro
   ·intro V w2 HL HH
    have h27:V 27=_:=HH.1
    have tb262:=(Rg.use_eval V fr 262 [(27,262)] (by rw [hz];decide)).trans h27
    show Rg.Does1 _ _ V (Rg.putUse V [(27,262)] fr) w2 _
    exact step_mv (.bool false) (by simp only [execOp,tb262];go_simp) rfl rfl rfl True.intro
   ·intro V w2 HL HH
    have h28:V 28=_:=HH.1
    exact Rg.step_not rfl h28 (Rg.alias_none rfl _ _) rfl rfl rfl
   ·intro V w2 HL HH
    have h28:V 28=_:=HH.1
    have h29:V 29=_:=HH.2.1
    exact Rg.step_not rfl h28 (Rg.alias_none rfl _ _) rfl rfl rfl
   ·intro V w2 HL HH
    have h28:V 28=_:=HH.1
    exact Rg.step_not rfl h28 (Rg.alias_none rfl _ _) rfl rfl rfl
   ·intro V w2 HL HH
    have h28:V 28=_:=HH.1
    have h31:V 31=_:=HH.2.1
    exact Rg.step_not rfl h28 (Rg.alias_none rfl _ _) rfl rfl rfl
   ·intro V w2 HL HH
    have h28:V 28=_:=HH.1
    have h32:V 32=_:=HH.2.1
    exact Rg.step_not rfl h28 (Rg.alias_none rfl _ _) rfl rfl rfl
   ·intro V w2 HL HH
    have h28:V 28=_:=HH.1
    have h33:V 33=_:=HH.2.1
    exact Rg.step_not rfl h28 (Rg.alias_none rfl _ _) rfl rfl rfl
   ·intro V w2 HL HH
    have h28:V 28=_:=HH.1
    have h34:V 34=_:=HH.2.1
    exact Rg.step_not rfl h28 (Rg.alias_none rfl _ _) rfl rfl rfl
   ·intro V w2 HL HH
    have h28:V 28=_:=HH.1
    have h30:V 30=_:=HH.2.1
    have h35:V 35=_:=HH.2.2.1
    exact Rg.step_not rfl h28 (Rg.alias_none rfl _ _) rfl rfl rfl
   ·intro V w2 HL HH
    have h28:V 28=_:=HH.1
    have h36:V 36=_:=HH.2.1
    have tb263:=(Rg.use_eval V fr 263 [(28,263),(36,271)] (by rw [hz];decide)).trans h28
    have tb271:=(Rg.use_eval V fr 271 [(28,263),(36,271)] (by rw [hz];decide)).trans h36
    show Rg.Does1 _ _ V (Rg.putUse V [(28,263),(36,271)] fr) w2 _
    exact step_mv (.bool false) (by simp only [execOp,tb263,tb271];go_simp) rfl rfl rfl True.intro
   ·intro V w2 HL HH
    have h37:V 37=_:=HH.1
    have tb272:=(Rg.use_eval V fr 272 [(37,272)] (by rw [hz];decide)).trans h37
    show Rg.Does1 _ _ V (Rg.putUse V [(37,272)] fr) w2 _
    exact step_mv (.bool false) (by simp only [execOp,tb272];go_simp) rfl rfl rfl True.intro
  ·intro V w2 HI
   have v38:V 38=.bool false:=HI.get 38 (by decide) (by rfl)
   have hlt:=later_drew HI.later
   clear HI
   simp only [Rg.putList,Act.put,List.setIfInBounds_toArray,List.set_cons_zero,List.set_cons_succ,Nat.zero_add,Nat.reduceAdd]
   rw [v38]
   clear v38
   go_wp2_with fail
   first|exact HQ.out _ _ (HEND.out _ _ hlt)|(go_ret;exact HQ.out _ _ (HEND.out _ _ hlt))
 ·skip
  cases c2'
  ·skip
   refine Rg.wp_region_facts (by kernel_rfl) (fun opn=>List.getD [Rg.val (.int .i64 lk.1),Rg.val (.int .i64 lp.1),Rg.val (.bool true),Rg.val (.bool true),Rg.val (.int .i64 (lk.2:Nat)),Rg.val (.int .i64 (lp.2:Nat)),Rg.val (.bool false),Rg.val (.bool false),Rg.val (.bool false),Rg.val (undef),Rg.val (undef),Rg.val (undef),Rg.val (.bool false),Rg.val (.bool false),Rg.val (undef),Rg.val (undef),Rg.val (undef),Rg.val (.bool false),Rg.val (.bool false),Rg.val (undef),Rg.val (undef),Rg.val (undef),Rg.val (.bool false),Rg.val (.bool false),Rg.val (undef),Rg.val (undef),Rg.val (undef),Rg.val (.bool false),Rg.val (.bool false),Rg.val (undef),Rg.val (undef),Rg.val (undef),Rg.val (undef),Rg.val (undef),Rg.val (undef),Rg.val (undef),Rg.val (undef),Rg.val (.bool false),Rg.val (.bool false)] opn Rg.any) [] [[],[],[(0,235),(1,236)],[(2,237)],[(3,238)],[(3,238)],[(3,238),(4,239),(5,240)],[(3,238),(6,241)],[(7,242)],[(8,243)],[(8,243)],[(8,243),(9,244),(10,245)],[(8,243),(11,246)],[(12,247)],[(13,248)],[(13,248)],[(13,248),(14,249),(15,250)],[(13,248),(16,251)],[(17,252)],[(18,253)],[(18,253)],[(18,253),(19,254),(20,255)],[(18,253),(21,256)],[(22,257)],[(23,258)],[(23,258)],[(23,258),(24,259),(25,260)],[(23,258),(26,261)],[(27,262)],[(28,263)],[(28,263),(29,264)],[(28,263)],[(28,263),(31,266)],[(28,263),(32,267)],[(28,263),(33,268)],[(28,263),(34,269)],[(28,263),(30,265),(35,270)],[(28,263),(36,271)],[(37,272)]] [] (by kernel_rfl) (by rfl) (by kernel_rfl) ?_ ?_
   ·intro fr ha
    have hz:fr.tmps.size=273:=by rw [ha];rfl
    have y18:fr.eval (.tmp 18)=.int .i64 lk.1:=by rw [ha];rfl
    have y19:fr.eval (.tmp 19)=.int .i64 (lk.2:Nat):=by rw [ha];rfl
    have y20:fr.eval (.tmp 20)=.int .i64 lp.1:=by rw [ha];rfl
    have y21:fr.eval (.tmp 21)=.int .i64 (lp.2:Nat):=by rw [ha];rfl
    clear ha
    refine .cons ?_ (.cons ?_ (.cons ?_ (.cons ?_ (.cons ?_ (.cons ?_ (.cons ?_ (.cons ?_ (.cons ?_ (.cons ?_ (.cons ?_ (.cons ?_ (.cons ?_ (.cons ?_ (.cons ?_ (.cons ?_ (.cons ?_ (.cons ?_ (.cons ?_ (.cons ?_ (.cons ?_ (.cons ?_ (.cons ?_ (.cons ?_ (.cons ?_ (.cons ?_ (.cons ?_ (.cons ?_ (.cons ?_ (.cons ?_ (.cons ?_ (.cons ?_ (.cons ?_ (.cons ?_ (.cons ?_ (.cons ?_ (.cons ?_ (.cons ?_ (.cons ?_ (.nil)))))))))))))))))))))))))))))))))))))))
    ·intro V w2 HL HH
     have tb18:=(Rg.use_eval V fr 18 [] (by rw [hz];decide)).trans y18
     show Rg.Does1 _ _ V (Rg.putUse V [] fr) w2 _
     exact step_mv (.int .i64 lk.1) (by simp only [execOp,tb18];go_simp) rfl rfl rfl True.intro
    ·intro V w2 HL HH
     have tb20:=(Rg.use_eval V fr 20 [] (by rw [hz];decide)).trans y20
     show Rg.Does1 _ _ V (Rg.putUse V [] fr) w2 _
     exact step_mv (.int .i64 lp.1) (by simp only [execOp,tb20];go_simp) rfl rfl rfl True.intro
    ·intro V w2 HL HH
     have h0:V 0=_:=HH.1
     have h1:V 1=_:=HH.2.1
     have tb235:=(Rg.use_eval V fr 235 [(0,235),(1,236)] (by rw [hz];decide)).trans h0
     have tb236:=(Rg.use_eval V fr 236 [(0,235),(1,236)] (by rw [hz];decide)).trans h1
     show Rg.Does1 _ _ V (Rg.putUse V [(0,235),(1,236)] fr) w2 _
     exact step_mv (.bool true) (by simp only [execOp,tb235,tb236];go_simp) rfl rfl rfl True.intro
    ·intro V w2 HL HH
     have h2:V 2=_:=HH.1
     have tb237:=(Rg.use_eval V fr 237 [(2,237)] (by rw [hz];decide)).trans h2
     show Rg.Does1 _ _ V (Rg.putUse V [(2,237)] fr) w2 _
     exact step_mv (.bool true) (by simp only [execOp,tb237];go_simp) rfl rfl rfl True.intro
    ·intro V w2 HL HH
     have h3:V 3=_:=HH.1
     have tb19:=(Rg.use_eval V fr 19 [(3,238)] (by rw [hz];decide)).trans y19
     show Rg.Does1 _ _ V (Rg.putUse V [(3,238)] fr) w2 _
     exact step_mv (.int .i64 (lk.2:Nat)) (by simp only [execOp,tb19];go_simp) rfl rfl rfl h3
    ·intro V w2 HL HH
     have h3:V 3=_:=HH.1
     have tb21:=(Rg.use_eval V fr 21 [(3,238)] (by rw [hz];decide)).trans y21
     show Rg.Does1 _ _ V (Rg.putUse V [(3,238)] fr) w2 _
     exact step_mv (.int .i64 (lp.2:Nat)) (by simp only [execOp,tb21];go_simp) rfl rfl rfl h3
    ·intro V w2 HL HH
     have h3:V 3=_:=HH.1
     have h4:V 4=_:=HH.2.1
     have h5:V 5=_:=HH.2.2.1
     have tb239:=(Rg.use_eval V fr 239 [(3,238),(4,239),(5,240)] (by rw [hz];decide)).trans h4
     have tb240:=(Rg.use_eval V fr 240 [(3,238),(4,239),(5,240)] (by rw [hz];decide)).trans h5
     show Rg.Does1 _ _ V (Rg.putUse V [(3,238),(4,239),(5,240)] fr) w2 _
     exact step_mv (.bool false) (by simp only [execOp,tb239,tb240];go_simp) rfl rfl rfl h3
    ·intro V w2 HL HH
     have h3:V 3=_:=HH.1
     have h6:V 6=_:=HH.2.1
     have tb238:=(Rg.use_eval V fr 238 [(3,238),(6,241)] (by rw [hz];decide)).trans h3
     have tb241:=(Rg.use_eval V fr 241 [(3,238),(6,241)] (by rw [hz];decide)).trans h6
     show Rg.Does1 _ _ V (Rg.putUse V [(3,238),(6,241)] fr) w2 _
     exact step_mv (.bool false) (by simp only [execOp,tb238,tb241];go_simp) rfl rfl rfl True.intro
    ·intro V w2 HL HH
     have h7:V 7=_:=HH.1
     have tb242:=(Rg.use_eval V fr 242 [(7,242)] (by rw [hz];decide)).trans h7
     show Rg.Does1 _ _ V (Rg.putUse V [(7,242)] fr) w2 _
     exact step_mv (.bool false) (by simp only [execOp,tb242];go_simp) rfl rfl rfl True.intro
    ·intro V w2 HL HH
     have h8:V 8=_:=HH.1
     exact Rg.step_not rfl h8 (Rg.alias_none rfl _ _) rfl rfl rfl
    ·intro V w2 HL HH
     have h8:V 8=_:=HH.1
     exact Rg.step_not rfl h8 (Rg.alias_none rfl _ _) rfl rfl rfl
    ·intro V w2 HL HH
     have h8:V 8=_:=HH.1
     have h9:V 9=_:=HH.2.1
     have h10:V 10=_:=HH.2.2.1
     exact Rg.step_not rfl h8 (Rg.alias_none rfl _ _) rfl rfl rfl
    ·intro V w2 HL HH
     have h8:V 8=_:=HH.1
     have h11:V 11=_:=HH.2.1
     have tb243:=(Rg.use_eval V fr 243 [(8,243),(11,246)] (by rw [hz];decide)).trans h8
     have tb246:=(Rg.use_eval V fr 246 [(8,243),(11,246)] (by rw [hz];decide)).trans h11
     show Rg.Does1 _ _ V (Rg.putUse V [(8,243),(11,246)] fr) w2 _
     exact step_mv (.bool false) (by simp only [execOp,tb243,tb246];go_simp) rfl rfl rfl True.intro
    ·intro V w2 HL HH
     have h12:V 12=_:=HH.1
     have tb247:=(Rg.use_eval V fr 247 [(12,247)] (by rw [hz];decide)).trans h12
     show Rg.Does1 _ _ V (Rg.putUse V [(12,247)] fr) w2 _
     exact step_mv (.bool false) (by simp only [execOp,tb247];go_simp) rfl rfl rfl True.intro
    ·intro V w2 HL HH
     have h13:V 13=_:=HH.1
     exact Rg.step_not rfl h13 (Rg.alias_none rfl _ _) rfl rfl rfl
    ·intro V w2 HL HH
     have h13:V 13=_:=HH.1
     exact Rg.step_not rfl h13 (Rg.alias_none rfl _ _) rfl rfl rfl
    ·intro V w2 HL HH
     have h13:V 13=_:=HH.1
     have h14:V 14=_:=HH.2.1
     have h15:V 15=_:=HH.2.2.1
     exact Rg.step_not rfl h13 (Rg.alias_none rfl _ _) rfl rfl rfl
    ·intro V w2 HL HH
     have h13:V 13=_:=HH.1
     have h16:V 16=_:=HH.2.1
     have tb248:=(Rg.use_eval V fr 248 [(13,248),(16,251)] (by rw [hz];decide)).trans h13
     have tb251:=(Rg.use_eval V fr 251 [(13,248),(16,251)] (by rw [hz];decide)).trans h16
     show Rg.Does1 _ _ V (Rg.putUse V [(13,248),(16,251)] fr) w2 _
     exact step_mv (.bool false) (by simp only [execOp,tb248,tb251];go_simp) rfl rfl rfl True.intro
    ·intro V w2 HL HH
     have h17:V 17=_:=HH.1
     have tb252:=(Rg.use_eval V fr 252 [(17,252)] (by rw [hz];decide)).trans h17
     show Rg.Does1 _ _ V (Rg.putUse V [(17,252)] fr) w2 _
     exact step_mv (.bool false) (by simp only [execOp,tb252];go_simp) rfl rfl rfl True.intro
    ·intro V w2 HL HH
     have h18:V 18=_:=HH.1
     exact Rg.step_not rfl h18 (Rg.alias_none rfl _ _) rfl rfl rfl
    ·intro V w2 HL HH
     have h18:V 18=_:=HH.1
     exact Rg.step_not rfl h18 (Rg.alias_none rfl _ _) rfl rfl rfl
    ·intro V w2 HL HH
     have h18:V 18=_:=HH.1
     have h19:V 19=_:=HH.2.1
     have h20:V 20=_:=HH.2.2.1
     exact Rg.step_not rfl h18 (Rg.alias_none rfl _ _) rfl rfl rfl
    ·intro V w2 HL HH
     have h18:V 18=_:=HH.1
     have h21:V 21=_:=HH.2.1
     have tb253:=(Rg.use_eval V fr 253 [(18,253),(21,256)] (by rw [hz];decide)).trans h18
     have tb256:=(Rg.use_eval V fr 256 [(18,253),(21,256)] (by rw [hz];decide)).trans h21
     show Rg.Does1 _ _ V (Rg.putUse V [(18,253),(21,256)] fr) w2 _
     exact step_mv (.bool false) (by simp only [execOp,tb253,tb256];go_simp) rfl rfl rfl True.intro
    ·intro V w2 HL HH
     have h22:V 22=_:=HH.1
     have tb257:=(Rg.use_eval V fr 257 [(22,257)] (by rw [hz];decide)).trans h22
     show Rg.Does1 _ _ V (Rg.putUse V [(22,257)] fr) w2 _
     exact step_mv (.bool false) (by simp only [execOp,tb257];go_simp) rfl rfl rfl True.intro
    ·intro V w2 HL HH
     have h23:V 23=_:=HH.1
     exact Rg.step_not rfl h23 (Rg.alias_none rfl _ _) rfl rfl rfl
    ·intro V w2 HL HH
     have h23:V 23=_:=HH.1
     exact Rg.step_not rfl h23 (Rg.alias_none rfl _ _) rfl rfl rfl
    ·intro V w2 HL HH
     have h23:V 23=_:=HH.1
     have h24:V 24=_:=HH.2.1
     have h25:V 25=_:=HH.2.2.1
     exact Rg.step_not rfl h23 (Rg.alias_none rfl _ _) rfl rfl rfl
    ·intro V w2 HL HH
     have h23:V 23=_:=HH.1
     have h26:V 26=_:=HH.2.1
     have tb258:=(Rg.use_eval V fr 258 [(23,258),(26,261)] (by rw [hz];decide)).trans h23
     have tb261:=(Rg.use_eval V fr 261 [(23,258),(26,261)] (by rw [hz];decide)).trans h26
     show Rg.Does1 _ _ V (Rg.putUse V [(23,258),(26,261)] fr) w2 _
     exact step_mv (.bool false) (by simp only [execOp,tb258,tb261];go_simp) rfl rfl rfl True.intro
    ·intro V w2 HL HH
     have h27:V 27=_:=HH.1
     have tb262:=(Rg.use_eval V fr 262 [(27,262)] (by rw [hz];decide)).trans h27
     show Rg.Does1 _ _ V (Rg.putUse V [(27,262)] fr) w2 _
     exact step_mv (.bool false) (by simp only [execOp,tb262];go_simp) rfl rfl rfl True.intro
    ·intro V w2 HL HH
     have h28:V 28=_:=HH.1
     exact Rg.step_not rfl h28 (Rg.alias_none rfl _ _) rfl rfl rfl
    ·intro V w2 HL HH
     have h28:V 28=_:=HH.1
     have h29:V 29=_:=HH.2.1
     exact Rg.step_not rfl h28 (Rg.alias_none rfl _ _) rfl rfl rfl
    ·intro V w2 HL HH
     have h28:V 28=_:=HH.1
     exact Rg.step_not rfl h28 (Rg.alias_none rfl _ _) rfl rfl rfl
    ·intro V w2 HL HH
     have h28:V 28=_:=HH.1
     have h31:V 31=_:=HH.2.1
     exact Rg.step_not rfl h28 (Rg.alias_none rfl _ _) rfl rfl rfl
    ·intro V w2 HL HH
     have h28:V 28=_:=HH.1
     have h32:V 32=_:=HH.2.1
     exact Rg.step_not rfl h28 (Rg.alias_none rfl _ _) rfl rfl rfl
    ·intro V w2 HL HH
     have h28:V 28=_:=HH.1
     have h33:V 33=_:=HH.2.1
     exact Rg.step_not rfl h28 (Rg.alias_none rfl _ _) rfl rfl rfl
    ·intro V w2 HL HH
     have h28:V 28=_:=HH.1
     have h34:V 34=_:=HH.2.1
     exact Rg.step_not rfl h28 (Rg.alias_none rfl _ _) rfl rfl rfl
    ·intro V w2 HL HH
     have h28:V 28=_:=HH.1
     have h30:V 30=_:=HH.2.1
     have h35:V 35=_:=HH.2.2.1
     exact Rg.step_not rfl h28 (Rg.alias_none rfl _ _) rfl rfl rfl
    ·intro V w2 HL HH
     have h28:V 28=_:=HH.1
     have h36:V 36=_:=HH.2.1
     have tb263:=(Rg.use_eval V fr 263 [(28,263),(36,271)] (by rw [hz];decide)).trans h28
     have tb271:=(Rg.use_eval V fr 271 [(28,263),(36,271)] (by rw [hz];decide)).trans h36
     show Rg.Does1 _ _ V (Rg.putUse V [(28,263),(36,271)] fr) w2 _
     exact step_mv (.bool false) (by simp only [execOp,tb263,tb271];go_simp) rfl rfl rfl True.intro
    ·intro V w2 HL HH
     have h37:V 37=_:=HH.1
     have tb272:=(Rg.use_eval V fr 272 [(37,272)] (by rw [hz];decide)).trans h37
     show Rg.Does1 _ _ V (Rg.putUse V [(37,272)] fr) w2 _
     exact step_mv (.bool false) (by simp only [execOp,tb272];go_simp) rfl rfl rfl True.intro
   ·intro V w2 HI
    have v38:V 38=.bool false:=HI.get 38 (by decide) (by rfl)
    have hlt:=later_drew HI.later
    clear HI
    simp only [Rg.putList,Act.put,List.setIfInBounds_toArray,List.set_cons_zero,List.set_cons_succ,Nat.zero_add,Nat.reduceAdd]
    rw [v38]
    clear v38
    go_wp2_with fail
    first|exact HQ.out _ _ (HEND.out _ _ hlt)|(go_ret;exact HQ.out _ _ (HEND.out _ _ hlt))
  ·skip
   cases c3
   ·skip
    refine Rg.wp_region_facts (by kernel_rfl) (fun opn=>List.getD [Rg.val (.int .i64 lk.1),Rg.val (.int .i64 lp.1),Rg.val (.bool true),Rg.val (.bool true),Rg.val (.int .i64 (lk.2:Nat)),Rg.val (.int .i64 (lp.2:Nat)),Rg.val (.bool true),Rg.val (.bool true),Rg.val (.bool true),Rg.val (.agg #[.int .i64 a1,.int .i64 a2,.int .i64 a3,.int .i64 a4,.int .u64 (a5:Nat),.bool a6]),Rg.val (.agg #[.int .i64 b1,.int .i64 b2,.int .i64 b3,.int .i64 b4,.int .u64 (b5:Nat),.bool b6]),Rg.val (.bool false),Rg.val (.bool false),Rg.val (.bool false),Rg.val (undef),Rg.val (undef),Rg.val (undef),Rg.val (.bool false),Rg.val (.bool false),Rg.val (undef),Rg.val (undef),Rg.val (undef),Rg.val (.bool false),Rg.val (.bool false),Rg.val (undef),Rg.val (undef),Rg.val (undef),Rg.val (.bool false),Rg.val (.bool false),Rg.val (undef),Rg.val (undef),Rg.val (undef),Rg.val (undef),Rg.val (undef),Rg.val (undef),Rg.val (undef),Rg.val (undef),Rg.val (.bool false),Rg.val (.bool false)] opn Rg.any) [] [[],[],[(0,235),(1,236)],[(2,237)],[(3,238)],[(3,238)],[(3,238),(4,239),(5,240)],[(3,238),(6,241)],[(7,242)],[(8,243)],[(8,243)],[(8,243),(9,244),(10,245)],[(8,243),(11,246)],[(12,247)],[(13,248)],[(13,248)],[(13,248),(14,249),(15,250)],[(13,248),(16,251)],[(17,252)],[(18,253)],[(18,253)],[(18,253),(19,254),(20,255)],[(18,253),(21,256)],[(22,257)],[(23,258)],[(23,258)],[(23,258),(24,259),(25,260)],[(23,258),(26,261)],[(27,262)],[(28,263)],[(28,263),(29,264)],[(28,263)],[(28,263),(31,266)],[(28,263),(32,267)],[(28,263),(33,268)],[(28,263),(34,269)],[(28,263),(30,265),(35,270)],[(28,263),(36,271)],[(37,272)]] [] (by kernel_rfl) (by rfl) (by kernel_rfl) ?_ ?_
    ·intro fr ha
     have hz:fr.tmps.size=273:=by rw [ha];rfl
     have y18:fr.eval (.tmp 18)=.int .i64 lk.1:=by rw [ha];rfl
     have y19:fr.eval (.tmp 19)=.int .i64 (lk.2:Nat):=by rw [ha];rfl
     have y20:fr.eval (.tmp 20)=.int .i64 lp.1:=by rw [ha];rfl
     have y21:fr.eval (.tmp 21)=.int .i64 (lp.2:Nat):=by rw [ha];rfl
     have y22:fr.eval (.tmp 22)=.pointer (some ⟨w12.heap.size,0,none⟩):=by rw [ha];rfl
     have y24:fr.eval (.tmp 24)=.pointer (some ⟨w13.heap.size,0,none⟩):=by rw [ha];rfl
     clear ha
     refine .cons ?_ (.cons ?_ (.cons ?_ (.cons ?_ (.cons ?_ (.cons ?_ (.cons ?_ (.cons ?_ (.cons ?_ (.cons ?_ (.cons ?_ (.cons ?_ (.cons ?_ (.cons ?_ (.cons ?_ (.cons ?_ (.cons ?_ (.cons ?_ (.cons ?_ (.cons ?_ (.cons ?_ (.cons ?_ (.cons ?_ (.cons ?_ (.cons ?_ (.cons ?_ (.cons ?_ (.cons ?_ (.cons ?_ (.cons ?_ (.cons ?_ (.cons ?_ (.cons ?_ (.cons ?_ (.cons ?_ (.cons ?_ (.cons ?_ (.cons ?_ (.cons ?_ (.nil)))))))))))))))))))))))))))))))))))))))
     ·intro V w2 HL HH
      have tb18:=(Rg.use_eval V fr 18 [] (by rw [hz];decide)).trans y18
      show Rg.Does1 _ _ V (Rg.putUse V [] fr) w2 _
      exact step_mv (.int .i64 lk.1) (by simp only [execOp,tb18];go_simp) rfl rfl rfl True.intro
     ·intro V w2 HL HH
      have tb20:=(Rg.use_eval V fr 20 [] (by rw [hz];decide)).trans y20
      show Rg.Does1 _ _ V (Rg.putUse V [] fr) w2 _
      exact step_mv (.int .i64 lp.1) (by simp only [execOp,tb20];go_simp) rfl rfl rfl True.intro
     ·intro V w2 HL HH
      have h0:V 0=_:=HH.1
      have h1:V 1=_:=HH.2.1
      have tb235:=(Rg.use_eval V fr 235 [(0,235),(1,236)] (by rw [hz];decide)).trans h0
      have tb236:=(Rg.use_eval V fr 236 [(0,235),(1,236)] (by rw [hz];decide)).trans h1
      show Rg.Does1 _ _ V (Rg.putUse V [(0,235),(1,236)] fr) w2 _
      exact step_mv (.bool true) (by simp only [execOp,tb235,tb236];go_simp) rfl rfl rfl True.intro
     ·intro V w2 HL HH
      have h2:V 2=_:=HH.1
      have tb237:=(Rg.use_eval V fr 237 [(2,237)] (by rw [hz];decide)).trans h2
      show Rg.Does1 _ _ V (Rg.putUse V [(2,237)] fr) w2 _
      exact step_mv (.bool true) (by simp only [execOp,tb237];go_simp) rfl rfl rfl True.intro
     ·intro V w2 HL HH
      have h3:V 3=_:=HH.1
      have tb19:=(Rg.use_eval V fr 19 [(3,238)] (by rw [hz];decide)).trans y19
      show Rg.Does1 _ _ V (Rg.putUse V [(3,238)] fr) w2 _
      exact step_mv (.int .i64 (lk.2:Nat)) (by simp only [execOp,tb19];go_simp) rfl rfl rfl h3
     ·intro V w2 HL HH
      have h3:V 3=_:=HH.1
      have tb21:=(Rg.use_eval V fr 21 [(3,238)] (by rw [hz];decide)).trans y21
      show Rg.Does1 _ _ V (Rg.putUse V [(3,238)] fr) w2 _
      exact step_mv (.int .i64 (lp.2:Nat)) (by simp only [execOp,tb21];go_simp) rfl rfl rfl h3
     ·intro V w2 HL HH
      have h3:V 3=_:=HH.1
      have h4:V 4=_:=HH.2.1
      have h5:V 5=_:=HH.2.2.1
      have tb239:=(Rg.use_eval V fr 239 [(3,238),(4,239),(5,240)] (by rw [hz];decide)).trans h4
      have tb240:=(Rg.use_eval V fr 240 [(3,238),(4,239),(5,240)] (by rw [hz];decide)).trans h5
      show Rg.Does1 _ _ V (Rg.putUse V [(3,238),(4,239),(5,240)] fr) w2 _
      exact step_mv (.bool true) (by simp only [execOp,tb239,tb240];go_simp) rfl rfl rfl h3
     ·intro V w2 HL HH
      have h3:V 3=_:=HH.1
      have h6:V 6=_:=HH.2.1
      have tb238:=(Rg.use_eval V fr 238 [(3,238),(6,241)] (by rw [hz];decide)).trans h3
      have tb241:=(Rg.use_eval V fr 241 [(3,238),(6,241)] (by rw [hz];decide)).trans h6
      show Rg.Does1 _ _ V (Rg.putUse V [(3,238),(6,241)] fr) w2 _
      exact step_mv (.bool true) (by simp only [execOp,tb238,tb241];go_simp) rfl rfl rfl True.intro
     ·intro V w2 HL HH
      have h7:V 7=_:=HH.1
      have tb242:=(Rg.use_eval V fr 242 [(7,242)] (by rw [hz];decide)).trans h7
      show Rg.Does1 _ _ V (Rg.putUse V [(7,242)] fr) w2 _
      exact step_mv (.bool true) (by simp only [execOp,tb242];go_simp) rfl rfl rfl True.intro
     ·intro V w2 HL HH
      have HL:Later w15 w2:=HL
      have h8:V 8=_:=HH.1
      have tb22:=(Rg.use_eval V fr 22 [(8,243)] (by rw [hz];decide)).trans y22
      show Rg.Does1 _ _ V (Rg.putUse V [(8,243)] fr) w2 _
      obtain ⟨⟨e0,e1,e2,e3,e4,e5⟩,_,_⟩:=HCS.out _ HL
      exact step_mv (.agg #[.int .i64 a1,.int .i64 a2,.int .i64 a3,.int .i64 a4,.int .u64 (a5:Nat),.bool a6]) (by simp only [execOp,tb22];go_simp) rfl rfl rfl h8
     ·intro V w2 HL HH
      have HL:Later w15 w2:=HL
      have h8:V 8=_:=HH.1
      have tb24:=(Rg.use_eval V fr 24 [(8,243)] (by rw [hz];decide)).trans y24
      show Rg.Does1 _ _ V (Rg.putUse V [(8,243)] fr) w2 _
      obtain ⟨_,⟨e0,e1,e2,e3,e4,e5⟩,_⟩:=HCS.out _ HL
      exact step_mv (.agg #[.int .i64 b1,.int .i64 b2,.int .i64 b3,.int .i64 b4,.int .u64 (b5:Nat),.bool b6]) (by simp only [execOp,tb24];go_simp) rfl rfl rfl h8
     ·intro V w2 HL HH
      have h8:V 8=_:=HH.1
      have h9:V 9=_:=HH.2.1
      have h10:V 10=_:=HH.2.2.1
      have tb244:=(Rg.use_eval V fr 244 [(8,243),(9,244),(10,245)] (by rw [hz];decide)).trans h9
      have tb245:=(Rg.use_eval V fr 245 [(8,243),(9,244),(10,245)] (by rw [hz];decide)).trans h10
      show Rg.Does1 _ _ V (Rg.putUse V [(8,243),(9,244),(10,245)] fr) w2 _
      have hq:=heq w2
      exact step_mv (.bool false) (by simp only [execOp,tb244,tb245];go_simp) rfl rfl rfl h8
     ·intro V w2 HL HH
      have h8:V 8=_:=HH.1
      have h11:V 11=_:=HH.2.1
      have tb243:=(Rg.use_eval V fr 243 [(8,243),(11,246)] (by rw [hz];decide)).trans h8
      have tb246:=(Rg.use_eval V fr 246 [(8,243),(11,246)] (by rw [hz];decide)).trans h11
      show Rg.Does1 _ _ V (Rg.putUse V [(8,243),(11,246)] fr) w2 _
      exact step_mv (.bool false) (by simp only [execOp,tb243,tb246];go_simp) rfl rfl rfl True.intro
     ·intro V w2 HL HH
      have h12:V 12=_:=HH.1
      have tb247:=(Rg.use_eval V fr 247 [(12,247)] (by rw [hz];decide)).trans h12
      show Rg.Does1 _ _ V (Rg.putUse V [(12,247)] fr) w2 _
      exact step_mv (.bool false) (by simp only [execOp,tb247];go_simp) rfl rfl rfl True.intro
     ·intro V w2 HL HH
      have h13:V 13=_:=HH.1
      exact Rg.step_not rfl h13 (Rg.alias_none rfl _ _) rfl rfl rfl
     ·intro V w2 HL HH
      have h13:V 13=_:=HH.1
      exact Rg.step_not rfl h13 (Rg.alias_none rfl _ _) rfl rfl rfl
     ·intro V w2 HL HH
      have h13:V 13=_:=HH.1
      have h14:V 14=_:=HH.2.1
      have h15:V 15=_:=HH.2.2.1
      exact Rg.step_not rfl h13 (Rg.alias_none rfl _ _) rfl rfl rfl
     ·intro V w2 HL HH
      have h13:V 13=_:=HH.1
      have h16:V 16=_:=HH.2.1
      have tb248:=(Rg.use_eval V fr 248 [(13,248),(16,251)] (by rw [hz];decide)).trans h13
      have tb251:=(Rg.use_eval V fr 251 [(13,248),(16,251)] (by rw [hz];decide)).trans h16
      show Rg.Does1 _ _ V (Rg.putUse V [(13,248),(16,251)] fr) w2 _
      exact step_mv (.bool false) (by simp only [execOp,tb248,tb251];go_simp) rfl rfl rfl True.intro
     ·intro V w2 HL HH
      have h17:V 17=_:=HH.1
      have tb252:=(Rg.use_eval V fr 252 [(17,252)] (by rw [hz];decide)).trans h17
      show Rg.Does1 _ _ V (Rg.putUse V [(17,252)] fr) w2 _
      exact step_mv (.bool false) (by simp only [execOp,tb252];go_simp) rfl rfl rfl True.intro
     ·intro V w2 HL HH
      have h18:V 18=_:=HH.1
      exact Rg.step_not rfl h18 (Rg.alias_none rfl _ _) rfl rfl rfl
     ·intro V w2 HL HH
      have h18:V 18=_:=HH.1
      exact Rg.step_not rfl h18 (Rg.alias_none rfl _ _) rfl rfl rfl
     ·intro V w2 HL HH
      have h18:V 18=_:=HH.1
      have h19:V 19=_:=HH.2.1
      have h20:V 20=_:=HH.2.2.1
      exact Rg.step_not rfl h18 (Rg.alias_none rfl _ _) rfl rfl rfl
     ·intro V w2 HL HH
      have h18:V 18=_:=HH.1
      have h21:V 21=_:=HH.2.1
      have tb253:=(Rg.use_eval V fr 253 [(18,253),(21,256)] (by rw [hz];decide)).trans h18
      have tb256:=(Rg.use_eval V fr 256 [(18,253),(21,256)] (by rw [hz];decide)).trans h21
      show Rg.Does1 _ _ V (Rg.putUse V [(18,253),(21,256)] fr) w2 _
      exact step_mv (.bool false) (by simp only [execOp,tb253,tb256];go_simp) rfl rfl rfl True.intro
     ·intro V w2 HL HH
      have h22:V 22=_:=HH.1
      have tb257:=(Rg.use_eval V fr 257 [(22,257)] (by rw [hz];decide)).trans h22
      show Rg.Does1 _ _ V (Rg.putUse V [(22,257)] fr) w2 _
      exact step_mv (.bool false) (by simp only [execOp,tb257];go_simp) rfl rfl rfl True.intro
     ·intro V w2 HL HH
      have h23:V 23=_:=HH.1
      exact Rg.step_not rfl h23 (Rg.alias_none rfl _ _) rfl rfl rfl
     ·intro V w2 HL HH
      have h23:V 23=_:=HH.1
      exact Rg.step_not rfl h23 (Rg.alias_none rfl _ _) rfl rfl rfl
     ·intro V w2 HL HH
      have h23:V 23=_:=HH.1
      have h24:V 24=_:=HH.2.1
      have h25:V 25=_:=HH.2.2.1
      exact Rg.step_not rfl h23 (Rg.alias_none rfl _ _) rfl rfl rfl
     ·intro V w2 HL HH
      have h23:V 23=_:=HH.1
      have h26:V 26=_:=HH.2.1
      have tb258:=(Rg.use_eval V fr 258 [(23,258),(26,261)] (by rw [hz];decide)).trans h23
      have tb261:=(Rg.use_eval V fr 261 [(23,258),(26,261)] (by rw [hz];decide)).trans h26
      show Rg.Does1 _ _ V (Rg.putUse V [(23,258),(26,261)] fr) w2 _
      exact step_mv (.bool false) (by simp only [execOp,tb258,tb261];go_simp) rfl rfl rfl True.intro
     ·intro V w2 HL HH
      have h27:V 27=_:=HH.1
      have tb262:=(Rg.use_eval V fr 262 [(27,262)] (by rw [hz];decide)).trans h27
      show Rg.Does1 _ _ V (Rg.putUse V [(27,262)] fr) w2 _
      exact step_mv (.bool false) (by simp only [execOp,tb262];go_simp) rfl rfl rfl True.intro
     ·intro V w2 HL HH
      have h28:V 28=_:=HH.1
      exact Rg.step_not rfl h28 (Rg.alias_none rfl _ _) rfl rfl rfl
     ·intro V w2 HL HH
      have h28:V 28=_:=HH.1
      have h29:V 29=_:=HH.2.1
      exact Rg.step_not rfl h28 (Rg.alias_none rfl _ _) rfl rfl rfl
     ·intro V w2 HL HH
      have h28:V 28=_:=HH.1
      exact Rg.step_not rfl h28 (Rg.alias_none rfl _ _) rfl rfl rfl
     ·intro V w2 HL HH
      have h28:V 28=_:=HH.1
      have h31:V 31=_:=HH.2.1
      exact Rg.step_not rfl h28 (Rg.alias_none rfl _ _) rfl rfl rfl
     ·intro V w2 HL HH
      have h28:V 28=_:=HH.1
      have h32:V 32=_:=HH.2.1
      exact Rg.step_not rfl h28 (Rg.alias_none rfl _ _) rfl rfl rfl
     ·intro V w2 HL HH
      have h28:V 28=_:=HH.1
      have h33:V 33=_:=HH.2.1
      exact Rg.step_not rfl h28 (Rg.alias_none rfl _ _) rfl rfl rfl
     ·intro V w2 HL HH
      have h28:V 28=_:=HH.1
      have h34:V 34=_:=HH.2.1
      exact Rg.step_not rfl h28 (Rg.alias_none rfl _ _) rfl rfl rfl
     ·intro V w2 HL HH
      have h28:V 28=_:=HH.1
      have h30:V 30=_:=HH.2.1
      have h35:V 35=_:=HH.2.2.1
      exact Rg.step_not rfl h28 (Rg.alias_none rfl _ _) rfl rfl rfl
     ·intro V w2 HL HH
      have h28:V 28=_:=HH.1
      have h36:V 36=_:=HH.2.1
      have tb263:=(Rg.use_eval V fr 263 [(28,263),(36,271)] (by rw [hz];decide)).trans h28
      have tb271:=(Rg.use_eval V fr 271 [(28,263),(36,271)] (by rw [hz];decide)).trans h36
      show Rg.Does1 _ _ V (Rg.putUse V [(28,263),(36,271)] fr) w2 _
      exact step_mv (.bool false) (by simp only [execOp,tb263,tb271];go_simp) rfl rfl rfl True.intro
     ·intro V w2 HL HH
      have h37:V 37=_:=HH.1
      have tb272:=(Rg.use_eval V fr 272 [(37,272)] (by rw [hz];decide)).trans h37
      show Rg.Does1 _ _ V (Rg.putUse V [(37,272)] fr) w2 _
      exact step_mv (.bool false) (by simp only [execOp,tb272];go_simp) rfl rfl rfl True.intro
    ·intro V w2 HI
     have v38:V 38=.bool false:=HI.get 38 (by decide) (by rfl)
     have hlt:=later_drew HI.later
     clear HI
     simp only [Rg.putList,Act.put,List.setIfInBounds_toArray,List.set_cons_zero,List.set_cons_succ,Nat.zero_add,Nat.reduceAdd]
     rw [v38]
     clear v38
     go_wp2_with fail
     first|exact HQ.out _ _ (HEND.out _ _ hlt)|(go_ret;exact HQ.out _ _ (HEND.out _ _ hlt))
   ·skip
    cases c4
    ·skip
     refine Rg.wp_region_facts (by kernel_rfl) (fun opn=>List.getD [Rg.val (.int .i64 lk.1),Rg.val (.int .i64 lp.1),Rg.val (.bool true),Rg.val (.bool true),Rg.val (.int .i64 (lk.2:Nat)),Rg.val (.int .i64 (lp.2:Nat)),Rg.val (.bool true),Rg.val (.bool true),Rg.val (.bool true),Rg.val (.agg #[.int .i64 a1,.int .i64 a2,.int .i64 a3,.int .i64 a4,.int .u64 (a5:Nat),.bool a6]),Rg.val (.agg #[.int .i64 b1,.int .i64 b2,.int .i64 b3,.int .i64 b4,.int .u64 (b5:Nat),.bool b6]),Rg.val (.bool true),Rg.val (.bool true),Rg.val (.bool true),Rg.val (.bool fo),Rg.val (.bool fp),Rg.val (.bool false),Rg.val (.bool false),Rg.val (.bool false),Rg.val (undef),Rg.val (undef),Rg.val (undef),Rg.val (.bool false),Rg.val (.bool false),Rg.val (undef),Rg.val (undef),Rg.val (undef),Rg.val (.bool false),Rg.val (.bool false),Rg.val (undef),Rg.val (undef),Rg.val (undef),Rg.val (undef),Rg.val (undef),Rg.val (undef),Rg.val (undef),Rg.val (undef),Rg.val (.bool false),Rg.val (.bool false)] opn Rg.any) [] [[],[],[(0,235),(1,236)],[(2,237)],[(3,238)],[(3,238)],[(3,238),(4,239),(5,240)],[(3,238),(6,241)],[(7,242)],[(8,243)],[(8,243)],[(8,243),(9,244),(10,245)],[(8,243),(11,246)],[(12,247)],[(13,248)],[(13,248)],[(13,248),(14,249),(15,250)],[(13,248),(16,251)],[(17,252)],[(18,253)],[(18,253)],[(18,253),(19,254),(20,255)],[(18,253),(21,256)],[(22,257)],[(23,258)],[(23,258)],[(23,258),(24,259),(25,260)],[(23,258),(26,261)],[(27,262)],[(28,263)],[(28,263),(29,264)],[(28,263)],[(28,263),(31,266)],[(28,263),(32,267)],[(28,263),(33,268)],[(28,263),(34,269)],[(28,263),(30,265),(35,270)],[(28,263),(36,271)],[(37,272)]] [] (by kernel_rfl) (by rfl) (by kernel_rfl) ?_ ?_
     ·intro fr ha
      have hz:fr.tmps.size=273:=by rw [ha];rfl
      have y18:fr.eval (.tmp 18)=.int .i64 lk.1:=by rw [ha];rfl
      have y19:fr.eval (.tmp 19)=.int .i64 (lk.2:Nat):=by rw [ha];rfl
      have y20:fr.eval (.tmp 20)=.int .i64 lp.1:=by rw [ha];rfl
      have y21:fr.eval (.tmp 21)=.int .i64 (lp.2:Nat):=by rw [ha];rfl
      have y22:fr.eval (.tmp 22)=.pointer (some ⟨w12.heap.size,0,none⟩):=by rw [ha];rfl
      have y23:fr.eval (.tmp 23)=.bool fo:=by rw [ha];rfl
      have y24:fr.eval (.tmp 24)=.pointer (some ⟨w13.heap.size,0,none⟩):=by rw [ha];rfl
      have y25:fr.eval (.tmp 25)=.bool fp:=by rw [ha];rfl
      clear ha
      refine .cons ?_ (.cons ?_ (.cons ?_ (.cons ?_ (.cons ?_ (.cons ?_ (.cons ?_ (.cons ?_ (.cons ?_ (.cons ?_ (.cons ?_ (.cons ?_ (.cons ?_ (.cons ?_ (.cons ?_ (.cons ?_ (.cons ?_ (.cons ?_ (.cons ?_ (.cons ?_ (.cons ?_ (.cons ?_ (.cons ?_ (.cons ?_ (.cons ?_ (.cons ?_ (.cons ?_ (.cons ?_ (.cons ?_ (.cons ?_ (.cons ?_ (.cons ?_ (.cons ?_ (.cons ?_ (.cons ?_ (.cons ?_ (.cons ?_ (.cons ?_ (.cons ?_ (.nil)))))))))))))))))))))))))))))))))))))))
      ·intro V w2 HL HH
       have tb18:=(Rg.use_eval V fr 18 [] (by rw [hz];decide)).trans y18
       show Rg.Does1 _ _ V (Rg.putUse V [] fr) w2 _
       exact step_mv (.int .i64 lk.1) (by simp only [execOp,tb18];go_simp) rfl rfl rfl True.intro
      ·intro V w2 HL HH
       have tb20:=(Rg.use_eval V fr 20 [] (by rw [hz];decide)).trans y20
       show Rg.Does1 _ _ V (Rg.putUse V [] fr) w2 _
       exact step_mv (.int .i64 lp.1) (by simp only [execOp,tb20];go_simp) rfl rfl rfl True.intro
      ·intro V w2 HL HH
       have h0:V 0=_:=HH.1
       have h1:V 1=_:=HH.2.1
       have tb235:=(Rg.use_eval V fr 235 [(0,235),(1,236)] (by rw [hz];decide)).trans h0
       have tb236:=(Rg.use_eval V fr 236 [(0,235),(1,236)] (by rw [hz];decide)).trans h1
       show Rg.Does1 _ _ V (Rg.putUse V [(0,235),(1,236)] fr) w2 _
       exact step_mv (.bool true) (by simp only [execOp,tb235,tb236];go_simp) rfl rfl rfl True.intro
      ·intro V w2 HL HH
       have h2:V 2=_:=HH.1
       have tb237:=(Rg.use_eval V fr 237 [(2,237)] (by rw [hz];decide)).trans h2
       show Rg.Does1 _ _ V (Rg.putUse V [(2,237)] fr) w2 _
       exact step_mv (.bool true) (by simp only [execOp,tb237];go_simp) rfl rfl rfl True.intro
      ·intro V w2 HL HH
       have h3:V 3=_:=HH.1
       have tb19:=(Rg.use_eval V fr 19 [(3,238)] (by rw [hz];decide)).trans y19
       show Rg.Does1 _ _ V (Rg.putUse V [(3,238)] fr) w2 _
       exact step_mv (.int .i64 (lk.2:Nat)) (by simp only [execOp,tb19];go_simp) rfl rfl rfl h3
      ·intro V w2 HL HH
       have h3:V 3=_:=HH.1
       have tb21:=(Rg.use_eval V fr 21 [(3,238)] (by rw [hz];decide)).trans y21
       show Rg.Does1 _ _ V (Rg.putUse V [(3,238)] fr) w2 _
       exact step_mv (.int .i64 (lp.2:Nat)) (by simp only [execOp,tb21];go_simp) rfl rfl rfl h3
      ·intro V w2 HL HH
       have h3:V 3=_:=HH.1
       have h4:V 4=_:=HH.2.1
       have h5:V 5=_:=HH.2.2.1
       have tb239:=(Rg.use_eval V fr 239 [(3,238),(4,239),(5,240)] (by rw [hz];decide)).trans h4
       have tb240:=(Rg.use_eval V fr 240 [(3,238),(4,239),(5,240)] (by rw [hz];decide)).trans h5
       show Rg.Does1 _ _ V (Rg.putUse V [(3,238),(4,239),(5,240)] fr) w2 _
       exact step_mv (.bool true) (by simp only [execOp,tb239,tb240];go_simp) rfl rfl rfl h3
      ·intro V w2 HL HH
       have h3:V 3=_:=HH.1
       have h6:V 6=_:=HH.2.1
       have tb238:=(Rg.use_eval V fr 238 [(3,238),(6,241)] (by rw [hz];decide)).trans h3
       have tb241:=(Rg.use_eval V fr 241 [(3,238),(6,241)] (by rw [hz];decide)).trans h6
       show Rg.Does1 _ _ V (Rg.putUse V [(3,238),(6,241)] fr) w2 _
       exact step_mv (.bool true) (by simp only [execOp,tb238,tb241];go_simp) rfl rfl rfl True.intro
      ·intro V w2 HL HH
       have h7:V 7=_:=HH.1
       have tb242:=(Rg.use_eval V fr 242 [(7,242)] (by rw [hz];decide)).trans h7
       show Rg.Does1 _ _ V (Rg.putUse V [(7,242)] fr) w2 _
       exact step_mv (.bool true) (by simp only [execOp,tb242];go_simp) rfl rfl rfl True.intro
      ·intro V w2 HL HH
       have HL:Later w15 w2:=HL
       have h8:V 8=_:=HH.1
       have tb22:=(Rg.use_eval V fr 22 [(8,243)] (by rw [hz];decide)).trans y22
       show Rg.Does1 _ _ V (Rg.putUse V [(8,243)] fr) w2 _
       obtain ⟨⟨e0,e1,e2,e3,e4,e5⟩,_,_⟩:=HCS.out _ HL
       exact step_mv (.agg #[.int .i64 a1,.int .i64 a2,.int .i64 a3,.int .i64 a4,.int .u64 (a5:Nat),.bool a6]) (by simp only [execOp,tb22];go_simp) rfl rfl rfl h8
      ·intro V w2 HL HH
       have HL:Later w15 w2:=HL
       have h8:V 8=_:=HH.1
       have tb24:=(Rg.use_eval V fr 24 [(8,243)] (by rw [hz];decide)).trans y24
       show Rg.Does1 _ _ V (Rg.putUse V [(8,243)] fr) w2 _
       obtain ⟨_,⟨e0,e1,e2,e3,e4,e5⟩,_⟩:=HCS.out _ HL
       exact step_mv (.agg #[.int .i64 b1,.int .i64 b2,.int .i64 b3,.int .i64 b4,.int .u64 (b5:Nat),.bool b6]) (by simp only [execOp,tb24];go_simp) rfl rfl rfl h8
      ·intro V w2 HL HH
       have h8:V 8=_:=HH.1
       have h9:V 9=_:=HH.2.1
       have h10:V 10=_:=HH.2.2.1
       have tb244:=(Rg.use_eval V fr 244 [(8,243),(9,244),(10,245)] (by rw [hz];decide)).trans h9
       have tb245:=(Rg.use_eval V fr 245 [(8,243),(9,244),(10,245)] (by rw [hz];decide)).trans h10
       show Rg.Does1 _ _ V (Rg.putUse V [(8,243),(9,244),(10,245)] fr) w2 _
       have hq:=heq w2
       exact step_mv (.bool true) (by simp only [execOp,tb244,tb245];go_simp) rfl rfl rfl h8
      ·intro V w2 HL HH
       have h8:V 8=_:=HH.1
       have h11:V 11=_:=HH.2.1
       have tb243:=(Rg.use_eval V fr 243 [(8,243),(11,246)] (by rw [hz];decide)).trans h8
       have tb246:=(Rg.use_eval V fr 246 [(8,243),(11,246)] (by rw [hz];decide)).trans h11
       show Rg.Does1 _ _ V (Rg.putUse V [(8,243),(11,246)] fr) w2 _
       exact step_mv (.bool true) (by simp only [execOp,tb243,tb246];go_simp) rfl rfl rfl True.intro
      ·intro V w2 HL HH
       have h12:V 12=_:=HH.1
       have tb247:=(Rg.use_eval V fr 247 [(12,247)] (by rw [hz];decide)).trans h12
       show Rg.Does1 _ _ V (Rg.putUse V [(12,247)] fr) w2 _
       exact step_mv (.bool true) (by simp only [execOp,tb247];go_simp) rfl rfl rfl True.intro
      ·intro V w2 HL HH
       have h13:V 13=_:=HH.1
       have tb23:=(Rg.use_eval V fr 23 [(13,248)] (by rw [hz];decide)).trans y23
       show Rg.Does1 _ _ V (Rg.putUse V [(13,248)] fr) w2 _
       exact step_mv (.bool fo) (by simp only [execOp,tb23];go_simp) rfl rfl rfl h13
      ·intro V w2 HL HH
       have h13:V 13=_:=HH.1
       have tb25:=(Rg.use_eval V fr 25 [(13,248)] (by rw [hz];decide)).trans y25
       show Rg.Does1 _ _ V (Rg.putUse V [(13,248)] fr) w2 _
       exact step_mv (.bool fp) (by simp only [execOp,tb25];go_simp) rfl rfl rfl h13
      ·intro V w2 HL HH
       have h13:V 13=_:=HH.1
       have h14:V 14=_:=HH.2.1
       have h15:V 15=_:=HH.2.2.1
       have tb249:=(Rg.use_eval V fr 249 [(13,248),(14,249),(15,250)] (by rw [hz];decide)).trans h14
       have tb250:=(Rg.use_eval V fr 250 [(13,248),(14,249),(15,250)] (by rw [hz];decide)).trans h15
       show Rg.Does1 _ _ V (Rg.putUse V [(13,248),(14,249),(15,250)] fr) w2 _
       exact step_mv (.bool false) (by simp only [execOp,tb249,tb250];go_simp) rfl rfl rfl h13
      ·intro V w2 HL HH
       have h13:V 13=_:=HH.1
       have h16:V 16=_:=HH.2.1
       have tb248:=(Rg.use_eval V fr 248 [(13,248),(16,251)] (by rw [hz];decide)).trans h13
       have tb251:=(Rg.use_eval V fr 251 [(13,248),(16,251)] (by rw [hz];decide)).trans h16
       show Rg.Does1 _ _ V (Rg.putUse V [(13,248),(16,251)] fr) w2 _
       exact step_mv (.bool false) (by simp only [execOp,tb248,tb251];go_simp) rfl rfl rfl True.intro
      ·intro V w2 HL HH
       have h17:V 17=_:=HH.1
       have tb252:=(Rg.use_eval V fr 252 [(17,252)] (by rw [hz];decide)).trans h17
       show Rg.Does1 _ _ V (Rg.putUse V [(17,252)] fr) w2 _
       exact step_mv (.bool false) (by simp only [execOp,tb252];go_simp) rfl rfl rfl True.intro
      ·intro V w2 HL HH
       have h18:V 18=_:=HH.1
       exact Rg.step_not rfl h18 (Rg.alias_none rfl _ _) rfl rfl rfl
      ·intro V w2 HL HH
       have h18:V 18=_:=HH.1
       exact Rg.step_not rfl h18 (Rg.alias_none rfl _ _) rfl rfl rfl
      ·intro V w2 HL HH
       have h18:V 18=_:=HH.1
       have h19:V 19=_:=HH.2.1
       have h20:V 20=_:=HH.2.2.1
       exact Rg.step_not rfl h18 (Rg.alias_none rfl _ _) rfl rfl rfl
      ·intro V w2 HL HH
       have h18:V 18=_:=HH.1
       have h21:V 21=_:=HH.2.1
       have tb253:=(Rg.use_eval V fr 253 [(18,253),(21,256)] (by rw [hz];decide)).trans h18
       have tb256:=(Rg.use_eval V fr 256 [(18,253),(21,256)] (by rw [hz];decide)).trans h21
       show Rg.Does1 _ _ V (Rg.putUse V [(18,253),(21,256)] fr) w2 _
       exact step_mv (.bool false) (by simp only [execOp,tb253,tb256];go_simp) rfl rfl rfl True.intro
      ·intro V w2 HL HH
       have h22:V 22=_:=HH.1
       have tb257:=(Rg.use_eval V fr 257 [(22,257)] (by rw [hz];decide)).trans h22
       show Rg.Does1 _ _ V (Rg.putUse V [(22,257)] fr) w2 _
       exact step_mv (.bool false) (by simp only [execOp,tb257];go_simp) rfl rfl rfl True.intro
      ·intro V w2 HL HH
       have h23:V 23=_:=HH.1
       exact Rg.step_not rfl h23 (Rg.alias_none rfl _ _) rfl rfl rfl
      ·intro V w2 HL HH
       have h23:V 23=_:=HH.1
       exact Rg.step_not rfl h23 (Rg.alias_none rfl _ _) rfl rfl rfl
      ·intro V w2 HL HH
       have h23:V 23=_:=HH.1
       have h24:V 24=_:=HH.2.1
       have h25:V 25=_:=HH.2.2.1
       exact Rg.step_not rfl h23 (Rg.alias_none rfl _ _) rfl rfl rfl
      ·intro V w2 HL HH
       have h23:V 23=_:=HH.1
       have h26:V 26=_:=HH.2.1
       have tb258:=(Rg.use_eval V fr 258 [(23,258),(26,261)] (by rw [hz];decide)).trans h23
       have tb261:=(Rg.use_eval V fr 261 [(23,258),(26,261)] (by rw [hz];decide)).trans h26
       show Rg.Does1 _ _ V (Rg.putUse V [(23,258),(26,261)] fr) w2 _
       exact step_mv (.bool false) (by simp only [execOp,tb258,tb261];go_simp) rfl rfl rfl True.intro
      ·intro V w2 HL HH
       have h27:V 27=_:=HH.1
       have tb262:=(Rg.use_eval V fr 262 [(27,262)] (by rw [hz];decide)).trans h27
       show Rg.Does1 _ _ V (Rg.putUse V [(27,262)] fr) w2 _
       exact step_mv (.bool false) (by simp only [execOp,tb262];go_simp) rfl rfl rfl True.intro
      ·intro V w2 HL HH
       have h28:V 28=_:=HH.1
       exact Rg.step_not rfl h28 (Rg.alias_none rfl _ _) rfl rfl rfl
      ·intro V w2 HL HH
       have h28:V 28=_:=HH.1
       have h29:V 29=_:=HH.2.1
       exact Rg.step_not rfl h28 (Rg.alias_none rfl _ _) rfl rfl rfl
      ·intro V w2 HL HH
       have h28:V 28=_:=HH.1
       exact Rg.step_not rfl h28 (Rg.alias_none rfl _ _) rfl rfl rfl
      ·intro V w2 HL HH
       have h28:V 28=_:=HH.1
       have h31:V 31=_:=HH.2.1
       exact Rg.step_not rfl h28 (Rg.alias_none rfl _ _) rfl rfl rfl
      ·intro V w2 HL HH
       have h28:V 28=_:=HH.1
       have h32:V 32=_:=HH.2.1
       exact Rg.step_not rfl h28 (Rg.alias_none rfl _ _) rfl rfl rfl
      ·intro V w2 HL HH
       have h28:V 28=_:=HH.1
       have h33:V 33=_:=HH.2.1
       exact Rg.step_not rfl h28 (Rg.alias_none rfl _ _) rfl rfl rfl
      ·intro V w2 HL HH
       have h28:V 28=_:=HH.1
       have h34:V 34=_:=HH.2.1
       exact Rg.step_not rfl h28 (Rg.alias_none rfl _ _) rfl rfl rfl
      ·intro V w2 HL HH
       have h28:V 28=_:=HH.1
       have h30:V 30=_:=HH.2.1
       have h35:V 35=_:=HH.2.2.1
       exact Rg.step_not rfl h28 (Rg.alias_none rfl _ _) rfl rfl rfl
      ·intro V w2 HL HH
       have h28:V 28=_:=HH.1
       have h36:V 36=_:=HH.2.1
       have tb263:=(Rg.use_eval V fr 263 [(28,263),(36,271)] (by rw [hz];decide)).trans h28
       have tb271:=(Rg.use_eval V fr 271 [(28,263),(36,271)] (by rw [hz];decide)).trans h36
       show Rg.Does1 _ _ V (Rg.putUse V [(28,263),(36,271)] fr) w2 _
       exact step_mv (.bool false) (by simp only [execOp,tb263,tb271];go_simp) rfl rfl rfl True.intro
      ·intro V w2 HL HH
       have h37:V 37=_:=HH.1
       have tb272:=(Rg.use_eval V fr 272 [(37,272)] (by rw [hz];decide)).trans h37
       show Rg.Does1 _ _ V (Rg.putUse V [(37,272)] fr) w2 _
       exact step_mv (.bool false) (by simp only [execOp,tb272];go_simp) rfl rfl rfl True.intro
     ·intro V w2 HI
      have v38:V 38=.bool false:=HI.get 38 (by decide) (by rfl)
      have hlt:=later_drew HI.later
      clear HI
      simp only [Rg.putList,Act.put,List.setIfInBounds_toArray,List.set_cons_zero,List.set_cons_succ,Nat.zero_add,Nat.reduceAdd]
      rw [v38]
      clear v38
      go_wp2_with fail
      first|exact HQ.out _ _ (HEND.out _ _ hlt)|(go_ret;exact HQ.out _ _ (HEND.out _ _ hlt))
    ·skip
     cases c5
     ·skip
      refine Rg.wp_region_facts (by kernel_rfl) (fun opn=>List.getD [Rg.val (.int .i64 lk.1),Rg.val (.int .i64 lp.1),Rg.val (.bool true),Rg.val (.bool true),Rg.val (.int .i64 (lk.2:Nat)),Rg.val (.int .i64 (lp.2:Nat)),Rg.val (.bool true),Rg.val (.bool true),Rg.val (.bool true),Rg.val (.agg #[.int .i64 a1,.int .i64 a2,.int .i64 a3,.int .i64 a4,.int .u64 (a5:Nat),.bool a6]),Rg.val (.agg #[.int .i64 b1,.int .i64 b2,.int .i64 b3,.int .i64 b4,.int .u64 (b5:Nat),.bool b6]),Rg.val (.bool true),Rg.val (.bool true),Rg.val (.bool true),Rg.val (.bool fo),Rg.val (.bool fp),Rg.val (.bool true),Rg.val (.bool true),Rg.val (.bool true),Rg.val (.slice Y li.length cy),Rg.val (.slice Z lj.length cz),Rg.val (.bool false),Rg.val (.bool false),Rg.val (.bool false),Rg.val (undef),Rg.val (undef),Rg.val (undef),Rg.val (.bool false),Rg.val (.bool false),Rg.val (undef),Rg.val (undef),Rg.val (undef),Rg.val (undef),Rg.val (undef),Rg.val (undef),Rg.val (undef),Rg.val (undef),Rg.val (.bool false),Rg.val (.bool false)] opn Rg.any) [] [[],[],[(0,235),(1,236)],[(2,237)],[(3,238)],[(3,238)],[(3,238),(4,239),(5,240)],[(3,238),(6,241)],[(7,242)],[(8,243)],[(8,243)],[(8,243),(9,244),(10,245)],[(8,243),(11,246)],[(12,247)],[(13,248)],[(13,248)],[(13,248),(14,249),(15,250)],[(13,248),(16,251)],[(17,252)],[(18,253)],[(18,253)],[(18,253),(19,254),(20,255)],[(18,253),(21,256)],[(22,257)],[(23,258)],[(23,258)],[(23,258),(24,259),(25,260)],[(23,258),(26,261)],[(27,262)],[(28,263)],[(28,263),(29,264)],[(28,263)],[(28,263),(31,266)],[(28,263),(32,267)],[(28,263),(33,268)],[(28,263),(34,269)],[(28,263),(30,265),(35,270)],[(28,263),(36,271)],[(37,272)]] [] (by kernel_rfl) (by rfl) (by kernel_rfl) ?_ ?_
      ·intro fr ha
       have hz:fr.tmps.size=273:=by rw [ha];rfl
       have y18:fr.eval (.tmp 18)=.int .i64 lk.1:=by rw [ha];rfl
       have y19:fr.eval (.tmp 19)=.int .i64 (lk.2:Nat):=by rw [ha];rfl
       have y20:fr.eval (.tmp 20)=.int .i64 lp.1:=by rw [ha];rfl
       have y21:fr.eval (.tmp 21)=.int .i64 (lp.2:Nat):=by rw [ha];rfl
       have y22:fr.eval (.tmp 22)=.pointer (some ⟨w12.heap.size,0,none⟩):=by rw [ha];rfl
       have y23:fr.eval (.tmp 23)=.bool fo:=by rw [ha];rfl
       have y24:fr.eval (.tmp 24)=.pointer (some ⟨w13.heap.size,0,none⟩):=by rw [ha];rfl
       have y25:fr.eval (.tmp 25)=.bool fp:=by rw [ha];rfl
       have y26:fr.eval (.tmp 26)=.slice Y li.length cy:=by rw [ha];rfl
       have y28:fr.eval (.tmp 28)=.slice Z lj.length cz:=by rw [ha];rfl
       clear ha
       refine .cons ?_ (.cons ?_ (.cons ?_ (.cons ?_ (.cons ?_ (.cons ?_ (.cons ?_ (.cons ?_ (.cons ?_ (.cons ?_ (.cons ?_ (.cons ?_ (.cons ?_ (.cons ?_ (.cons ?_ (.cons ?_ (.cons ?_ (.cons ?_ (.cons ?_ (.cons ?_ (.cons ?_ (.cons ?_ (.cons ?_ (.cons ?_ (.cons ?_ (.cons ?_ (.cons ?_ (.cons ?_ (.cons ?_ (.cons ?_ (.cons ?_ (.cons ?_ (.cons ?_ (.cons ?_ (.cons ?_ (.cons ?_ (.cons ?_ (.cons ?_ (.cons ?_ (.nil)))))))))))))))))))))))))))))))))))))))
       ·intro V w2 HL HH
        have tb18:=(Rg.use_eval V fr 18 [] (by rw [hz];decide)).trans y18
        show Rg.Does1 _ _ V (Rg.putUse V [] fr) w2 _
        exact step_mv (.int .i64 lk.1) (by simp only [execOp,tb18];go_simp) rfl rfl rfl True.intro
       ·intro V w2 HL HH
        have tb20:=(Rg.use_eval V fr 20 [] (by rw [hz];decide)).trans y20
        show Rg.Does1 _ _ V (Rg.putUse V [] fr) w2 _
        exact step_mv (.int .i64 lp.1) (by simp only [execOp,tb20];go_simp) rfl rfl rfl True.intro
       ·intro V w2 HL HH
        have h0:V 0=_:=HH.1
        have h1:V 1=_:=HH.2.1
        have tb235:=(Rg.use_eval V fr 235 [(0,235),(1,236)] (by rw [hz];decide)).trans h0
        have tb236:=(Rg.use_eval V fr 236 [(0,235),(1,236)] (by rw [hz];decide)).trans h1
        show Rg.Does1 _ _ V (Rg.putUse V [(0,235),(1,236)] fr) w2 _
        exact step_mv (.bool true) (by simp only [execOp,tb235,tb236];go_simp) rfl rfl rfl True.intro
       ·intro V w2 HL HH
        have h2:V 2=_:=HH.1
        have tb237:=(Rg.use_eval V fr 237 [(2,237)] (by rw [hz];decide)).trans h2
        show Rg.Does1 _ _ V (Rg.putUse V [(2,237)] fr) w2 _
        exact step_mv (.bool true) (by simp only [execOp,tb237];go_simp) rfl rfl rfl True.intro
       ·intro V w2 HL HH
        have h3:V 3=_:=HH.1
        have tb19:=(Rg.use_eval V fr 19 [(3,238)] (by rw [hz];decide)).trans y19
        show Rg.Does1 _ _ V (Rg.putUse V [(3,238)] fr) w2 _
        exact step_mv (.int .i64 (lk.2:Nat)) (by simp only [execOp,tb19];go_simp) rfl rfl rfl h3
       ·intro V w2 HL HH
        have h3:V 3=_:=HH.1
        have tb21:=(Rg.use_eval V fr 21 [(3,238)] (by rw [hz];decide)).trans y21
        show Rg.Does1 _ _ V (Rg.putUse V [(3,238)] fr) w2 _
        exact step_mv (.int .i64 (lp.2:Nat)) (by simp only [execOp,tb21];go_simp) rfl rfl rfl h3
       ·intro V w2 HL HH
        have h3:V 3=_:=HH.1
        have h4:V 4=_:=HH.2.1
        have h5:V 5=_:=HH.2.2.1
        have tb239:=(Rg.use_eval V fr 239 [(3,238),(4,239),(5,240)] (by rw [hz];decide)).trans h4
        have tb240:=(Rg.use_eval V fr 240 [(3,238),(4,239),(5,240)] (by rw [hz];decide)).trans h5
        show Rg.Does1 _ _ V (Rg.putUse V [(3,238),(4,239),(5,240)] fr) w2 _
        exact step_mv (.bool true) (by simp only [execOp,tb239,tb240];go_simp) rfl rfl rfl h3
       ·intro V w2 HL HH
        have h3:V 3=_:=HH.1
        have h6:V 6=_:=HH.2.1
        have tb238:=(Rg.use_eval V fr 238 [(3,238),(6,241)] (by rw [hz];decide)).trans h3
        have tb241:=(Rg.use_eval V fr 241 [(3,238),(6,241)] (by rw [hz];decide)).trans h6
        show Rg.Does1 _ _ V (Rg.putUse V [(3,238),(6,241)] fr) w2 _
        exact step_mv (.bool true) (by simp only [execOp,tb238,tb241];go_simp) rfl rfl rfl True.intro
       ·intro V w2 HL HH
        have h7:V 7=_:=HH.1
        have tb242:=(Rg.use_eval V fr 242 [(7,242)] (by rw [hz];decide)).trans h7
        show Rg.Does1 _ _ V (Rg.putUse V [(7,242)] fr) w2 _
        exact step_mv (.bool true) (by simp only [execOp,tb242];go_simp) rfl rfl rfl True.intro
       ·intro V w2 HL HH
        have HL:Later w15 w2:=HL
        have h8:V 8=_:=HH.1
        have tb22:=(Rg.use_eval V fr 22 [(8,243)] (by rw [hz];decide)).trans y22
        show Rg.Does1 _ _ V (Rg.putUse V [(8,243)] fr) w2 _
        obtain ⟨⟨e0,e1,e2,e3,e4,e5⟩,_,_⟩:=HCS.out _ HL
        exact step_mv (.agg #[.int .i64 a1,.int .i64 a2,.int .i64 a3,.int .i64 a4,.int .u64 (a5:Nat),.bool a6]) (by simp only [execOp,tb22];go_simp) rfl rfl rfl h8
       ·intro V w2 HL HH
        have HL:Later w15 w2:=HL
        have h8:V 8=_:=HH.1
        have tb24:=(Rg.use_eval V fr 24 [(8,243)] (by rw [hz];decide)).trans y24
        show Rg.Does1 _ _ V (Rg.putUse V [(8,243)] fr) w2 _
        obtain ⟨_,⟨e0,e1,e2,e3,e4,e5⟩,_⟩:=HCS.out _ HL
        exact step_mv (.agg #[.int .i64 b1,.int .i64 b2,.int .i64 b3,.int .i64 b4,.int .u64 (b5:Nat),.bool b6]) (by simp only [execOp,tb24];go_simp) rfl rfl rfl h8
       ·intro V w2 HL HH
        have h8:V 8=_:=HH.1
        have h9:V 9=_:=HH.2.1
        have h10:V 10=_:=HH.2.2.1
        have tb244:=(Rg.use_eval V fr 244 [(8,243),(9,244),(10,245)] (by rw [hz];decide)).trans h9
        have tb245:=(Rg.use_eval V fr 245 [(8,243),(9,244),(10,245)] (by rw [hz];decide)).trans h10
        show Rg.Does1 _ _ V (Rg.putUse V [(8,243),(9,244),(10,245)] fr) w2 _
        have hq:=heq w2
        exact step_mv (.bool true) (by simp only [execOp,tb244,tb245];go_simp) rfl rfl rfl h8
       ·intro V w2 HL HH
        have h8:V 8=_:=HH.1
        have h11:V 11=_:=HH.2.1
        have tb243:=(Rg.use_eval V fr 243 [(8,243),(11,246)] (by rw [hz];decide)).trans h8
        have tb246:=(Rg.use_eval V fr 246 [(8,243),(11,246)] (by rw [hz];decide)).trans h11
        show Rg.Does1 _ _ V (Rg.putUse V [(8,243),(11,246)] fr) w2 _
        exact step_mv (.bool true) (by simp only [execOp,tb243,tb246];go_simp) rfl rfl rfl True.intro
       ·intro V w2 HL HH
        have h12:V 12=_:=HH.1
        have tb247:=(Rg.use_eval V fr 247 [(12,247)] (by rw [hz];decide)).trans h12
        show Rg.Does1 _ _ V (Rg.putUse V [(12,247)] fr) w2 _
        exact step_mv (.bool true) (by simp only [execOp,tb247];go_simp) rfl rfl rfl True.intro
       ·intro V w2 HL HH
        have h13:V 13=_:=HH.1
        have tb23:=(Rg.use_eval V fr 23 [(13,248)] (by rw [hz];decide)).trans y23
        show Rg.Does1 _ _ V (Rg.putUse V [(13,248)] fr) w2 _
        exact step_mv (.bool fo) (by simp only [execOp,tb23];go_simp) rfl rfl rfl h13
       ·intro V w2 HL HH
        have h13:V 13=_:=HH.1
        have tb25:=(Rg.use_eval V fr 25 [(13,248)] (by rw [hz];decide)).trans y25
        show Rg.Does1 _ _ V (Rg.putUse V [(13,248)] fr) w2 _
        exact step_mv (.bool fp) (by simp only [execOp,tb25];go_simp) rfl rfl rfl h13
       ·intro V w2 HL HH
        have h13:V 13=_:=HH.1
        have h14:V 14=_:=HH.2.1
        have h15:V 15=_:=HH.2.2.1
        have tb249:=(Rg.use_eval V fr 249 [(13,248),(14,249),(15,250)] (by rw [hz];decide)).trans h14
        have tb250:=(Rg.use_eval V fr 250 [(13,248),(14,249),(15,250)] (by rw [hz];decide)).trans h15
        show Rg.Does1 _ _ V (Rg.putUse V [(13,248),(14,249),(15,250)] fr) w2 _
        exact step_mv (.bool true) (by simp only [execOp,tb249,tb250];go_simp) rfl rfl rfl h13
       ·intro V w2 HL HH
        have h13:V 13=_:=HH.1
        have h16:V 16=_:=HH.2.1
        have tb248:=(Rg.use_eval V fr 248 [(13,248),(16,251)] (by rw [hz];decide)).trans h13
        have tb251:=(Rg.use_eval V fr 251 [(13,248),(16,251)] (by rw [hz];decide)).trans h16
        show Rg.Does1 _ _ V (Rg.putUse V [(13,248),(16,251)] fr) w2 _
        exact step_mv (.bool true) (by simp only [execOp,tb248,tb251];go_simp) rfl rfl rfl True.intro
       ·intro V w2 HL HH
        have h17:V 17=_:=HH.1
        have tb252:=(Rg.use_eval V fr 252 [(17,252)] (by rw [hz];decide)).trans h17
        show Rg.Does1 _ _ V (Rg.putUse V [(17,252)] fr) w2 _
        exact step_mv (.bool true) (by simp only [execOp,tb252];go_simp) rfl rfl rfl True.intro
       ·intro V w2 HL HH
        have h18:V 18=_:=HH.1
        have tb26:=(Rg.use_eval V fr 26 [(18,253)] (by rw [hz];decide)).trans y26
        show Rg.Does1 _ _ V (Rg.putUse V [(18,253)] fr) w2 _
        exact step_mv (.slice Y li.length cy) (by simp only [execOp,tb26];go_simp) rfl rfl rfl h18
       ·intro V w2 HL HH
        have h18:V 18=_:=HH.1
        have tb28:=(Rg.use_eval V fr 28 [(18,253)] (by rw [hz];decide)).trans y28
        show Rg.Does1 _ _ V (Rg.putUse V [(18,253)] fr) w2 _
        exact step_mv (.slice Z lj.length cz) (by simp only [execOp,tb28];go_simp) rfl rfl rfl h18
       ·intro V w2 HL HH
        have HL:Later w15 w2:=HL
        have h18:V 18=_:=HH.1
        have h19:V 19=_:=HH.2.1
        have h20:V 20=_:=HH.2.2.1
        have tb254:=(Rg.use_eval V fr 254 [(18,253),(19,254),(20,255)] (by rw [hz];decide)).trans h19
        have tb255:=(Rg.use_eval V fr 255 [(18,253),(19,254),(20,255)] (by rw [hz];decide)).trans h20
        show Rg.Does1 _ _ V (Rg.putUse V [(18,253),(19,254),(20,255)] fr) w2 _
        exact step_num #[.slice Y li.length cy,.slice Z lj.length cz] (.bool false) (fun args w=>Rg.call_enter Tryz.func37 (by kernel_rfl) (by kernel_rfl) args w) rfl (by simp only [List.map_toArray,List.map_cons,List.map_nil,tb254,tb255]) rfl rfl rfl h18 (HSM.out w2 HL)
       ·intro V w2 HL HH
        have h18:V 18=_:=HH.1
        have h21:V 21=_:=HH.2.1
        have tb253:=(Rg.use_eval V fr 253 [(18,253),(21,256)] (by rw [hz];decide)).trans h18
        have tb256:=(Rg.use_eval V fr 256 [(18,253),(21,256)] (by rw [hz];decide)).trans h21
        show Rg.Does1 _ _ V (Rg.putUse V [(18,253),(21,256)] fr) w2 _
        exact step_mv (.bool false) (by simp only [execOp,tb253,tb256];go_simp) rfl rfl rfl True.intro
       ·intro V w2 HL HH
        have h22:V 22=_:=HH.1
        have tb257:=(Rg.use_eval V fr 257 [(22,257)] (by rw [hz];decide)).trans h22
        show Rg.Does1 _ _ V (Rg.putUse V [(22,257)] fr) w2 _
        exact step_mv (.bool false) (by simp only [execOp,tb257];go_simp) rfl rfl rfl True.intro
       ·intro V w2 HL HH
        have h23:V 23=_:=HH.1
        exact Rg.step_not rfl h23 (Rg.alias_none rfl _ _) rfl rfl rfl
       ·intro V w2 HL HH
        have h23:V 23=_:=HH.1
        exact Rg.step_not rfl h23 (Rg.alias_none rfl _ _) rfl rfl rfl
       ·intro V w2 HL HH
        have h23:V 23=_:=HH.1
        have h24:V 24=_:=HH.2.1
        have h25:V 25=_:=HH.2.2.1
        exact Rg.step_not rfl h23 (Rg.alias_none rfl _ _) rfl rfl rfl
       ·intro V w2 HL HH
        have h23:V 23=_:=HH.1
        have h26:V 26=_:=HH.2.1
        have tb258:=(Rg.use_eval V fr 258 [(23,258),(26,261)] (by rw [hz];decide)).trans h23
        have tb261:=(Rg.use_eval V fr 261 [(23,258),(26,261)] (by rw [hz];decide)).trans h26
        show Rg.Does1 _ _ V (Rg.putUse V [(23,258),(26,261)] fr) w2 _
        exact step_mv (.bool false) (by simp only [execOp,tb258,tb261];go_simp) rfl rfl rfl True.intro
       ·intro V w2 HL HH
        have h27:V 27=_:=HH.1
        have tb262:=(Rg.use_eval V fr 262 [(27,262)] (by rw [hz];decide)).trans h27
        show Rg.Does1 _ _ V (Rg.putUse V [(27,262)] fr) w2 _
        exact step_mv (.bool false) (by simp only [execOp,tb262];go_simp) rfl rfl rfl True.intro
       ·intro V w2 HL HH
        have h28:V 28=_:=HH.1
        exact Rg.step_not rfl h28 (Rg.alias_none rfl _ _) rfl rfl rfl
       ·intro V w2 HL HH
        have h28:V 28=_:=HH.1
        have h29:V 29=_:=HH.2.1
        exact Rg.step_not rfl h28 (Rg.alias_none rfl _ _) rfl rfl rfl
       ·intro V w2 HL HH
        have h28:V 28=_:=HH.1
        exact Rg.step_not rfl h28 (Rg.alias_none rfl _ _) rfl rfl rfl
       ·intro V w2 HL HH
        have h28:V 28=_:=HH.1
        have h31:V 31=_:=HH.2.1
        exact Rg.step_not rfl h28 (Rg.alias_none rfl _ _) rfl rfl rfl
       ·intro V w2 HL HH
        have h28:V 28=_:=HH.1
        have h32:V 32=_:=HH.2.1
        exact Rg.step_not rfl h28 (Rg.alias_none rfl _ _) rfl rfl rfl
       ·intro V w2 HL HH
        have h28:V 28=_:=HH.1
        have h33:V 33=_:=HH.2.1
        exact Rg.step_not rfl h28 (Rg.alias_none rfl _ _) rfl rfl rfl
       ·intro V w2 HL HH
        have h28:V 28=_:=HH.1
        have h34:V 34=_:=HH.2.1
        exact Rg.step_not rfl h28 (Rg.alias_none rfl _ _) rfl rfl rfl
       ·intro V w2 HL HH
        have h28:V 28=_:=HH.1
        have h30:V 30=_:=HH.2.1
        have h35:V 35=_:=HH.2.2.1
        exact Rg.step_not rfl h28 (Rg.alias_none rfl _ _) rfl rfl rfl
       ·intro V w2 HL HH
        have h28:V 28=_:=HH.1
        have h36:V 36=_:=HH.2.1
        have tb263:=(Rg.use_eval V fr 263 [(28,263),(36,271)] (by rw [hz];decide)).trans h28
        have tb271:=(Rg.use_eval V fr 271 [(28,263),(36,271)] (by rw [hz];decide)).trans h36
        show Rg.Does1 _ _ V (Rg.putUse V [(28,263),(36,271)] fr) w2 _
        exact step_mv (.bool false) (by simp only [execOp,tb263,tb271];go_simp) rfl rfl rfl True.intro
       ·intro V w2 HL HH
        have h37:V 37=_:=HH.1
        have tb272:=(Rg.use_eval V fr 272 [(37,272)] (by rw [hz];decide)).trans h37
        show Rg.Does1 _ _ V (Rg.putUse V [(37,272)] fr) w2 _
        exact step_mv (.bool false) (by simp only [execOp,tb272];go_simp) rfl rfl rfl True.intro
      ·intro V w2 HI
       have v38:V 38=.bool false:=HI.get 38 (by decide) (by rfl)
       have hlt:=later_drew HI.later
       clear HI
       simp only [Rg.putList,Act.put,List.setIfInBounds_toArray,List.set_cons_zero,List.set_cons_succ,Nat.zero_add,Nat.reduceAdd]
       rw [v38]
       clear v38
       go_wp2_with fail
       first|exact HQ.out _ _ (HEND.out _ _ hlt)|(go_ret;exact HQ.out _ _ (HEND.out _ _ hlt))
     ·skip
      cases c6
      ·skip
       refine Rg.wp_region_facts (by kernel_rfl) (fun opn=>List.getD [Rg.val (.int .i64 lk.1),Rg.val (.int .i64 lp.1),Rg.val (.bool true),Rg.val (.bool true),Rg.val (.int .i64 (lk.2:Nat)),Rg.val (.int .i64 (lp.2:Nat)),Rg.val (.bool true),Rg.val (.bool true),Rg.val (.bool true),Rg.val (.agg #[.int .i64 a1,.int .i64 a2,.int .i64 a3,.int .i64 a4,.int .u64 (a5:Nat),.bool a6]),Rg.val (.agg #[.int .i64 b1,.int .i64 b2,.int .i64 b3,.int .i64 b4,.int .u64 (b5:Nat),.bool b6]),Rg.val (.bool true),Rg.val (.bool true),Rg.val (.bool true),Rg.val (.bool fo),Rg.val (.bool fp),Rg.val (.bool true),Rg.val (.bool true),Rg.val (.bool true),Rg.val (.slice Y li.length cy),Rg.val (.slice Z lj.length cz),Rg.val (.bool true),Rg.val (.bool true),Rg.val (.bool true),Rg.val (.int .i64 (ln:Nat)),Rg.val (.int .i64 (lm:Nat)),Rg.val (.bool false),Rg.val (.bool false),Rg.val (.bool false),Rg.val (undef),Rg.val (undef),Rg.val (undef),Rg.val (undef),Rg.val (undef),Rg.val (undef),Rg.val (undef),Rg.val (undef),Rg.val (.bool false),Rg.val (.bool false)] opn Rg.any) [] [[],[],[(0,235),(1,236)],[(2,237)],[(3,238)],[(3,238)],[(3,238),(4,239),(5,240)],[(3,238),(6,241)],[(7,242)],[(8,243)],[(8,243)],[(8,243),(9,244),(10,245)],[(8,243),(11,246)],[(12,247)],[(13,248)],[(13,248)],[(13,248),(14,249),(15,250)],[(13,248),(16,251)],[(17,252)],[(18,253)],[(18,253)],[(18,253),(19,254),(20,255)],[(18,253),(21,256)],[(22,257)],[(23,258)],[(23,258)],[(23,258),(24,259),(25,260)],[(23,258),(26,261)],[(27,262)],[(28,263)],[(28,263),(29,264)],[(28,263)],[(28,263),(31,266)],[(28,263),(32,267)],[(28,263),(33,268)],[(28,263),(34,269)],[(28,263),(30,265),(35,270)],[(28,263),(36,271)],[(37,272)]] [] (by kernel_rfl) (by rfl) (by kernel_rfl) ?_ ?_
       ·intro fr ha
        have hz:fr.tmps.size=273:=by rw [ha];rfl
        have y18:fr.eval (.tmp 18)=.int .i64 lk.1:=by rw [ha];rfl
        have y19:fr.eval (.tmp 19)=.int .i64 (lk.2:Nat):=by rw [ha];rfl
        have y20:fr.eval (.tmp 20)=.int .i64 lp.1:=by rw [ha];rfl
        have y21:fr.eval (.tmp 21)=.int .i64 (lp.2:Nat):=by rw [ha];rfl
        have y22:fr.eval (.tmp 22)=.pointer (some ⟨w12.heap.size,0,none⟩):=by rw [ha];rfl
        have y23:fr.eval (.tmp 23)=.bool fo:=by rw [ha];rfl
        have y24:fr.eval (.tmp 24)=.pointer (some ⟨w13.heap.size,0,none⟩):=by rw [ha];rfl
        have y25:fr.eval (.tmp 25)=.bool fp:=by rw [ha];rfl
        have y26:fr.eval (.tmp 26)=.slice Y li.length cy:=by rw [ha];rfl
        have y27:fr.eval (.tmp 27)=.int .i64 (ln:Nat):=by rw [ha];rfl
        have y28:fr.eval (.tmp 28)=.slice Z lj.length cz:=by rw [ha];rfl
        have y29:fr.eval (.tmp 29)=.int .i64 (lm:Nat):=by rw [ha];rfl
        clear ha
        refine .cons ?_ (.cons ?_ (.cons ?_ (.cons ?_ (.cons ?_ (.cons ?_ (.cons ?_ (.cons ?_ (.cons ?_ (.cons ?_ (.cons ?_ (.cons ?_ (.cons ?_ (.cons ?_ (.cons ?_ (.cons ?_ (.cons ?_ (.cons ?_ (.cons ?_ (.cons ?_ (.cons ?_ (.cons ?_ (.cons ?_ (.cons ?_ (.cons ?_ (.cons ?_ (.cons ?_ (.cons ?_ (.cons ?_ (.cons ?_ (.cons ?_ (.cons ?_ (.cons ?_ (.cons ?_ (.cons ?_ (.cons ?_ (.cons ?_ (.cons ?_ (.cons ?_ (.nil)))))))))))))))))))))))))))))))))))))))
        ·intro V w2 HL HH
         have tb18:=(Rg.use_eval V fr 18 [] (by rw [hz];decide)).trans y18
         show Rg.Does1 _ _ V (Rg.putUse V [] fr) w2 _
         exact step_mv (.int .i64 lk.1) (by simp only [execOp,tb18];go_simp) rfl rfl rfl True.intro
        ·intro V w2 HL HH
         have tb20:=(Rg.use_eval V fr 20 [] (by rw [hz];decide)).trans y20
         show Rg.Does1 _ _ V (Rg.putUse V [] fr) w2 _
         exact step_mv (.int .i64 lp.1) (by simp only [execOp,tb20];go_simp) rfl rfl rfl True.intro
        ·intro V w2 HL HH
         have h0:V 0=_:=HH.1
         have h1:V 1=_:=HH.2.1
         have tb235:=(Rg.use_eval V fr 235 [(0,235),(1,236)] (by rw [hz];decide)).trans h0
         have tb236:=(Rg.use_eval V fr 236 [(0,235),(1,236)] (by rw [hz];decide)).trans h1
         show Rg.Does1 _ _ V (Rg.putUse V [(0,235),(1,236)] fr) w2 _
         exact step_mv (.bool true) (by simp only [execOp,tb235,tb236];go_simp) rfl rfl rfl True.intro
        ·intro V w2 HL HH
         have h2:V 2=_:=HH.1
         have tb237:=(Rg.use_eval V fr 237 [(2,237)] (by rw [hz];decide)).trans h2
         show Rg.Does1 _ _ V (Rg.putUse V [(2,237)] fr) w2 _
         exact step_mv (.bool true) (by simp only [execOp,tb237];go_simp) rfl rfl rfl True.intro
        ·intro V w2 HL HH
         have h3:V 3=_:=HH.1
         have tb19:=(Rg.use_eval V fr 19 [(3,238)] (by rw [hz];decide)).trans y19
         show Rg.Does1 _ _ V (Rg.putUse V [(3,238)] fr) w2 _
         exact step_mv (.int .i64 (lk.2:Nat)) (by simp only [execOp,tb19];go_simp) rfl rfl rfl h3
        ·intro V w2 HL HH
         have h3:V 3=_:=HH.1
         have tb21:=(Rg.use_eval V fr 21 [(3,238)] (by rw [hz];decide)).trans y21
         show Rg.Does1 _ _ V (Rg.putUse V [(3,238)] fr) w2 _
         exact step_mv (.int .i64 (lp.2:Nat)) (by simp only [execOp,tb21];go_simp) rfl rfl rfl h3
        ·intro V w2 HL HH
         have h3:V 3=_:=HH.1
         have h4:V 4=_:=HH.2.1
         have h5:V 5=_:=HH.2.2.1
         have tb239:=(Rg.use_eval V fr 239 [(3,238),(4,239),(5,240)] (by rw [hz];decide)).trans h4
         have tb240:=(Rg.use_eval V fr 240 [(3,238),(4,239),(5,240)] (by rw [hz];decide)).trans h5
         show Rg.Does1 _ _ V (Rg.putUse V [(3,238),(4,239),(5,240)] fr) w2 _
         exact step_mv (.bool true) (by simp only [execOp,tb239,tb240];go_simp) rfl rfl rfl h3
        ·intro V w2 HL HH
         have h3:V 3=_:=HH.1
         have h6:V 6=_:=HH.2.1
         have tb238:=(Rg.use_eval V fr 238 [(3,238),(6,241)] (by rw [hz];decide)).trans h3
         have tb241:=(Rg.use_eval V fr 241 [(3,238),(6,241)] (by rw [hz];decide)).trans h6
         show Rg.Does1 _ _ V (Rg.putUse V [(3,238),(6,241)] fr) w2 _
         exact step_mv (.bool true) (by simp only [execOp,tb238,tb241];go_simp) rfl rfl rfl True.intro
        ·intro V w2 HL HH
         have h7:V 7=_:=HH.1
         have tb242:=(Rg.use_eval V fr 242 [(7,242)] (by rw [hz];decide)).trans h7
         show Rg.Does1 _ _ V (Rg.putUse V [(7,242)] fr) w2 _
         exact step_mv (.bool true) (by simp only [execOp,tb242];go_simp) rfl rfl rfl True.intro
        ·intro V w2 HL HH
         have HL:Later w15 w2:=HL
         have h8:V 8=_:=HH.1
         have tb22:=(Rg.use_eval V fr 22 [(8,243)] (by rw [hz];decide)).trans y22
         show Rg.Does1 _ _ V (Rg.putUse V [(8,243)] fr) w2 _
         obtain ⟨⟨e0,e1,e2,e3,e4,e5⟩,_,_⟩:=HCS.out _ HL
         exact step_mv (.agg #[.int .i64 a1,.int .i64 a2,.int .i64 a3,.int .i64 a4,.int .u64 (a5:Nat),.bool a6]) (by simp only [execOp,tb22];go_simp) rfl rfl rfl h8
        ·intro V w2 HL HH
         have HL:Later w15 w2:=HL
         have h8:V 8=_:=HH.1
         have tb24:=(Rg.use_eval V fr 24 [(8,243)] (by rw [hz];decide)).trans y24
         show Rg.Does1 _ _ V (Rg.putUse V [(8,243)] fr) w2 _
         obtain ⟨_,⟨e0,e1,e2,e3,e4,e5⟩,_⟩:=HCS.out _ HL
         exact step_mv (.agg #[.int .i64 b1,.int .i64 b2,.int .i64 b3,.int .i64 b4,.int .u64 (b5:Nat),.bool b6]) (by simp only [execOp,tb24];go_simp) rfl rfl rfl h8
        ·intro V w2 HL HH
         have h8:V 8=_:=HH.1
         have h9:V 9=_:=HH.2.1
         have h10:V 10=_:=HH.2.2.1
         have tb244:=(Rg.use_eval V fr 244 [(8,243),(9,244),(10,245)] (by rw [hz];decide)).trans h9
         have tb245:=(Rg.use_eval V fr 245 [(8,243),(9,244),(10,245)] (by rw [hz];decide)).trans h10
         show Rg.Does1 _ _ V (Rg.putUse V [(8,243),(9,244),(10,245)] fr) w2 _
         have hq:=heq w2
         exact step_mv (.bool true) (by simp only [execOp,tb244,tb245];go_simp) rfl rfl rfl h8
        ·intro V w2 HL HH
         have h8:V 8=_:=HH.1
         have h11:V 11=_:=HH.2.1
         have tb243:=(Rg.use_eval V fr 243 [(8,243),(11,246)] (by rw [hz];decide)).trans h8
         have tb246:=(Rg.use_eval V fr 246 [(8,243),(11,246)] (by rw [hz];decide)).trans h11
         show Rg.Does1 _ _ V (Rg.putUse V [(8,243),(11,246)] fr) w2 _
         exact step_mv (.bool true) (by simp only [execOp,tb243,tb246];go_simp) rfl rfl rfl True.intro
        ·intro V w2 HL HH
         have h12:V 12=_:=HH.1
         have tb247:=(Rg.use_eval V fr 247 [(12,247)] (by rw [hz];decide)).trans h12
         show Rg.Does1 _ _ V (Rg.putUse V [(12,247)] fr) w2 _
         exact step_mv (.bool true) (by simp only [execOp,tb247];go_simp) rfl rfl rfl True.intro
        ·intro V w2 HL HH
         have h13:V 13=_:=HH.1
         have tb23:=(Rg.use_eval V fr 23 [(13,248)] (by rw [hz];decide)).trans y23
         show Rg.Does1 _ _ V (Rg.putUse V [(13,248)] fr) w2 _
         exact step_mv (.bool fo) (by simp only [execOp,tb23];go_simp) rfl rfl rfl h13
        ·intro V w2 HL HH
         have h13:V 13=_:=HH.1
         have tb25:=(Rg.use_eval V fr 25 [(13,248)] (by rw [hz];decide)).trans y25
         show Rg.Does1 _ _ V (Rg.putUse V [(13,248)] fr) w2 _
         exact step_mv (.bool fp) (by simp only [execOp,tb25];go_simp) rfl rfl rfl h13
        ·intro V w2 HL HH
         have h13:V 13=_:=HH.1
         have h14:V 14=_:=HH.2.1
         have h15:V 15=_:=HH.2.2.1
         have tb249:=(Rg.use_eval V fr 249 [(13,248),(14,249),(15,250)] (by rw [hz];decide)).trans h14
         have tb250:=(Rg.use_eval V fr 250 [(13,248),(14,249),(15,250)] (by rw [hz];decide)).trans h15
         show Rg.Does1 _ _ V (Rg.putUse V [(13,248),(14,249),(15,250)] fr) w2 _
         exact step_mv (.bool true) (by simp only [execOp,tb249,tb250];go_simp) rfl rfl rfl h13
        ·intro V w2 HL HH
         have h13:V 13=_:=HH.1
         have h16:V 16=_:=HH.2.1
         have tb248:=(Rg.use_eval V fr 248 [(13,248),(16,251)] (by rw [hz];decide)).trans h13
         have tb251:=(Rg.use_eval V fr 251 [(13,248),(16,251)] (by rw [hz];decide)).trans h16
         show Rg.Does1 _ _ V (Rg.putUse V [(13,248),(16,251)] fr) w2 _
         exact step_mv (.bool true) (by simp only [execOp,tb248,tb251];go_simp) rfl rfl rfl True.intro
        ·intro V w2 HL HH
         have h17:V 17=_:=HH.1
         have tb252:=(Rg.use_eval V fr 252 [(17,252)] (by rw [hz];decide)).trans h17
         show Rg.Does1 _ _ V (Rg.putUse V [(17,252)] fr) w2 _
         exact step_mv (.bool true) (by simp only [execOp,tb252];go_simp) rfl rfl rfl True.intro
        ·intro V w2 HL HH
         have h18:V 18=_:=HH.1
         have tb26:=(Rg.use_eval V fr 26 [(18,253)] (by rw [hz];decide)).trans y26
         show Rg.Does1 _ _ V (Rg.putUse V [(18,253)] fr) w2 _
         exact step_mv (.slice Y li.length cy) (by simp only [execOp,tb26];go_simp) rfl rfl rfl h18
        ·intro V w2 HL HH
         have h18:V 18=_:=HH.1
         have tb28:=(Rg.use_eval V fr 28 [(18,253)] (by rw [hz];decide)).trans y28
         show Rg.Does1 _ _ V (Rg.putUse V [(18,253)] fr) w2 _
         exact step_mv (.slice Z lj.length cz) (by simp only [execOp,tb28];go_simp) rfl rfl rfl h18
        ·intro V w2 HL HH
         have HL:Later w15 w2:=HL
         have h18:V 18=_:=HH.1
         have h19:V 19=_:=HH.2.1
         have h20:V 20=_:=HH.2.2.1
         have tb254:=(Rg.use_eval V fr 254 [(18,253),(19,254),(20,255)] (by rw [hz];decide)).trans h19
         have tb255:=(Rg.use_eval V fr 255 [(18,253),(19,254),(20,255)] (by rw [hz];decide)).trans h20
         show Rg.Does1 _ _ V (Rg.putUse V [(18,253),(19,254),(20,255)] fr) w2 _
         exact step_num #[.slice Y li.length cy,.slice Z lj.length cz] (.bool true) (fun args w=>Rg.call_enter Tryz.func37 (by kernel_rfl) (by kernel_rfl) args w) rfl (by simp only [List.map_toArray,List.map_cons,List.map_nil,tb254,tb255]) rfl rfl rfl h18 (HSM.out w2 HL)
        ·intro V w2 HL HH
         have h18:V 18=_:=HH.1
         have h21:V 21=_:=HH.2.1
         have tb253:=(Rg.use_eval V fr 253 [(18,253),(21,256)] (by rw [hz];decide)).trans h18
         have tb256:=(Rg.use_eval V fr 256 [(18,253),(21,256)] (by rw [hz];decide)).trans h21
         show Rg.Does1 _ _ V (Rg.putUse V [(18,253),(21,256)] fr) w2 _
         exact step_mv (.bool true) (by simp only [execOp,tb253,tb256];go_simp) rfl rfl rfl True.intro
        ·intro V w2 HL HH
         have h22:V 22=_:=HH.1
         have tb257:=(Rg.use_eval V fr 257 [(22,257)] (by rw [hz];decide)).trans h22
         show Rg.Does1 _ _ V (Rg.putUse V [(22,257)] fr) w2 _
         exact step_mv (.bool true) (by simp only [execOp,tb257];go_simp) rfl rfl rfl True.intro
        ·intro V w2 HL HH
         have h23:V 23=_:=HH.1
         have tb27:=(Rg.use_eval V fr 27 [(23,258)] (by rw [hz];decide)).trans y27
         show Rg.Does1 _ _ V (Rg.putUse V [(23,258)] fr) w2 _
         exact step_mv (.int .i64 (ln:Nat)) (by simp only [execOp,tb27];go_simp) rfl rfl rfl h23
        ·intro V w2 HL HH
         have h23:V 23=_:=HH.1
         have tb29:=(Rg.use_eval V fr 29 [(23,258)] (by rw [hz];decide)).trans y29
         show Rg.Does1 _ _ V (Rg.putUse V [(23,258)] fr) w2 _
         exact step_mv (.int .i64 (lm:Nat)) (by simp only [execOp,tb29];go_simp) rfl rfl rfl h23
        ·intro V w2 HL HH
         have h23:V 23=_:=HH.1
         have h24:V 24=_:=HH.2.1
         have h25:V 25=_:=HH.2.2.1
         have tb259:=(Rg.use_eval V fr 259 [(23,258),(24,259),(25,260)] (by rw [hz];decide)).trans h24
         have tb260:=(Rg.use_eval V fr 260 [(23,258),(24,259),(25,260)] (by rw [hz];decide)).trans h25
         show Rg.Does1 _ _ V (Rg.putUse V [(23,258),(24,259),(25,260)] fr) w2 _
         exact step_mv (.bool false) (by simp only [execOp,tb259,tb260];go_simp) rfl rfl rfl h23
        ·intro V w2 HL HH
         have h23:V 23=_:=HH.1
         have h26:V 26=_:=HH.2.1
         have tb258:=(Rg.use_eval V fr 258 [(23,258),(26,261)] (by rw [hz];decide)).trans h23
         have tb261:=(Rg.use_eval V fr 261 [(23,258),(26,261)] (by rw [hz];decide)).trans h26
         show Rg.Does1 _ _ V (Rg.putUse V [(23,258),(26,261)] fr) w2 _
         exact step_mv (.bool false) (by simp only [execOp,tb258,tb261];go_simp) rfl rfl rfl True.intro
        ·intro V w2 HL HH
         have h27:V 27=_:=HH.1
         have tb262:=(Rg.use_eval V fr 262 [(27,262)] (by rw [hz];decide)).trans h27
         show Rg.Does1 _ _ V (Rg.putUse V [(27,262)] fr) w2 _
         exact step_mv (.bool false) (by simp only [execOp,tb262];go_simp) rfl rfl rfl True.intro
        ·intro V w2 HL HH
         have h28:V 28=_:=HH.1
         exact Rg.step_not rfl h28 (Rg.alias_none rfl _ _) rfl rfl rfl
        ·intro V w2 HL HH
         have h28:V 28=_:=HH.1
         have h29:V 29=_:=HH.2.1
         exact Rg.step_not rfl h28 (Rg.alias_none rfl _ _) rfl rfl rfl
        ·intro V w2 HL HH
         have h28:V 28=_:=HH.1
         exact Rg.step_not rfl h28 (Rg.alias_none rfl _ _) rfl rfl rfl
        ·intro V w2 HL HH
         have h28:V 28=_:=HH.1
         have h31:V 31=_:=HH.2.1
         exact Rg.step_not rfl h28 (Rg.alias_none rfl _ _) rfl rfl rfl
        ·intro V w2 HL HH
         have h28:V 28=_:=HH.1
         have h32:V 32=_:=HH.2.1
         exact Rg.step_not rfl h28 (Rg.alias_none rfl _ _) rfl rfl rfl
        ·intro V w2 HL HH
         have h28:V 28=_:=HH.1
         have h33:V 33=_:=HH.2.1
         exact Rg.step_not rfl h28 (Rg.alias_none rfl _ _) rfl rfl rfl
        ·intro V w2 HL HH
         have h28:V 28=_:=HH.1
         have h34:V 34=_:=HH.2.1
         exact Rg.step_not rfl h28 (Rg.alias_none rfl _ _) rfl rfl rfl
        ·intro V w2 HL HH
         have h28:V 28=_:=HH.1
         have h30:V 30=_:=HH.2.1
         have h35:V 35=_:=HH.2.2.1
         exact Rg.step_not rfl h28 (Rg.alias_none rfl _ _) rfl rfl rfl
        ·intro V w2 HL HH
         have h28:V 28=_:=HH.1
         have h36:V 36=_:=HH.2.1
         have tb263:=(Rg.use_eval V fr 263 [(28,263),(36,271)] (by rw [hz];decide)).trans h28
         have tb271:=(Rg.use_eval V fr 271 [(28,263),(36,271)] (by rw [hz];decide)).trans h36
         show Rg.Does1 _ _ V (Rg.putUse V [(28,263),(36,271)] fr) w2 _
         exact step_mv (.bool false) (by simp only [execOp,tb263,tb271];go_simp) rfl rfl rfl True.intro
        ·intro V w2 HL HH
         have h37:V 37=_:=HH.1
         have tb272:=(Rg.use_eval V fr 272 [(37,272)] (by rw [hz];decide)).trans h37
         show Rg.Does1 _ _ V (Rg.putUse V [(37,272)] fr) w2 _
         exact step_mv (.bool false) (by simp only [execOp,tb272];go_simp) rfl rfl rfl True.intro
       ·intro V w2 HI
        have v38:V 38=.bool false:=HI.get 38 (by decide) (by rfl)
        have hlt:=later_drew HI.later
        clear HI
        simp only [Rg.putList,Act.put,List.setIfInBounds_toArray,List.set_cons_zero,List.set_cons_succ,Nat.zero_add,Nat.reduceAdd]
        rw [v38]
        clear v38
        go_wp2_with fail
        first|exact HQ.out _ _ (HEND.out _ _ hlt)|(go_ret;exact HQ.out _ _ (HEND.out _ _ hlt))
      ·skip
       refine Rg.wp_region_facts (by kernel_rfl) (fun opn=>List.getD [Rg.val (.int .i64 lk.1),Rg.val (.int .i64 lp.1),Rg.val (.bool true),Rg.val (.bool true),Rg.val (.int .i64 (lk.2:Nat)),Rg.val (.int .i64 (lp.2:Nat)),Rg.val (.bool true),Rg.val (.bool true),Rg.val (.bool true),Rg.val (.agg #[.int .i64 a1,.int .i64 a2,.int .i64 a3,.int .i64 a4,.int .u64 (a5:Nat),.bool a6]),Rg.val (.agg #[.int .i64 b1,.int .i64 b2,.int .i64 b3,.int .i64 b4,.int .u64 (b5:Nat),.bool b6]),Rg.val (.bool true),Rg.val (.bool true),Rg.val (.bool true),Rg.val (.bool fo),Rg.val (.bool fp),Rg.val (.bool true),Rg.val (.bool true),Rg.val (.bool true),Rg.val (.slice Y li.length cy),Rg.val (.slice Z lj.length cz),Rg.val (.bool true),Rg.val (.bool true),Rg.val (.bool true),Rg.val (.int .i64 (ln:Nat)),Rg.val (.int .i64 (lm:Nat)),Rg.val (.bool true),Rg.val (.bool true),Rg.val (.bool true),Rg.val (v),Rg.val (.int .i64 (Ta.length:Nat)),Rg.val (.pointer (some ⟨pr,0,none⟩)),Rg.val (.pointer (some ⟨pr,0,none⟩)),Rg.val (.pointer (some ⟨pr,0,none⟩)),Rg.val (.slice Yr Tb.length dr),Rg.val (.int .i64 (Tb.length:Nat)),Rg.val (.bool c7),Rg.val (.bool c7),Rg.val (.bool c7)] opn Rg.any) [] [[],[],[(0,235),(1,236)],[(2,237)],[(3,238)],[(3,238)],[(3,238),(4,239),(5,240)],[(3,238),(6,241)],[(7,242)],[(8,243)],[(8,243)],[(8,243),(9,244),(10,245)],[(8,243),(11,246)],[(12,247)],[(13,248)],[(13,248)],[(13,248),(14,249),(15,250)],[(13,248),(16,251)],[(17,252)],[(18,253)],[(18,253)],[(18,253),(19,254),(20,255)],[(18,253),(21,256)],[(22,257)],[(23,258)],[(23,258)],[(23,258),(24,259),(25,260)],[(23,258),(26,261)],[(27,262)],[(28,263)],[(28,263),(29,264)],[(28,263)],[(28,263),(31,266)],[(28,263),(32,267)],[(28,263),(33,268)],[(28,263),(34,269)],[(28,263),(30,265),(35,270)],[(28,263),(36,271)],[(37,272)]] [] (by kernel_rfl) (by rfl) (by kernel_rfl) ?_ ?_
       ·intro fr ha
        have hz:fr.tmps.size=273:=by rw [ha];rfl
        have y0:fr.eval (.tmp 0)=v:=by rw [ha];rfl
        have y1:fr.eval (.tmp 1)=.pointer (some ⟨pr,0,none⟩):=by rw [ha];rfl
        have y18:fr.eval (.tmp 18)=.int .i64 lk.1:=by rw [ha];rfl
        have y19:fr.eval (.tmp 19)=.int .i64 (lk.2:Nat):=by rw [ha];rfl
        have y20:fr.eval (.tmp 20)=.int .i64 lp.1:=by rw [ha];rfl
        have y21:fr.eval (.tmp 21)=.int .i64 (lp.2:Nat):=by rw [ha];rfl
        have y22:fr.eval (.tmp 22)=.pointer (some ⟨w12.heap.size,0,none⟩):=by rw [ha];rfl
        have y23:fr.eval (.tmp 23)=.bool fo:=by rw [ha];rfl
        have y24:fr.eval (.tmp 24)=.pointer (some ⟨w13.heap.size,0,none⟩):=by rw [ha];rfl
        have y25:fr.eval (.tmp 25)=.bool fp:=by rw [ha];rfl
        have y26:fr.eval (.tmp 26)=.slice Y li.length cy:=by rw [ha];rfl
        have y27:fr.eval (.tmp 27)=.int .i64 (ln:Nat):=by rw [ha];rfl
        have y28:fr.eval (.tmp 28)=.slice Z lj.length cz:=by rw [ha];rfl
        have y29:fr.eval (.tmp 29)=.int .i64 (lm:Nat):=by rw [ha];rfl
        clear ha
        refine .cons ?_ (.cons ?_ (.cons ?_ (.cons ?_ (.cons ?_ (.cons ?_ (.cons ?_ (.cons ?_ (.cons ?_ (.cons ?_ (.cons ?_ (.cons ?_ (.cons ?_ (.cons ?_ (.cons ?_ (.cons ?_ (.cons ?_ (.cons ?_ (.cons ?_ (.cons ?_ (.cons ?_ (.cons ?_ (.cons ?_ (.cons ?_ (.cons ?_ (.cons ?_ (.cons ?_ (.cons ?_ (.cons ?_ (.cons ?_ (.cons ?_ (.cons ?_ (.cons ?_ (.cons ?_ (.cons ?_ (.cons ?_ (.cons ?_ (.cons ?_ (.cons ?_ (.nil)))))))))))))))))))))))))))))))))))))))
        ·intro V w2 HL HH
         have tb18:=(Rg.use_eval V fr 18 [] (by rw [hz];decide)).trans y18
         show Rg.Does1 _ _ V (Rg.putUse V [] fr) w2 _
         exact step_mv (.int .i64 lk.1) (by simp only [execOp,tb18];go_simp) rfl rfl rfl True.intro
        ·intro V w2 HL HH
         have tb20:=(Rg.use_eval V fr 20 [] (by rw [hz];decide)).trans y20
         show Rg.Does1 _ _ V (Rg.putUse V [] fr) w2 _
         exact step_mv (.int .i64 lp.1) (by simp only [execOp,tb20];go_simp) rfl rfl rfl True.intro
        ·intro V w2 HL HH
         have h0:V 0=_:=HH.1
         have h1:V 1=_:=HH.2.1
         have tb235:=(Rg.use_eval V fr 235 [(0,235),(1,236)] (by rw [hz];decide)).trans h0
         have tb236:=(Rg.use_eval V fr 236 [(0,235),(1,236)] (by rw [hz];decide)).trans h1
         show Rg.Does1 _ _ V (Rg.putUse V [(0,235),(1,236)] fr) w2 _
         exact step_mv (.bool true) (by simp only [execOp,tb235,tb236];go_simp) rfl rfl rfl True.intro
        ·intro V w2 HL HH
         have h2:V 2=_:=HH.1
         have tb237:=(Rg.use_eval V fr 237 [(2,237)] (by rw [hz];decide)).trans h2
         show Rg.Does1 _ _ V (Rg.putUse V [(2,237)] fr) w2 _
         exact step_mv (.bool true) (by simp only [execOp,tb237];go_simp) rfl rfl rfl True.intro
        ·intro V w2 HL HH
         have h3:V 3=_:=HH.1
         have tb19:=(Rg.use_eval V fr 19 [(3,238)] (by rw [hz];decide)).trans y19
         show Rg.Does1 _ _ V (Rg.putUse V [(3,238)] fr) w2 _
         exact step_mv (.int .i64 (lk.2:Nat)) (by simp only [execOp,tb19];go_simp) rfl rfl rfl h3
        ·intro V w2 HL HH
         have h3:V 3=_:=HH.1
         have tb21:=(Rg.use_eval V fr 21 [(3,238)] (by rw [hz];decide)).trans y21
         show Rg.Does1 _ _ V (Rg.putUse V [(3,238)] fr) w2 _
         exact step_mv (.int .i64 (lp.2:Nat)) (by simp only [execOp,tb21];go_simp) rfl rfl rfl h3
        ·intro V w2 HL HH
         have h3:V 3=_:=HH.1
         have h4:V 4=_:=HH.2.1
         have h5:V 5=_:=HH.2.2.1
         have tb239:=(Rg.use_eval V fr 239 [(3,238),(4,239),(5,240)] (by rw [hz];decide)).trans h4
         have tb240:=(Rg.use_eval V fr 240 [(3,238),(4,239),(5,240)] (by rw [hz];decide)).trans h5
         show Rg.Does1 _ _ V (Rg.putUse V [(3,238),(4,239),(5,240)] fr) w2 _
         exact step_mv (.bool true) (by simp only [execOp,tb239,tb240];go_simp) rfl rfl rfl h3
        ·intro V w2 HL HH
         have h3:V 3=_:=HH.1
         have h6:V 6=_:=HH.2.1
         have tb238:=(Rg.use_eval V fr 238 [(3,238),(6,241)] (by rw [hz];decide)).trans h3
         have tb241:=(Rg.use_eval V fr 241 [(3,238),(6,241)] (by rw [hz];decide)).trans h6
         show Rg.Does1 _ _ V (Rg.putUse V [(3,238),(6,241)] fr) w2 _
         exact step_mv (.bool true) (by simp only [execOp,tb238,tb241];go_simp) rfl rfl rfl True.intro
        ·intro V w2 HL HH
         have h7:V 7=_:=HH.1
         have tb242:=(Rg.use_eval V fr 242 [(7,242)] (by rw [hz];decide)).trans h7
         show Rg.Does1 _ _ V (Rg.putUse V [(7,242)] fr) w2 _
         exact step_mv (.bool true) (by simp only [execOp,tb242];go_simp) rfl rfl rfl True.intro
        ·intro V w2 HL HH
         have HL:Later w15 w2:=HL
         have h8:V 8=_:=HH.1
         have tb22:=(Rg.use_eval V fr 22 [(8,243)] (by rw [hz];decide)).trans y22
         show Rg.Does1 _ _ V (Rg.putUse V [(8,243)] fr) w2 _
         obtain ⟨⟨e0,e1,e2,e3,e4,e5⟩,_,_⟩:=HCS.out _ HL
         exact step_mv (.agg #[.int .i64 a1,.int .i64 a2,.int .i64 a3,.int .i64 a4,.int .u64 (a5:Nat),.bool a6]) (by simp only [execOp,tb22];go_simp) rfl rfl rfl h8
        ·intro V w2 HL HH
         have HL:Later w15 w2:=HL
         have h8:V 8=_:=HH.1
         have tb24:=(Rg.use_eval V fr 24 [(8,243)] (by rw [hz];decide)).trans y24
         show Rg.Does1 _ _ V (Rg.putUse V [(8,243)] fr) w2 _
         obtain ⟨_,⟨e0,e1,e2,e3,e4,e5⟩,_⟩:=HCS.out _ HL
         exact step_mv (.agg #[.int .i64 b1,.int .i64 b2,.int .i64 b3,.int .i64 b4,.int .u64 (b5:Nat),.bool b6]) (by simp only [execOp,tb24];go_simp) rfl rfl rfl h8
        ·intro V w2 HL HH
         have h8:V 8=_:=HH.1
         have h9:V 9=_:=HH.2.1
         have h10:V 10=_:=HH.2.2.1
         have tb244:=(Rg.use_eval V fr 244 [(8,243),(9,244),(10,245)] (by rw [hz];decide)).trans h9
         have tb245:=(Rg.use_eval V fr 245 [(8,243),(9,244),(10,245)] (by rw [hz];decide)).trans h10
         show Rg.Does1 _ _ V (Rg.putUse V [(8,243),(9,244),(10,245)] fr) w2 _
         have hq:=heq w2
         exact step_mv (.bool true) (by simp only [execOp,tb244,tb245];go_simp) rfl rfl rfl h8
        ·intro V w2 HL HH
         have h8:V 8=_:=HH.1
         have h11:V 11=_:=HH.2.1
         have tb243:=(Rg.use_eval V fr 243 [(8,243),(11,246)] (by rw [hz];decide)).trans h8
         have tb246:=(Rg.use_eval V fr 246 [(8,243),(11,246)] (by rw [hz];decide)).trans h11
         show Rg.Does1 _ _ V (Rg.putUse V [(8,243),(11,246)] fr) w2 _
         exact step_mv (.bool true) (by simp only [execOp,tb243,tb246];go_simp) rfl rfl rfl True.intro
        ·intro V w2 HL HH
         have h12:V 12=_:=HH.1
         have tb247:=(Rg.use_eval V fr 247 [(12,247)] (by rw [hz];decide)).trans h12
         show Rg.Does1 _ _ V (Rg.putUse V [(12,247)] fr) w2 _
         exact step_mv (.bool true) (by simp only [execOp,tb247];go_simp) rfl rfl rfl True.intro
        ·intro V w2 HL HH
         have h13:V 13=_:=HH.1
         have tb23:=(Rg.use_eval V fr 23 [(13,248)] (by rw [hz];decide)).trans y23
         show Rg.Does1 _ _ V (Rg.putUse V [(13,248)] fr) w2 _
         exact step_mv (.bool fo) (by simp only [execOp,tb23];go_simp) rfl rfl rfl h13
        ·intro V w2 HL HH
         have h13:V 13=_:=HH.1
         have tb25:=(Rg.use_eval V fr 25 [(13,248)] (by rw [hz];decide)).trans y25
         show Rg.Does1 _ _ V (Rg.putUse V [(13,248)] fr) w2 _
         exact step_mv (.bool fp) (by simp only [execOp,tb25];go_simp) rfl rfl rfl h13
        ·intro V w2 HL HH
         have h13:V 13=_:=HH.1
         have h14:V 14=_:=HH.2.1
         have h15:V 15=_:=HH.2.2.1
         have tb249:=(Rg.use_eval V fr 249 [(13,248),(14,249),(15,250)] (by rw [hz];decide)).trans h14
         have tb250:=(Rg.use_eval V fr 250 [(13,248),(14,249),(15,250)] (by rw [hz];decide)).trans h15
         show Rg.Does1 _ _ V (Rg.putUse V [(13,248),(14,249),(15,250)] fr) w2 _
         exact step_mv (.bool true) (by simp only [execOp,tb249,tb250];go_simp) rfl rfl rfl h13
        ·intro V w2 HL HH
         have h13:V 13=_:=HH.1
         have h16:V 16=_:=HH.2.1
         have tb248:=(Rg.use_eval V fr 248 [(13,248),(16,251)] (by rw [hz];decide)).trans h13
         have tb251:=(Rg.use_eval V fr 251 [(13,248),(16,251)] (by rw [hz];decide)).trans h16
         show Rg.Does1 _ _ V (Rg.putUse V [(13,248),(16,251)] fr) w2 _
         exact step_mv (.bool true) (by simp only [execOp,tb248,tb251];go_simp) rfl rfl rfl True.intro
        ·intro V w2 HL HH
         have h17:V 17=_:=HH.1
         have tb252:=(Rg.use_eval V fr 252 [(17,252)] (by rw [hz];decide)).trans h17
         show Rg.Does1 _ _ V (Rg.putUse V [(17,252)] fr) w2 _
         exact step_mv (.bool true) (by simp only [execOp,tb252];go_simp) rfl rfl rfl True.intro
        ·intro V w2 HL HH
         have h18:V 18=_:=HH.1
         have tb26:=(Rg.use_eval V fr 26 [(18,253)] (by rw [hz];decide)).trans y26
         show Rg.Does1 _ _ V (Rg.putUse V [(18,253)] fr) w2 _
         exact step_mv (.slice Y li.length cy) (by simp only [execOp,tb26];go_simp) rfl rfl rfl h18
        ·intro V w2 HL HH
         have h18:V 18=_:=HH.1
         have tb28:=(Rg.use_eval V fr 28 [(18,253)] (by rw [hz];decide)).trans y28
         show Rg.Does1 _ _ V (Rg.putUse V [(18,253)] fr) w2 _
         exact step_mv (.slice Z lj.length cz) (by simp only [execOp,tb28];go_simp) rfl rfl rfl h18
        ·intro V w2 HL HH
         have HL:Later w15 w2:=HL
         have h18:V 18=_:=HH.1
         have h19:V 19=_:=HH.2.1
         have h20:V 20=_:=HH.2.2.1
         have tb254:=(Rg.use_eval V fr 254 [(18,253),(19,254),(20,255)] (by rw [hz];decide)).trans h19
         have tb255:=(Rg.use_eval V fr 255 [(18,253),(19,254),(20,255)] (by rw [hz];decide)).trans h20
         show Rg.Does1 _ _ V (Rg.putUse V [(18,253),(19,254),(20,255)] fr) w2 _
         exact step_num #[.slice Y li.length cy,.slice Z lj.length cz] (.bool true) (fun args w=>Rg.call_enter Tryz.func37 (by kernel_rfl) (by kernel_rfl) args w) rfl (by simp only [List.map_toArray,List.map_cons,List.map_nil,tb254,tb255]) rfl rfl rfl h18 (HSM.out w2 HL)
        ·intro V w2 HL HH
         have h18:V 18=_:=HH.1
         have h21:V 21=_:=HH.2.1
         have tb253:=(Rg.use_eval V fr 253 [(18,253),(21,256)] (by rw [hz];decide)).trans h18
         have tb256:=(Rg.use_eval V fr 256 [(18,253),(21,256)] (by rw [hz];decide)).trans h21
         show Rg.Does1 _ _ V (Rg.putUse V [(18,253),(21,256)] fr) w2 _
         exact step_mv (.bool true) (by simp only [execOp,tb253,tb256];go_simp) rfl rfl rfl True.intro
        ·intro V w2 HL HH
         have h22:V 22=_:=HH.1
         have tb257:=(Rg.use_eval V fr 257 [(22,257)] (by rw [hz];decide)).trans h22
         show Rg.Does1 _ _ V (Rg.putUse V [(22,257)] fr) w2 _
         exact step_mv (.bool true) (by simp only [execOp,tb257];go_simp) rfl rfl rfl True.intro
        ·intro V w2 HL HH
         have h23:V 23=_:=HH.1
         have tb27:=(Rg.use_eval V fr 27 [(23,258)] (by rw [hz];decide)).trans y27
         show Rg.Does1 _ _ V (Rg.putUse V [(23,258)] fr) w2 _
         exact step_mv (.int .i64 (ln:Nat)) (by simp only [execOp,tb27];go_simp) rfl rfl rfl h23
        ·intro V w2 HL HH
         have h23:V 23=_:=HH.1
         have tb29:=(Rg.use_eval V fr 29 [(23,258)] (by rw [hz];decide)).trans y29
         show Rg.Does1 _ _ V (Rg.putUse V [(23,258)] fr) w2 _
         exact step_mv (.int .i64 (lm:Nat)) (by simp only [execOp,tb29];go_simp) rfl rfl rfl h23
        ·intro V w2 HL HH
         have h23:V 23=_:=HH.1
         have h24:V 24=_:=HH.2.1
         have h25:V 25=_:=HH.2.2.1
         have tb259:=(Rg.use_eval V fr 259 [(23,258),(24,259),(25,260)] (by rw [hz];decide)).trans h24
         have tb260:=(Rg.use_eval V fr 260 [(23,258),(24,259),(25,260)] (by rw [hz];decide)).trans h25
         show Rg.Does1 _ _ V (Rg.putUse V [(23,258),(24,259),(25,260)] fr) w2 _
         exact step_mv (.bool true) (by simp only [execOp,tb259,tb260];go_simp) rfl rfl rfl h23
        ·intro V w2 HL HH
         have h23:V 23=_:=HH.1
         have h26:V 26=_:=HH.2.1
         have tb258:=(Rg.use_eval V fr 258 [(23,258),(26,261)] (by rw [hz];decide)).trans h23
         have tb261:=(Rg.use_eval V fr 261 [(23,258),(26,261)] (by rw [hz];decide)).trans h26
         show Rg.Does1 _ _ V (Rg.putUse V [(23,258),(26,261)] fr) w2 _
         exact step_mv (.bool true) (by simp only [execOp,tb258,tb261];go_simp) rfl rfl rfl True.intro
        ·intro V w2 HL HH
         have h27:V 27=_:=HH.1
         have tb262:=(Rg.use_eval V fr 262 [(27,262)] (by rw [hz];decide)).trans h27
         show Rg.Does1 _ _ V (Rg.putUse V [(27,262)] fr) w2 _
         exact step_mv (.bool true) (by simp only [execOp,tb262];go_simp) rfl rfl rfl True.intro
        ·intro V w2 HL HH
         have h28:V 28=_:=HH.1
         have tb0:=(Rg.use_eval V fr 0 [(28,263)] (by rw [hz];decide)).trans y0
         show Rg.Does1 _ _ V (Rg.putUse V [(28,263)] fr) w2 _
         exact step_mv (v) (by simp only [execOp,tb0];go_simp) rfl rfl rfl h28
        ·intro V w2 HL HH
         have HL:Later w15 w2:=HL
         have h28:V 28=_:=HH.1
         have h29:V 29=_:=HH.2.1
         have tb264:=(Rg.use_eval V fr 264 [(28,263),(29,264)] (by rw [hz];decide)).trans h29
         show Rg.Does1 _ _ V (Rg.putUse V [(28,263),(29,264)] fr) w2 _
         exact step_num #[v] (.int .i64 (Ta.length:Nat)) (fun args w=>Rg.call_enter Tryz.func40 (by kernel_rfl) (by kernel_rfl) args w) rfl (by simp only [List.map_toArray,List.map_cons,List.map_nil,tb264]) rfl rfl rfl h28 (HCT.out w2 HL)
        ·intro V w2 HL HH
         have h28:V 28=_:=HH.1
         have tb1:=(Rg.use_eval V fr 1 [(28,263)] (by rw [hz];decide)).trans y1
         show Rg.Does1 _ _ V (Rg.putUse V [(28,263)] fr) w2 _
         exact step_mv (.pointer (some ⟨pr,0,none⟩)) (by simp only [execOp,tb1];go_simp) rfl rfl rfl h28
        ·intro V w2 HL HH
         have h28:V 28=_:=HH.1
         have h31:V 31=_:=HH.2.1
         have tb266:=(Rg.use_eval V fr 266 [(28,263),(31,266)] (by rw [hz];decide)).trans h31
         show Rg.Does1 _ _ V (Rg.putUse V [(28,263),(31,266)] fr) w2 _
         exact step_mv (.pointer (some ⟨pr,0,none⟩)) (by simp only [execOp,tb266];go_simp) rfl rfl rfl h28
        ·intro V w2 HL HH
         have h28:V 28=_:=HH.1
         have h32:V 32=_:=HH.2.1
         have tb267:=(Rg.use_eval V fr 267 [(28,263),(32,267)] (by rw [hz];decide)).trans h32
         show Rg.Does1 _ _ V (Rg.putUse V [(28,263),(32,267)] fr) w2 _
         exact step_mv (.pointer (some ⟨pr,0,none⟩)) (by simp only [execOp,tb267];go_simp) rfl rfl rfl h28
        ·intro V w2 HL HH
         have HL:Later w15 w2:=HL
         have h28:V 28=_:=HH.1
         have h33:V 33=_:=HH.2.1
         have tb268:=(Rg.use_eval V fr 268 [(28,263),(33,268)] (by rw [hz];decide)).trans h33
         show Rg.Does1 _ _ V (Rg.putUse V [(28,263),(33,268)] fr) w2 _
         obtain ⟨_,_,e0⟩:=HCS.out _ HL
         exact step_mv (.slice Yr Tb.length dr) (by simp only [execOp,tb268];go_simp) rfl rfl rfl h28
        ·intro V w2 HL HH
         have h28:V 28=_:=HH.1
         have h34:V 34=_:=HH.2.1
         have tb269:=(Rg.use_eval V fr 269 [(28,263),(34,269)] (by rw [hz];decide)).trans h34
         show Rg.Does1 _ _ V (Rg.putUse V [(28,263),(34,269)] fr) w2 _
         exact step_mv (.int .i64 (Tb.length:Nat)) (by simp only [execOp,resolve,List.map_toArray,List.map_cons,List.map_nil,tb269];go_simp) rfl rfl rfl h28
        ·intro V w2 HL HH
         have h28:V 28=_:=HH.1
         have h30:V 30=_:=HH.2.1
         have h35:V 35=_:=HH.2.2.1
         have tb265:=(Rg.use_eval V fr 265 [(28,263),(30,265),(35,270)] (by rw [hz];decide)).trans h30
         have tb270:=(Rg.use_eval V fr 270 [(28,263),(30,265),(35,270)] (by rw [hz];decide)).trans h35
         show Rg.Does1 _ _ V (Rg.putUse V [(28,263),(30,265),(35,270)] fr) w2 _
         exact step_mv (.bool c7) (by simp only [execOp,tb265,tb270];go_simp) rfl rfl rfl h28
        ·intro V w2 HL HH
         have h28:V 28=_:=HH.1
         have h36:V 36=_:=HH.2.1
         have tb263:=(Rg.use_eval V fr 263 [(28,263),(36,271)] (by rw [hz];decide)).trans h28
         have tb271:=(Rg.use_eval V fr 271 [(28,263),(36,271)] (by rw [hz];decide)).trans h36
         show Rg.Does1 _ _ V (Rg.putUse V [(28,263),(36,271)] fr) w2 _
         exact step_mv (.bool c7) (by simp only [execOp,tb263,tb271];go_simp) rfl rfl rfl True.intro
        ·intro V w2 HL HH
         have h37:V 37=_:=HH.1
         have tb272:=(Rg.use_eval V fr 272 [(37,272)] (by rw [hz];decide)).trans h37
         show Rg.Does1 _ _ V (Rg.putUse V [(37,272)] fr) w2 _
         exact step_mv (.bool c7) (by simp only [execOp,tb272];go_simp) rfl rfl rfl True.intro
       ·intro V w2 HI
        have v38:V 38=.bool c7:=HI.get 38 (by decide) (by rfl)
        have hlt:=later_drew HI.later
        clear HI
        simp only [Rg.putList,Act.put,List.setIfInBounds_toArray,List.set_cons_zero,List.set_cons_succ,Nat.zero_add,Nat.reduceAdd]
        rw [v38]
        clear v38
        go_wp2_with fail
        first|exact HQ.out _ _ (HEND.out _ _ hlt)|(go_ret;exact HQ.out _ _ (HEND.out _ _ hlt))
theorem do2_any {v r:Value} {Tp Tq:T} {B1 B2:Nat→Prop} {w:World} {p:AskT} (ht:Tm.TAt v Tp B1 w) (hr:Rf.RAt r Tq B2 w) (hap:∀ k,B1 k→¬ B2 k) (hG:Tr.Good Tp) (hG2:Tr.Good Tq) (hp:p.Fits w) (hfar:0<p.b.length→∀ k,p.X.map (·.block)=some k→¬ B1 k∧¬ B2 k):Calls Tryz.prog 33 #[v,r,p.val] w (Done v r (stepT p Tp) (stepT p Tq) B1 B2 w):=do2_to (fun _ _ h=>h) ht hr hap hG hG2 hp hfar
end Tw
end Go.Proofs.YtjoedamiilgajaaGreat
