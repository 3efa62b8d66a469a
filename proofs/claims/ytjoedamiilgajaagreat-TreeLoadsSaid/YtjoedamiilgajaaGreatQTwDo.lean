/-
  OWN WORK. Law 11's kind, and do: one call of both trees, and what is told of it.
-/
import Derived.Test.YtjoedamiilgajaaGreatQ14
import Derived.Test.YtjoedamiilgajaaGreatQTrNames
import Derived.Test.YtjoedamiilgajaaGreatQBaCut
import Derived.Test.YtjoedamiilgajaaGreatQ08
import Derived.Test.YtjoedamiilgajaaGreatQTwShort
import Derived.Deep.RegionHeld3
import Derived.Deep.CutBlock
set_option maxHeartbeats 8000000
namespace Go.Proofs.YtjoedamiilgajaaGreat
open Go.RowKit Rc
open Tr (Nm En T)
namespace Tw
set_option maxRecDepth 100000 in
theorem kind_any (w:World) (p:AskT):Calls Tryz.prog 85 #[p.val] w fun e w'=>e=.returned (.int .i64 (if p.dir=true then 2 else 1))∧Below w.heap.size w w':=by
 obtain ⟨kd,pp,z,dir,id,a,m,X,b,cb,u⟩:=p
 have hb:=bN w (.cells #[.int .i64 kd,.int .i64 pp,.int .i64 z,.bool dir,.int .i64 id,.int .i64 a,.int .i64 m,.slice X b.length cb,.int .u64 (u:Nat)] 56)
 have HB:=Lib.hid hb
 have hk:Blk (w.alloc (.cells #[.int .i64 kd,.int .i64 pp,.int .i64 z,.bool dir,.int .i64 id,.int .i64 a,.int .i64 m,.slice X b.length cb,.int .u64 (u:Nat)] 56)) w.heap.size 56 [.int .i64 kd,.int .i64 pp,.int .i64 z,.bool dir,.int .i64 id,.int .i64 a,.int .i64 m,.slice X b.length cb,.int .u64 (u:Nat)]:=Blk.new w _ _
 have c3:=hk.cell 3
 show Calls _ _ #[.agg #[.int .i64 kd,.int .i64 pp,.int .i64 z,.bool dir,.int .i64 id,.int .i64 a,.int .i64 m,.slice X b.length cb,.int .u64 (u:Nat)]] w _
 clear hb hk
 cases dir
 all_goals
  go_enter Tryz.func85,Tryz.ntmps85
  go_wp2_with fail
  go_ret
  exact ⟨rfl,HB.out⟩
theorem nd_eql (a:Nd) (w:World):(binOp .eql 59 a.val a.val).run Tryz.prog w=.ok (.bool true) w:=by
 obtain ⟨ia,ka,la,za,ta,sa⟩:=a
 show (binOp .eql 59 (.agg #[.int .i64 ia,.int .i64 ka,.int .i64 la,.int .i64 za,.int .u64 (ta:Nat),.bool sa]) (.agg #[.int .i64 ia,.int .i64 ka,.int .i64 la,.int .i64 za,.int .u64 (ta:Nat),.bool sa])).run Tryz.prog w=_
 go_simp
theorem undrewR2 {b:Nat} {w w':World} (h:Below b w w'):Below b w w'.drew:=⟨h.os,h.tape,h.output,h.size,h.block⟩
set_option maxRecDepth 100000 in
theorem do_any {v r:Value} {Tt:T} {B1 B2:Nat→Prop} {w:World} (ht:Tm.TAt v Tt B1 w) (hr:Rf.RAt r Tt B2 w) (hap:∀ k,B1 k→¬ B2 k) (hG:Tr.Good Tt) (p:AskT) (hp:p.Fits w) (hfar:0<p.b.length→∀ k,p.X.map (·.block)=some k→¬ B1 k∧¬ B2 k) :
    Calls Tryz.prog 33 #[v,r,p.val] w fun e w'=>e=.returned (.bool true)∧∃ T' B1' B2',Tr.Good T'∧(Tr.Short Tt→Tr.Short T')∧Tm.TAt v T' B1' w'∧Rf.RAt r T' B2' w'∧(∀ k,B1' k→¬ B2' k)∧Mod w w' (fun k=>B1 k∨B2 k)∧∀ k,B1' k∨B2' k→(B1 k∨B2 k)∨w.heap.size≤k:=by
 obtain ⟨w1,hw1⟩:∃ w1,w1=w.alloc (.cells p.cells.toArray 56):=⟨_,rfl⟩
 have hb1:Below w.heap.size w w1:=by rw [hw1];exact bN w _
 have hk1:Blk w1 w.heap.size 56 p.cells:=by rw [hw1];exact Blk.new w _ _
 have hl1:∀ k,B1 k→k<w.heap.size:=fun k hk=>Tm.tobj.lt ht k hk
 have hl2:∀ k,B2 k→k<w.heap.size:=fun k hk=>Rf.robj.lt hr k hk
 have hsz1:w1.heap.size=w.heap.size+1:=by rw [hw1,World.size_alloc]
 have HCL:Hid (∀ W,Below w1.heap.size w1 W→W.cell? ⟨w.heap.size,1,none⟩=some (.int .i64 p.p)∧W.cell? ⟨w.heap.size,2,none⟩=some (.int .i64 p.z)):=fun W hW=>by
  have h:=hk1.below hW hk1.lt
  exact ⟨h.cell 1,h.cell 2⟩
 have HST:Hid (∀ (W:World) (A A2:Option Addr) (q q2:List Bs) (x:Bs) (c c2:Nat),Below w1.heap.size w1 W→RdS W A q→q.length≤c∧q.length≤3∧(∀ s ∈ q,s.length≤1)→(∀ k,A.map (·.block)=some k→w1.heap.size≤k)→RdS W A2 q2→q2.length≤c2∧q2.length≤3∧(∀ s ∈ q2,s.length≤1)→(∀ k,A2.map (·.block)=some k→w1.heap.size≤k)→Rd W p.X x→x.length≤100∧x.length≤p.cb→(x.length≤p.b.length) →
     St v r Tt Tt w.heap.size p.cells A A2 q q2 p.X x c c2 p.cb (fun k=>B1 k∨B2 k) w B1 B2 W):=fun W A A2 q q2 x c c2 hW r1 s1 f1 r2 s2 f2 rb sb hxb=>by
  have hWw:Below w.heap.size w W:=hb1.trans (hW.mono hb1.size)
  refine ⟨Tm.tobj.keep ht hWw.size fun k hk=>hWw.block k (hl1 k hk),Rf.robj.keep hr hWw.size fun k hk=>hWw.block k (hl2 k hk),hap,hk1.below hW hk1.lt,⟨fun h=>by have:=hl1 _ h;omega,fun h=>by have:=hl2 _ h;omega⟩,r1,r2,rb,fun hl k hk=>⟨?_,fun h=>?_,fun h=>?_⟩,fun hl k hk=>⟨?_,fun h=>?_,fun h=>?_⟩,fun hl k hk=>⟨Ob.rd_lt rb hl hk,hfar (by omega) k hk⟩,⟨s1.1,by omega,fun s hs=>by have:=s1.2.2 s hs;omega⟩,⟨s2.1,by omega,fun s hs=>by have:=s2.2.2 s hs;omega⟩,⟨sb.2,by omega⟩,Mod.of_below hWw _,fun k hk=>.inl hk⟩
  ·obtain ⟨b,off,hA,hlt,_⟩:=r1 hl;rw [hA] at hk;simp at hk;omega
  ·have h1:=f1 k hk;have h2:=hl1 k h;omega
  ·have h1:=f1 k hk;have h2:=hl2 k h;omega
  ·obtain ⟨b,off,hA,hlt,_⟩:=r2 hl;rw [hA] at hk;simp at hk;omega
  ·have h1:=f2 k hk;have h2:=hl1 k h;omega
  ·have h1:=f2 k hk;have h2:=hl2 k h;omega
 have HRB:Hid (∀ W,Below w1.heap.size w1 W→Rd W p.X p.b):=fun W hW=>(hp.rd.below hb1).below hW
 have HB7:Hid (∀ W,Below w1.heap.size w1 W→W.cell? ⟨w.heap.size,7,none⟩=some (.slice p.X p.b.length p.cb)∧W.cell? ⟨w.heap.size,0,none⟩=some (.int .i64 p.kd)):=fun W hW=>by
  have h:=hk1.below hW hk1.lt
  exact ⟨h.cell 7,h.cell 0⟩
 have HPF:=Lib.hid hp
 have HG0:=Lib.hid hG
 have hcl:=HCL.out w1 (Below.refl _ _)
 obtain ⟨hcl1,hcl2⟩:=hcl
 have HCD:Hid (w1.drew.cell? ⟨w.heap.size,1,none⟩=some (.int .i64 p.p)∧w1.drew.cell? ⟨w.heap.size,2,none⟩=some (.int .i64 p.z)):=⟨hcl1,hcl2⟩
 have HNA:Hid (∀ W,Calls Tryz.prog 84 #[.int .i64 p.p] W fun e w'=>∃ (A:Option Addr) (q:List Bs) (cap:Nat),e=.returned (.slice A q.length cap)∧Hid (q.length≤cap∧q.length≤3∧(∀ s ∈ q,s.length≤1))∧Hid (RdS w' A q)∧Hid (Below W.heap.size W w')∧Hid (∀ k,A.map (·.block)=some k→W.heap.size≤k)):=fun W=>(Tm.names_any W p.p HPF.out.ip.1 HPF.out.ip.2).mono fun e w' ⟨A,q,c,h1,h2,h3,h4,h5,h6,h7⟩=>⟨A,q,c,h1,⟨h2,h3,h4⟩,h5,h6,h7⟩
 have HNB:Hid (∀ W,Calls Tryz.prog 84 #[.int .i64 p.z] W fun e w'=>∃ (A:Option Addr) (q:List Bs) (cap:Nat),e=.returned (.slice A q.length cap)∧Hid (q.length≤cap∧q.length≤3∧(∀ s ∈ q,s.length≤1))∧Hid (RdS w' A q)∧Hid (Below W.heap.size W w')∧Hid (∀ k,A.map (·.block)=some k→W.heap.size≤k)):=fun W=>(Tm.names_any W p.z HPF.out.ito.1 HPF.out.ito.2).mono fun e w' ⟨A,q,c,h1,h2,h3,h4,h5,h6,h7⟩=>⟨A,q,c,h1,⟨h2,h3,h4⟩,h5,h6,h7⟩
 obtain ⟨pp,hpp⟩:∃ pp,pp=p.p:=⟨_,rfl⟩
 obtain ⟨pz,hpz⟩:∃ pz,pz=p.z:=⟨_,rfl⟩
 have hval:p.val=.agg #[.int .i64 p.kd,.int .i64 p.p,.int .i64 p.z,.bool p.dir,.int .i64 p.id,.int .i64 p.a,.int .i64 p.m,.slice p.X p.b.length p.cb,.int .u64 (p.u:Nat)]:=rfl
 have hcs:p.cells.toArray=#[.int .i64 p.kd,.int .i64 p.p,.int .i64 p.z,.bool p.dir,.int .i64 p.id,.int .i64 p.a,.int .i64 p.m,.slice p.X p.b.length p.cb,.int .u64 (p.u:Nat)]:=rfl
 rw [hcs] at hw1
 rw [hval]
 rw [← hpp] at HNA HCL HCD hcl1 hw1 ⊢
 rw [← hpz] at HNB HCL HCD hcl2 hw1 ⊢
 have HW1:=Lib.hid hw1
 have HPP:Hid (pp=p.p∧pz=p.z):=⟨hpp,hpz⟩
 clear hpp hpz ht hr hap hG hp hfar hb1 hk1 hl1 hl2 hsz1 hval hcs
 go_enter Tryz.func33,Tryz.ntmps33
 go_upto_region 1 with (fail)
 rw [← hw1]
 clear hw1
 go_cut [7,8] (fun t7 t8 wx=>∃ (W:World) (A A2:Option Addr) (q q2:List Bs) (c c2:Nat),W=wx∧t7=.slice A q.length c∧t8=.slice A2 q2.length c2∧Hid (Below w1.heap.size w1 W)∧Hid (RdS W A q∧(q.length≤c∧q.length≤3∧(∀ s ∈ q,s.length≤1))∧(∀ k,A.map (·.block)=some k→w1.heap.size≤k))∧Hid (RdS W A2 q2∧(q2.length≤c2∧q2.length≤3∧(∀ s ∈ q2,s.length≤1))∧(∀ k,A2.map (·.block)=some k→w1.heap.size≤k)))
 case first =>
  go_region_held3 (fun w'=>w'.cell? ⟨w.heap.size,1,none⟩=some (.int .i64 pp)∧w'.cell? ⟨w.heap.size,2,none⟩=some (.int .i64 pz))
   (first
    | exact HCL.out _ (HBB.out)
    | exact HCL.out _ (HBA.out)
    | exact ⟨hcl1,hcl2⟩
    | fail)
   (first
    | (have hx:=HBA.out;clear hx;go_at_call 84;refine (HNB.out _).mono ?_;rintro e1 w3 ⟨A2,q2,c2,rfl,QB1,QB2,QB3,QB4⟩;have HBB:Hid (Below w1.heap.size w1 w3):=HBA.out.trans (Below.mono QB3.out HBA.out.size))
    | (go_at_call 84;refine (HNA.out _).mono ?_;rintro e1 w2 ⟨A,q,c,rfl,QA1,QA2,QA3,QA4⟩;have HBA:Hid (Below w1.heap.size w1 w2):=later_drew QA3.out)
    | fail)
  go_wp2_with fail
  go_meet
  case rel=>exact ⟨_,A,A2,q,q2,c,c2,rfl,rfl,rfl,HBB.out,⟨QA2.out.below QB3.out,QA1.out,QA4.out⟩,⟨QB2.out,QB1.out,fun k hk=>Nat.le_trans HBA.out.size (QB4.out k hk)⟩⟩
 case rest =>
 obtain ⟨w3,A,A2,q,q2,c,c2,hw3,rfl,rfl,HBB,HQA,HQB⟩:=hcut
 subst hw3
 clear hcl1 hcl2 HNA HNB HCL HCD
 obtain ⟨c7,c0⟩:=HB7.out w3 HBB.out
 obtain ⟨kd,hkd⟩:∃ kd,kd=p.kd:=⟨_,rfl⟩
 rw [← hkd] at c0
 clear hkd
 go_wp2_with fail
 refine (cut_any p.X p.b p.cb 100 HPF.out.fits (by omega) HPF.out.long w3).mono ?_
 rintro e _ ⟨rfl,rfl⟩
 obtain ⟨x,hx⟩:∃ x,x=p.b.take 100:=⟨_,rfl⟩
 rw [← hx]
 have HSTT:Hid (St v r Tt Tt w.heap.size p.cells A A2 q q2 p.X x c c2 p.cb (fun k=>B1 k∨B2 k) w B1 B2 w3):=HST.out w3 A A2 q q2 x c c2 HBB.out HQA.out.1 HQA.out.2.1 HQA.out.2.2 HQB.out.1 HQB.out.2.1 HQB.out.2.2 (by rw [hx];exact (HRB.out w3 HBB.out).take 100) ⟨by rw [hx,List.length_take];omega,by rw [hx,List.length_take];have:=HPF.out.fits;omega⟩ (by rw [hx,List.length_take];omega)
 have HQS:Hid ((∀ s ∈ q,s.length≤1)∧∀ s ∈ q2,s.length≤1):=⟨HQA.out.2.1.2.2,HQB.out.2.1.2.2⟩
 clear hx HST HRB HB7 HW1 HPP HQA HQB HBB c7
 go_upto_block 0 with (fail)
 go_cut [6] (fun t6 wx=>∃ (W:World) (T':T) (B1' B2':Nat→Prop),W=wx∧t6=.bool false∧Hid (Tr.Good T'∧(Tr.Short Tt→Tr.Short T'))∧Hid (St v r T' T' w.heap.size p.cells A A2 q q2 p.X x c c2 p.cb (fun k=>B1 k∨B2 k) w B1' B2' W))
 case first =>
  clear c0
  by_cases k1:kd=1
  ·subst k1
   as_aux_lemma =>
    have d0:w3.cell? ⟨w.heap.size,0,none⟩=some (.int .i64 p.kd):=HSTT.out.box.cell 0
    have d1:w3.cell? ⟨w.heap.size,1,none⟩=some (.int .i64 p.p):=HSTT.out.box.cell 1
    have d2:w3.cell? ⟨w.heap.size,2,none⟩=some (.int .i64 p.z):=HSTT.out.box.cell 2
    have d3:w3.cell? ⟨w.heap.size,3,none⟩=some (.bool p.dir):=HSTT.out.box.cell 3
    have d4:w3.cell? ⟨w.heap.size,4,none⟩=some (.int .i64 p.id):=HSTT.out.box.cell 4
    have d5:w3.cell? ⟨w.heap.size,5,none⟩=some (.int .i64 p.a):=HSTT.out.box.cell 5
    have d6:w3.cell? ⟨w.heap.size,6,none⟩=some (.int .i64 p.m):=HSTT.out.box.cell 6
    have d7:w3.cell? ⟨w.heap.size,7,none⟩=some (.slice p.X p.b.length p.cb):=HSTT.out.box.cell 7
    have d8:w3.cell? ⟨w.heap.size,8,none⟩=some (.int .u64 (p.u:Nat)):=HSTT.out.box.cell 8
    have HKN:Hid (∀ W,Calls Tryz.prog 85 #[.agg #[.int .i64 p.kd,.int .i64 p.p,.int .i64 p.z,.bool p.dir,.int .i64 p.id,.int .i64 p.a,.int .i64 p.m,.slice p.X p.b.length p.cb,.int .u64 (p.u:Nat)]] W fun e w'=>e=.returned (.int .i64 (if p.dir=true then 2 else 1))∧Below W.heap.size W w'):=fun W=>kind_any W p
    obtain ⟨kn,hkn⟩:∃ kn:Int,kn=if p.dir=true then 2 else 1:=⟨_,rfl⟩
    rw [← hkn] at HKN
    clear hkn
    go_wp2_with fail
    refine (HKN.out w3).mono ?_
    rintro e w4 ⟨rfl,hb4⟩
    have HU0:=Lib.hid (HSTT.out.later hb4)
    clear hb4
    clear d0 d1 d2 d3 d4 d5 d6 d7 d8
    go_wp2_with fail
    refine (HU0.out.makeT HG0.out kn).mono ?_
    rintro e w5 ⟨rfl,B1',HU1⟩
    have d0:w5.cell? ⟨w.heap.size,0,none⟩=some (.int .i64 p.kd):=HU1.out.box.cell 0
    have d1:w5.cell? ⟨w.heap.size,1,none⟩=some (.int .i64 p.p):=HU1.out.box.cell 1
    have d2:w5.cell? ⟨w.heap.size,2,none⟩=some (.int .i64 p.z):=HU1.out.box.cell 2
    have d3:w5.cell? ⟨w.heap.size,3,none⟩=some (.bool p.dir):=HU1.out.box.cell 3
    have d4:w5.cell? ⟨w.heap.size,4,none⟩=some (.int .i64 p.id):=HU1.out.box.cell 4
    have d5:w5.cell? ⟨w.heap.size,5,none⟩=some (.int .i64 p.a):=HU1.out.box.cell 5
    have d6:w5.cell? ⟨w.heap.size,6,none⟩=some (.int .i64 p.m):=HU1.out.box.cell 6
    have d7:w5.cell? ⟨w.heap.size,7,none⟩=some (.slice p.X p.b.length p.cb):=HU1.out.box.cell 7
    have d8:w5.cell? ⟨w.heap.size,8,none⟩=some (.int .u64 (p.u:Nat)):=HU1.out.box.cell 8
    go_wp2_with fail
    refine (HKN.out w5).mono ?_
    rintro e w6 ⟨rfl,hb6⟩
    have HU2:=Lib.hid (HU1.out.later hb6)
    clear hb6
    clear d0 d1 d2 d3 d4 d5 d6 d7 d8
    go_wp2_with fail
    refine (HU2.out.makeR HG0.out kn).mono ?_
    rintro e w7 ⟨rfl,B2',HU3⟩
    go_wp2_with fail
    go_meet
    case rel=>exact ⟨_,_,B1',B2',rfl,rfl,⟨Tr.make_good HG0.out q kn,fun h=>Tr.make_short h HQS.out.1 kn⟩,HU3.out⟩
  have n1:(kd==1)=false:=by rw [beq_eq_false_iff_ne];exact k1
  clear k1
  by_cases k2:kd=2
  ·subst k2
   as_aux_lemma =>
    go_wp2_with fail
    refine (HSTT.out.linkT HG0.out).mono ?_
    rintro e w5 ⟨rfl,B1',HU1⟩
    go_wp2_with fail
    refine (HU1.out.linkR HG0.out).mono ?_
    rintro e w7 ⟨rfl,B2',HU3⟩
    go_wp2_with fail
    go_meet
    case rel=>exact ⟨_,_,B1',B2',rfl,rfl,⟨Tr.link_good HG0.out q q2,fun h=>Tr.link_short h q HQS.out.2⟩,HU3.out⟩
  have n2:(kd==2)=false:=by rw [beq_eq_false_iff_ne];exact k2
  clear k2
  by_cases k3:kd=3
  ·subst k3
   as_aux_lemma =>
    go_wp2_with fail
    refine (HSTT.out.unlinkT HG0.out).mono ?_
    rintro e w5 ⟨rfl,B1',HU1⟩
    go_wp2_with fail
    refine (HU1.out.unlinkR HG0.out).mono ?_
    rintro e w7 ⟨rfl,B2',HU3⟩
    go_wp2_with fail
    go_meet
    case rel=>exact ⟨_,_,B1',B2',rfl,rfl,⟨Tr.unlink_good HG0.out q,fun h=>Tr.unlink_short h q⟩,HU3.out⟩
  have n3:(kd==3)=false:=by rw [beq_eq_false_iff_ne];exact k3
  clear k3
  by_cases k4:kd=4
  ·subst k4
   as_aux_lemma =>
    go_wp2_with fail
    refine (HSTT.out.rmdirT HG0.out).mono ?_
    rintro e w5 ⟨rfl,B1',HU1⟩
    go_wp2_with fail
    refine (HU1.out.rmdirR HG0.out).mono ?_
    rintro e w7 ⟨rfl,B2',HU3⟩
    go_wp2_with fail
    go_meet
    case rel=>exact ⟨_,_,B1',B2',rfl,rfl,⟨Tr.rmdir_good HG0.out q,fun h=>Tr.rmdir_short h q⟩,HU3.out⟩
  have n4:(kd==4)=false:=by rw [beq_eq_false_iff_ne];exact k4
  clear k4
  by_cases k5:kd=5
  ·subst k5
   as_aux_lemma =>
    go_wp2_with fail
    refine (HSTT.out.renameT HG0.out).mono ?_
    rintro e w5 ⟨rfl,B1',HU1⟩
    go_wp2_with fail
    refine (HU1.out.renameR HG0.out).mono ?_
    rintro e w7 ⟨rfl,B2',HU3⟩
    go_wp2_with fail
    go_meet
    case rel=>exact ⟨_,_,B1',B2',rfl,rfl,⟨Tr.rename_good HG0.out q q2,fun h=>Tr.rename_short h q HQS.out.2⟩,HU3.out⟩
  have n5:(kd==5)=false:=by rw [beq_eq_false_iff_ne];exact k5
  clear k5
  by_cases k6:kd=6
  ·subst k6
   as_aux_lemma =>
    have HSD:Hid (St v r Tt Tt w.heap.size p.cells A A2 q q2 p.X x c c2 p.cb (fun k=>B1 k∨B2 k) w B1 B2 w3.drew):=HSTT.out.later (undrewR2 (Below.refl _ _))
    have d4:w3.cell? ⟨w.heap.size,4,none⟩=some (.int .i64 p.id):=HSTT.out.box.cell 4
    go_upto_region 22 with (fail)
    go_region_held3 (fun w'=>w'.cell? ⟨w.heap.size,4,none⟩=some (.int .i64 p.id))
     (first
      | exact HU3.out.box.cell 4
      | exact HU1.out.box.cell 4
      | exact HSD.out.box.cell 4
      | fail)
     (first
      | (have hx:=HU1.out;clear hx;go_at_call 19;refine (HU1.out.appendR HG0.out p.id).mono ?_;rintro e1 w7 ⟨rfl,B2',HU3⟩)
      | (go_at_call 17;refine (HSD.out.appendT HG0.out p.id).mono ?_;rintro e1 w5 ⟨rfl,B1',HU1⟩)
      | fail)
    go_wp2_with fail
    go_meet
    case rel=>exact ⟨_,_,B1',B2',rfl,rfl,⟨Tr.append_good HG0.out p.id x,fun h=>Tr.append_short h p.id x⟩,HU3.out⟩
  have n6:(kd==6)=false:=by rw [beq_eq_false_iff_ne];exact k6
  clear k6
  by_cases k7:kd=7
  ·subst k7
   as_aux_lemma =>
    have d4:w3.cell? ⟨w.heap.size,4,none⟩=some (.int .i64 p.id):=HSTT.out.box.cell 4
    have d5:w3.cell? ⟨w.heap.size,5,none⟩=some (.int .i64 p.a):=HSTT.out.box.cell 5
    have d6:w3.cell? ⟨w.heap.size,6,none⟩=some (.int .i64 p.m):=HSTT.out.box.cell 6
    go_wp2_with fail
    refine (HSTT.out.readT HG0.out p.id p.a p.m HPF.out.ia HPF.out.im).mono ?_
    rintro e w5 ⟨y,rfl,hf5,hb5⟩
    obtain ⟨Y,cy,rfl,hyc,hry,_⟩:=hf5.form
    have HU1:=Lib.hid (HSTT.out.later hb5)
    clear d4 d5 d6
    have d4:w5.cell? ⟨w.heap.size,4,none⟩=some (.int .i64 p.id):=HU1.out.box.cell 4
    have d5:w5.cell? ⟨w.heap.size,5,none⟩=some (.int .i64 p.a):=HU1.out.box.cell 5
    have d6:w5.cell? ⟨w.heap.size,6,none⟩=some (.int .i64 p.m):=HU1.out.box.cell 6
    clear hf5 hb5
    have HRY:=Lib.hid hry
    clear hry
    go_wp2_with fail
    refine (HU1.out.readR HG0.out p.id p.a p.m HPF.out.ia HPF.out.im).mono ?_
    rintro e w7 ⟨Z,cz,rfl,hzc,hrz,rfl⟩
    have st1:=Ob.str_run w7 Y (Tr.read Tt p.id p.a p.m).1 cy HRY.out
    have st2:=Ob.str_run w7 Z (Tr.read Tt p.id p.a p.m).1 cz hrz
    have seq:((strOf (Tr.read Tt p.id p.a p.m).1).toList==(strOf (Tr.read Tt p.id p.a p.m).1).toList)=true:=by simp
    clear d4 d5 d6
    clear hrz
    go_wp2_with fail
    go_meet
    case rel=>exact ⟨_,Tt,B1,B2,rfl,rfl,⟨HG0.out,id⟩,HU1.out⟩
  have n7:(kd==7)=false:=by rw [beq_eq_false_iff_ne];exact k7
  clear k7
  by_cases k8:kd=8
  ·subst k8
   as_aux_lemma =>
    have HSD:Hid (St v r Tt Tt w.heap.size p.cells A A2 q q2 p.X x c c2 p.cb (fun k=>B1 k∨B2 k) w B1 B2 w3.drew):=HSTT.out.later (undrewR2 (Below.refl _ _))
    have d4:w3.cell? ⟨w.heap.size,4,none⟩=some (.int .i64 p.id):=HSTT.out.box.cell 4
    have d8:w3.cell? ⟨w.heap.size,8,none⟩=some (.int .u64 (p.u:Nat)):=HSTT.out.box.cell 8
    go_upto_region 30 with (fail)
    go_region_held3 (fun w'=>w'.cell? ⟨w.heap.size,4,none⟩=some (.int .i64 p.id)∧w'.cell? ⟨w.heap.size,8,none⟩=some (.int .u64 (p.u:Nat)))
     (first
      | exact ⟨HU3.out.box.cell 4,HU3.out.box.cell 8⟩
      | exact ⟨HU1.out.box.cell 4,HU1.out.box.cell 8⟩
      | exact ⟨HSD.out.box.cell 4,HSD.out.box.cell 8⟩
      | fail)
     (first
      | (have hx:=HU1.out;clear hx;go_at_call 21;refine (HU1.out.sealR HG0.out p.id p.u HPF.out.iu).mono ?_;rintro e1 w7 ⟨rfl,B2',HU3⟩)
      | (go_at_call 20;refine (HSD.out.sealT HG0.out p.id p.u HPF.out.iu).mono ?_;rintro e1 w5 ⟨rfl,B1',HU1⟩)
      | fail)
    go_wp2_with fail
    go_meet
    case rel=>exact ⟨_,_,B1',B2',rfl,rfl,⟨Tr.seal_good HG0.out p.id p.u,fun h=>Tr.seal_short h p.id p.u⟩,HU3.out⟩
  have n8:(kd==8)=false:=by rw [beq_eq_false_iff_ne];exact k8
  clear k8
  by_cases k9:kd=9
  ·subst k9
   as_aux_lemma =>
    have HSD:Hid (St v r Tt Tt w.heap.size p.cells A A2 q q2 p.X x c c2 p.cb (fun k=>B1 k∨B2 k) w B1 B2 w3.drew):=HSTT.out.later (undrewR2 (Below.refl _ _))
    have d4:w3.cell? ⟨w.heap.size,4,none⟩=some (.int .i64 p.id):=HSTT.out.box.cell 4
    have d8:w3.cell? ⟨w.heap.size,8,none⟩=some (.int .u64 (p.u:Nat)):=HSTT.out.box.cell 8
    go_upto_region 33 with (fail)
    go_region_held3 (fun w'=>w'.cell? ⟨w.heap.size,4,none⟩=some (.int .i64 p.id)∧w'.cell? ⟨w.heap.size,8,none⟩=some (.int .u64 (p.u:Nat)))
     (first
      | exact ⟨HU3.out.box.cell 4,HU3.out.box.cell 8⟩
      | exact ⟨HU1.out.box.cell 4,HU1.out.box.cell 8⟩
      | exact ⟨HSD.out.box.cell 4,HSD.out.box.cell 8⟩
      | fail)
     (first
      | (have hx:=HU1.out;clear hx;go_at_call 23;refine (HU1.out.keepR HG0.out p.id p.u HPF.out.iu).mono ?_;rintro e1 w7 ⟨rfl,B2',HU3⟩)
      | (go_at_call 22;refine (HSD.out.keepT HG0.out p.id p.u HPF.out.iu).mono ?_;rintro e1 w5 ⟨rfl,B1',HU1⟩)
      | fail)
    go_wp2_with fail
    go_meet
    case rel=>exact ⟨_,_,B1',B2',rfl,rfl,⟨Tr.keep_good HG0.out p.id p.u,fun h=>Tr.keep_short h p.id p.u⟩,HU3.out⟩
  have n9:(kd==9)=false:=by rw [beq_eq_false_iff_ne];exact k9
  clear k9
  by_cases k10:kd=10
  ·subst k10
   as_aux_lemma =>
    have HSD:Hid (St v r Tt Tt w.heap.size p.cells A A2 q q2 p.X x c c2 p.cb (fun k=>B1 k∨B2 k) w B1 B2 w3.drew):=HSTT.out.later (undrewR2 (Below.refl _ _))
    have d4:w3.cell? ⟨w.heap.size,4,none⟩=some (.int .i64 p.id):=HSTT.out.box.cell 4
    go_upto_region 36 with (fail)
    go_region_held3 (fun w'=>w'.cell? ⟨w.heap.size,4,none⟩=some (.int .i64 p.id))
     (first
      | exact HU3.out.box.cell 4
      | exact HU1.out.box.cell 4
      | exact HSD.out.box.cell 4
      | fail)
     (first
      | (have hx:=HU1.out;clear hx;go_at_call 27;refine (HU1.out.dropR HG0.out p.id).mono ?_;rintro e1 w7 ⟨rfl,B2',HU3⟩)
      | (go_at_call 26;refine (HSD.out.dropT HG0.out p.id).mono ?_;rintro e1 w5 ⟨rfl,B1',HU1⟩)
      | fail)
    go_wp2_with fail
    go_meet
    case rel=>exact ⟨_,_,B1',B2',rfl,rfl,⟨Tr.drop_good HG0.out p.id,fun h=>Tr.drop_short h p.id⟩,HU3.out⟩
  have n10:(kd==10)=false:=by rw [beq_eq_false_iff_ne];exact k10
  clear k10
  go_wp2_with fail
  go_meet
  case rel=>exact ⟨_,Tt,B1,B2,rfl,rfl,⟨HG0.out,id⟩,HSTT.out⟩
 case rest =>
 obtain ⟨w9,T',B1',B2',hw9,rfl,HG',HS9⟩:=hcut
 subst hw9
 clear c0 HSTT HG0 HQS
 obtain ⟨⟨⟨a1,a2,a3,a4,a5,a6⟩,fo⟩,hnv⟩:∃ z,Tr.node T' p.id=z:=⟨_,rfl⟩
 have HNV:=Lib.hid hnv
 have HNT:Hid (∀ Ba Bb W,St v r T' T' w.heap.size p.cells A A2 q q2 p.X x c c2 p.cb (fun k=>B1 k∨B2 k) w Ba Bb W→Calls Tryz.prog 83 #[v,.int .i64 p.id] W fun e w'=>e=.returned (.tuple #[.agg #[.int .i64 a1,.int .i64 a2,.int .i64 a3,.int .i64 a4,.int .u64 (a5:Nat),.bool a6],.bool fo])∧Below W.heap.size W w'):=fun Ba Bb W hW=>by
  have h:=hW.nodeT HG'.out.1 p.id
  rw [show Tr.node T' p.id=_ from HNV.out] at h
  exact h
 have HNR:Hid (∀ Ba Bb W,St v r T' T' w.heap.size p.cells A A2 q q2 p.X x c c2 p.cb (fun k=>B1 k∨B2 k) w Ba Bb W→Calls Tryz.prog 35 #[r,.int .i64 p.id] W fun e w'=>e=.returned (.tuple #[.agg #[.int .i64 a1,.int .i64 a2,.int .i64 a3,.int .i64 a4,.int .u64 (a5:Nat),.bool a6],.bool fo])∧Below W.heap.size W w'):=fun Ba Bb W hW=>by
  have h:=hW.nodeR HG'.out.1 p.id
  rw [show Tr.node T' p.id=_ from HNV.out] at h
  exact h
 obtain ⟨⟨li,ln⟩,hlv⟩:∃ z,Tr.list T' p.id=z:=⟨_,rfl⟩
 have HLV:=Lib.hid hlv
 clear hnv hlv
 go_wp2_with fail
 refine (HS9.out.lookT HG'.out.1).mono ?_
 rintro e w10 ⟨rfl,hb10⟩
 have HS10:=Lib.hid (HS9.out.later hb10)
 clear hb10 HS9
 go_wp2_with fail
 refine (HS10.out.lookR HG'.out.1).mono ?_
 rintro e w11 ⟨rfl,hb11⟩
 have HS11:=Lib.hid (HS10.out.later hb11)
 clear hb11 HS10
 obtain ⟨lk,hlk⟩:∃ lk,lk=Tr.look T' q:=⟨_,rfl⟩
 rw [← hlk]
 clear hlk
 have d4:w11.cell? ⟨w.heap.size,4,none⟩=some (.int .i64 p.id):=HS11.out.box.cell 4
 go_wp2_with fail
 refine (HNT.out _ _ _ HS11.out).mono ?_
 rintro e w12 ⟨rfl,hb12⟩
 have HS12:=Lib.hid (HS11.out.later hb12)
 clear hb12 HS11 d4
 obtain ⟨wa,hwa⟩:∃ wa,wa=w12.alloc (.cells #[.int .i64 a1,.int .i64 a2,.int .i64 a3,.int .i64 a4,.int .u64 (a5:Nat),.bool a6] 59):=⟨_,rfl⟩
 have HSa:Hid (St v r T' T' w.heap.size p.cells A A2 q q2 p.X x c c2 p.cb (fun k=>B1 k∨B2 k) w B1' B2' wa):=by show St _ _ _ _ _ _ _ _ _ _ _ _ _ _ _ _ _ _ _ _;rw [hwa];exact HS12.out.later (bN w12 _)
 have HKa:Hid (Blk wa w12.heap.size 59 [.int .i64 a1,.int .i64 a2,.int .i64 a3,.int .i64 a4,.int .u64 (a5:Nat),.bool a6]):=by show Blk _ _ _ _;rw [hwa];exact Blk.new w12 _ _
 go_upto_region 41 with (fail)
 rw [← hwa]
 clear hwa HS12
 have d4:wa.cell? ⟨w.heap.size,4,none⟩=some (.int .i64 p.id):=HSa.out.box.cell 4
 go_wp2_with fail
 refine (HNR.out _ _ _ HSa.out).mono ?_
 rintro e w13 ⟨rfl,hb13⟩
 have HS13:=Lib.hid (HSa.out.later hb13)
 have HK13:Hid (Blk w13 w12.heap.size 59 [.int .i64 a1,.int .i64 a2,.int .i64 a3,.int .i64 a4,.int .u64 (a5:Nat),.bool a6]):=HKa.out.below hb13 HKa.out.lt
 clear hb13 HSa HKa d4
 obtain ⟨wb,hwb⟩:∃ wb,wb=w13.alloc (.cells #[.int .i64 a1,.int .i64 a2,.int .i64 a3,.int .i64 a4,.int .u64 (a5:Nat),.bool a6] 59):=⟨_,rfl⟩
 have HSb:Hid (St v r T' T' w.heap.size p.cells A A2 q q2 p.X x c c2 p.cb (fun k=>B1 k∨B2 k) w B1' B2' wb):=by show St _ _ _ _ _ _ _ _ _ _ _ _ _ _ _ _ _ _ _ _;rw [hwb];exact HS13.out.later (bN w13 _)
 have HKb:Hid (Blk wb w12.heap.size 59 [.int .i64 a1,.int .i64 a2,.int .i64 a3,.int .i64 a4,.int .u64 (a5:Nat),.bool a6]∧Blk wb w13.heap.size 59 [.int .i64 a1,.int .i64 a2,.int .i64 a3,.int .i64 a4,.int .u64 (a5:Nat),.bool a6]):=by
  rw [hwb]
  exact ⟨HK13.out.below (bN w13 _) HK13.out.lt,Blk.new w13 _ _⟩
 go_upto_region 42 with (fail)
 rw [← hwb]
 clear hwb HS13 HK13
 have d4:wb.cell? ⟨w.heap.size,4,none⟩=some (.int .i64 p.id):=HSb.out.box.cell 4
 have hlt:=HSb.out.listT HG'.out.1 p.id
 rw [show Tr.list T' p.id=_ from HLV.out] at hlt
 have HLT:=Lib.hid hlt
 clear hlt
 go_wp2_with fail
 refine HLT.out.mono ?_
 rintro e w14 ⟨x14,rfl,ht14⟩
 obtain ⟨Y,cy,rfl,_,hry⟩:=ht14.form
 have HS14:=Lib.hid (HSb.out.later ht14.later)
 have HK14:Hid (Blk w14 w12.heap.size 59 [.int .i64 a1,.int .i64 a2,.int .i64 a3,.int .i64 a4,.int .u64 (a5:Nat),.bool a6]∧Blk w14 w13.heap.size 59 [.int .i64 a1,.int .i64 a2,.int .i64 a3,.int .i64 a4,.int .u64 (a5:Nat),.bool a6]):=⟨HKb.out.1.below ht14.later HKb.out.1.lt,HKb.out.2.below ht14.later HKb.out.2.lt⟩
 have HRY:=Lib.hid hry
 clear ht14 HSb HKb d4 hry HLT
 have d4:w14.cell? ⟨w.heap.size,4,none⟩=some (.int .i64 p.id):=HS14.out.box.cell 4
 have hlr:=HS14.out.listR HG'.out.1 p.id
 rw [show Tr.list T' p.id=_ from HLV.out] at hlr
 have HLR:=Lib.hid hlr
 clear hlr
 go_wp2_with fail
 refine HLR.out.mono ?_
 rintro e w15 ⟨x15,rfl,ht15⟩
 obtain ⟨Z,cz,rfl,_,hrz⟩:=ht15.form
 have HS15:=Lib.hid (HS14.out.later ht15.later)
 have HK15:Hid (Blk w15 w12.heap.size 59 [.int .i64 a1,.int .i64 a2,.int .i64 a3,.int .i64 a4,.int .u64 (a5:Nat),.bool a6]∧Blk w15 w13.heap.size 59 [.int .i64 a1,.int .i64 a2,.int .i64 a3,.int .i64 a4,.int .u64 (a5:Nat),.bool a6]):=⟨HK14.out.1.below ht15.later HK14.out.1.lt,HK14.out.2.below ht15.later HK14.out.2.lt⟩
 have HRZ:Hid (RdS w15 Y li∧RdS w15 Z li):=⟨HRY.out.below ht15.later,hrz⟩
 have HLL:Hid (li.length≤1000000000):=by
  have h1:li=(Tr.list T' p.id).1:=by rw [show Tr.list T' p.id=_ from HLV.out]
  have h2:(Tr.list T' p.id).1.length≤4194240:=by
   unfold Tr.list
   split
   ·exact Nat.zero_le _
   ·split
    ·exact Nat.zero_le _
    ·rename_i h3 h4
     obtain ⟨en,hen⟩:=HG'.out.1.has (Decidable.byContradiction h4)
     rw [Tr.kids_of hen,List.length_map]
     exact HG'.out.1.names_le (Tr.find_some hen).1
  show _≤_
  rw [h1];omega
 clear ht15 HS14 HK14 d4 hrz HLR HRY
 obtain ⟨pr,Yr,dr,hr0,cr0⟩:=HS15.out.refcell
 subst hr0
 have heq:∀ W,(binOp .eql 59 (.agg #[.int .i64 a1,.int .i64 a2,.int .i64 a3,.int .i64 a4,.int .u64 (a5:Nat),.bool a6]) (.agg #[.int .i64 a1,.int .i64 a2,.int .i64 a3,.int .i64 a4,.int .u64 (a5:Nat),.bool a6])).run Tryz.prog W=.ok (.bool true) W:=fun W=>nd_eql ⟨a1,a2,a3,a4,a5,a6⟩ W
 have HCS:Hid (∀ W,Below w15.heap.size w15 W→(W.cell? ⟨w12.heap.size,0,none⟩=some (.int .i64 a1)∧W.cell? ⟨w12.heap.size,1,none⟩=some (.int .i64 a2)∧W.cell? ⟨w12.heap.size,2,none⟩=some (.int .i64 a3)∧W.cell? ⟨w12.heap.size,3,none⟩=some (.int .i64 a4)∧W.cell? ⟨w12.heap.size,4,none⟩=some (.int .u64 (a5:Nat))∧W.cell? ⟨w12.heap.size,5,none⟩=some (.bool a6))∧(W.cell? ⟨w13.heap.size,0,none⟩=some (.int .i64 a1)∧W.cell? ⟨w13.heap.size,1,none⟩=some (.int .i64 a2)∧W.cell? ⟨w13.heap.size,2,none⟩=some (.int .i64 a3)∧W.cell? ⟨w13.heap.size,3,none⟩=some (.int .i64 a4)∧W.cell? ⟨w13.heap.size,4,none⟩=some (.int .u64 (a5:Nat))∧W.cell? ⟨w13.heap.size,5,none⟩=some (.bool a6))∧W.cell? ⟨pr,0,none⟩=some (.slice Yr T'.length dr)):=fun W hW=>by
  have h1:=HK15.out.1.below hW HK15.out.1.lt
  have h2:=HK15.out.2.below hW HK15.out.2.lt
  have h3:=(HS15.out.later hW).r
  obtain ⟨p',nv,dv,ev,D,hp',H,_⟩:=h3
  injection hp' with hp'
  injection hp' with hp'
  injection hp' with hp'
  subst hp'
  obtain ⟨p2,nv2,dv2,ev2,D2,hp2,H2,_⟩:=HS15.out.r
  injection hp2 with hp2
  injection hp2 with hp2
  injection hp2 with hp2
  subst hp2
  refine ⟨⟨h1.cell 0,h1.cell 1,h1.cell 2,h1.cell 3,h1.cell 4,h1.cell 5⟩,⟨h2.cell 0,h2.cell 1,h2.cell 2,h2.cell 3,h2.cell 4,h2.cell 5⟩,?_⟩
  exact (hW.cell (p:=⟨pr,0,none⟩) H2.in_.box.lt).trans cr0
 have HSM:Hid (∀ W,Below w15.heap.size w15 W→Calls Tryz.prog 37 #[.slice Y li.length cy,.slice Z li.length cz] W fun e w'=>e=.returned (.bool true)∧Below W.heap.size W w'):=fun W hW=>by
  have h:=sameS_any W li li Y Z cy cz (HRZ.out.1.below hW) (HRZ.out.2.below hW) HLL.out HLL.out
  rw [decide_eq_true rfl] at h
  exact h
 have HCT:Hid (∀ W,Below w15.heap.size w15 W→Calls Tryz.prog 40 #[v] W fun e w'=>e=.returned (.int .i64 (T'.length:Nat))∧w'=W):=fun W hW=>(HS15.out.later hW).count
 have HBD:Hid (Below w15.heap.size w15 w15.drew):=undrewR2 (Below.refl _ _)
 have HEND:Hid (∀ W,Below w15.heap.size w15 W→∃ T' B1' B2',Tr.Good T'∧(Tr.Short Tt→Tr.Short T')∧Tm.TAt v T' B1' W∧Rf.RAt (.pointer (some ⟨pr,0,none⟩)) T' B2' W∧(∀ k,B1' k→¬ B2' k)∧Mod w W (fun k=>B1 k∨B2 k)∧∀ k,B1' k∨B2' k→(B1 k∨B2 k)∨w.heap.size≤k):=fun W hW=>by
  have h:=HS15.out.later hW
  exact ⟨T',B1',B2',HG'.out.1,HG'.out.2,h.t,h.r,h.ap,h.mod,h.sub⟩
 clear cr0 HS15 HK15 HRZ HNV HLV HNT HNR HG' HLL
 obtain ⟨k1,k2,k3⟩:=HCS.out _ HBD.out
 go_upto_region 44 with (fail)
 go_region_held3 (fun w'=>(w'.cell? ⟨w12.heap.size,0,none⟩=some (.int .i64 a1)∧w'.cell? ⟨w12.heap.size,1,none⟩=some (.int .i64 a2)∧w'.cell? ⟨w12.heap.size,2,none⟩=some (.int .i64 a3)∧w'.cell? ⟨w12.heap.size,3,none⟩=some (.int .i64 a4)∧w'.cell? ⟨w12.heap.size,4,none⟩=some (.int .u64 (a5:Nat))∧w'.cell? ⟨w12.heap.size,5,none⟩=some (.bool a6))∧(w'.cell? ⟨w13.heap.size,0,none⟩=some (.int .i64 a1)∧w'.cell? ⟨w13.heap.size,1,none⟩=some (.int .i64 a2)∧w'.cell? ⟨w13.heap.size,2,none⟩=some (.int .i64 a3)∧w'.cell? ⟨w13.heap.size,3,none⟩=some (.int .i64 a4)∧w'.cell? ⟨w13.heap.size,4,none⟩=some (.int .u64 (a5:Nat))∧w'.cell? ⟨w13.heap.size,5,none⟩=some (.bool a6))∧w'.cell? ⟨pr,0,none⟩=some (.slice Yr T'.length dr))
  (first
   | exact HCS.out _ HB16.out
   | exact HCS.out _ HBD.out
   | fail)
  (first
   | (have hx:=HB16.out;clear hx;go_at_call 40;refine (HCT.out _ HB16.out).mono ?_;rintro e1 w17 ⟨rfl,rfl⟩)
   | (go_at_call 37;refine (HSM.out _ HBD.out).mono ?_;rintro e1 w16 ⟨rfl,hb16⟩;have HB16:Hid (Below w15.heap.size w15 w16):=HBD.out.trans (Below.mono hb16 HBD.out.size);clear hb16)
   | fail)
 go_wp2_with fail
 go_ret
 exact ⟨rfl,HEND.out _ HB16.out⟩
end Tw
end Go.Proofs.YtjoedamiilgajaaGreat
