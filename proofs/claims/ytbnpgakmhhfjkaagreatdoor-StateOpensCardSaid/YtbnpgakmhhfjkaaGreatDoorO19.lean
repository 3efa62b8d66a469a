/-
  OWN WORK. StDoF, StDoG, KpPure, StTame, StDo, StNew, StKnown, StOpenL, TrMoves, StOpens, PtWithin, StOpensL
-/
import Derived.Test.YtbnpgakmhhfjkaaGreatDoorO16
import Derived.Test.YtbnpgakmhhfjkaaGreatDoorO18
import Derived.Test.YtbnpgakmhhfjkaaGreatDoorO15
import Derived.Test.YtbnpgakmhhfjkaaGreatDoorO17
import Derived.Test.YtbnpgakmhhfjkaaGreatDoorO13
import Derived.Test.YtbnpgakmhhfjkaaGreatDoorO01
import Derived.Test.YtbnpgakmhhfjkaaGreatDoorO14
import Derived.Test.YtbnpgakmhhfjkaaGreatDoorO06
import Derived.Test.YtbnpgakmhhfjkaaGreatDoorO03
import Derived.Deep.CutBlock
namespace Go.Proofs.YtbnpgakmhhfjkaaGreatDoor
open Go.RowKit Rc
open Tr (Nm En T)
open Tm (tobj)
open Sn (sobj)
open St (alone)
namespace Sm
variable {p:Nat} {tv sv:Value} {qs:List Value} {B1 B2 D:Nat→Prop} {s:St.State} {w w':World}
set_option maxHeartbeats 4000000 in
set_option maxRecDepth 100000 in
theorem do_15 (h:StIn p tv sv qs B1 B2 D s w) (hO:St.Ok s) (o:St.Opn) (hk1:o.kind=15) (A0:Option Addr) (c0:Nat) (h1:o.path.length≤9223372036854775807) (h2:o.dest.length≤9223372036854775807) :
    Calls Tryz.prog 15 #[.pointer (some ⟨p,0,none⟩),opV o (.slice A0 o.data.length c0)] w (DoAns (.pointer (some ⟨p,0,none⟩)) s o (StS p B1 B2 D) w):=by
 have HPA:Hid (∀ W,Calls Tryz.prog 38 #[opV o (.slice A0 o.data.length c0)] W (PAns o W)):=fun W=>paths_any o A0 o.data.length c0 W h1 h2
 have HDO:Hid (St.do_ s o=if (St.paths o).2.2≠0 then (St.no (St.paths o).2.2,s) else (St.no (Sn.forget s.snaps o.snap s.now).1,{ s with snaps:=(Sn.forget s.snaps o.snap s.now).2 })):=by
  show _=_
  unfold St.do_
  rw [hk1]
  rw [if_neg (by decide:¬ (15:Int)=1),if_neg (by decide:¬ (15:Int)=2),if_neg (by decide:¬ (15:Int)=3),if_neg (by decide:¬ (15:Int)=4),if_neg (by decide:¬ (15:Int)=5),if_neg (by decide:¬ (15:Int)=6),if_neg (by decide:¬ (15:Int)=7),if_neg (by decide:¬ (15:Int)=8),if_neg (by decide:¬ (15:Int)=9),if_neg (by decide:¬ (15:Int)=10),if_neg (by decide:¬ (15:Int)=11),if_neg (by decide:¬ (15:Int)=12),if_neg (by decide:¬ (15:Int)=13),if_neg (by decide:¬ (15:Int)=14),if_pos rfl]
 obtain ⟨P,hP⟩:∃ P,P=St.paths o:=⟨_,rfl⟩
 have HPP:Hid (∀ e W W',PAns o W e W'→∃ A c A2 c2,e=.returned (.tuple #[.slice A P.1.length c,.slice A2 P.2.1.length c2,.int .i64 (P.2.2:Nat)])∧Way W' A P.1 c∧Way W' A2 P.2.1 c2∧Below W.heap.size W W'):=fun e W W' hh=>by rw [hP];exact hh
 rw [← hP] at HDO
 obtain ⟨p1,p2,pc⟩:=P
 dsimp only at HPP HDO
 clear hP h1 h2
 obtain ⟨kind,path,dest,fd,at_,n,till,snap,data⟩:=o
 dsimp only at hk1 HDO
 subst hk1
 obtain ⟨tp,rfl⟩:=tobj.ptr h.tr
 obtain ⟨sp,rfl⟩:=sobj.ptr h.sn
 obtain ⟨V0,hV0⟩:∃ V0,V0=w.alloc (.cells #[.int .i64 15,.string (strOf path),.string (strOf dest),.int .i64 fd,.int .i64 at_,.int .i64 n,.int .u64 (till:Nat),.int .i64 snap,.slice A0 data.length c0] 36):=⟨_,rfl⟩
 obtain ⟨go,hgo⟩:∃ go,go=w.heap.size:=⟨_,rfl⟩
 have HOP:Hid (Blk V0 go 36 [.int .i64 15,.string (strOf path),.string (strOf dest),.int .i64 fd,.int .i64 at_,.int .i64 n,.int .u64 (till:Nat),.int .i64 snap,.slice A0 data.length c0]):=by show Blk _ _ _ _;rw [hV0,hgo];exact Blk.new w _ _
 have hbv:Below w.heap.size w V0:=by rw [hV0];exact below_new w _
 obtain ⟨W0,hW0⟩:∃ W0,W0=V0.alloc (.cells #[.int .i64 0,.int .i64 0,.slice none 0 0,.slice none 0 0,.int .i64 0,.int .i64 0,.int .i64 0,.int .i64 0,.int .u64 0,.bool false] 33):=⟨_,rfl⟩
 obtain ⟨g,hg⟩:∃ g,g=V0.heap.size:=⟨_,rfl⟩
 have HZ0:Hid (Blk W0 g 33 [.int .i64 0,.int .i64 0,.slice none 0 0,.slice none 0 0,.int .i64 0,.int .i64 0,.int .i64 0,.int .i64 0,.int .u64 0,.bool false]):=by show Blk _ _ _ _;rw [hW0,hg];exact Blk.new V0 _ _
 have hbw:Below V0.heap.size V0 W0:=by rw [hW0];exact below_new V0 _
 have HB0:Hid (Below w.heap.size w W0):=hbv.trans (hbw.mono hbv.size)
 have HOP0:Hid (Blk W0 go 36 [.int .i64 15,.string (strOf path),.string (strOf dest),.int .i64 fd,.int .i64 at_,.int .i64 n,.int .u64 (till:Nat),.int .i64 snap,.slice A0 data.length c0]):=HOP.out.below hbw HOP.out.lt
 have HGG:Hid (w.heap.size≤g):=by show _≤_;rw [hg];exact hbv.size
 have HNG:Hid (¬ StS p B1 B2 D g):=fun h9=>by
  have:=h.lt h9
  have h8:w.heap.size≤g:=HGG.out
  omega
 have HN0:Hid (Nw p (.pointer (some tp)) (.pointer (some sp)) qs w (StS p B1 B2 D) B1 B2 D s W0):=(Nw.start h).later HB0.out
 have HO:=Lib.hid hO
 clear h hO hbv hbw HOP
 have o0:=HOP0.out.cell 0
 have o1:=HOP0.out.cell 1
 have o2:=HOP0.out.cell 2
 have o3:=HOP0.out.cell 3
 have o4:=HOP0.out.cell 4
 have o5:=HOP0.out.cell 5
 have o6:=HOP0.out.cell 6
 have o7:=HOP0.out.cell 7
 have o8:=HOP0.out.cell 8
 go_enter Tryz.func15,Tryz.ntmps15
 go_upto_region 1 with (fail)
 unfold opV
 dsimp only
 rw [← hV0,← hW0,← hgo,show go+1=g by rw [hg,hV0,World.size_alloc,hgo]]
 clear hV0 hgo hW0 hg
 go_wp2_with fail
 refine (HPA.out W0).mono ?_
 intro e w1 hpa
 obtain ⟨A,c,A2,c2,rfl,hw1,hw2,hb1⟩:=HPP.out _ _ _ hpa
 have HZ1:Hid (Blk w1 g 33 [.int .i64 0,.int .i64 0,.slice none 0 0,.slice none 0 0,.int .i64 0,.int .i64 0,.int .i64 0,.int .i64 0,.int .u64 0,.bool false]):=HZ0.out.below hb1 HZ0.out.lt
 have HN1:Hid (Nw p (.pointer (some tp)) (.pointer (some sp)) qs w (StS p B1 B2 D) B1 B2 D s w1):=HN0.out.later hb1
 have HB1:Hid (Below w.heap.size w w1):=HB0.out.trans (hb1.mono HB0.out.size)
 have HOP1:Hid (Blk w1 go 36 [.int .i64 15,.string (strOf path),.string (strOf dest),.int .i64 fd,.int .i64 at_,.int .i64 n,.int .u64 (till:Nat),.int .i64 snap,.slice A0 data.length c0]):=HOP0.out.below hb1 HOP0.out.lt
 have HW1:=Lib.hid hw1
 have HW2:=Lib.hid hw2
 clear hpa hw1 hw2 hb1 HPA HPP HZ0 HN0 HOP0 HB0 o0 o1 o2 o3 o4 o5 o6 o7 o8
 have o0:=HOP1.out.cell 0
 by_cases hc:pc=0
 rotate_left
 ·have hci:((pc:Int)==0)=false:=by rw [beq_eq_false_iff_ne];omega
  have HQ:Hid (St.do_ s ⟨15,path,dest,fd,at_,n,till,snap,data⟩=(St.no pc,s)):=by show _=_;rw [HDO.out,if_pos hc]
  clear hc HDO
  obtain⟨g0,e0,g1,e1,g2,e2,g3,e3,g4,e4,g5,e5,g6,e6,g7,e7,g8,e8,g9,e9⟩:=cells10 HZ1.out
  go_wp2_with fail
  refine bodyPost_ret (results_blk rfl _ _ g 33 (repL (pc:Nat) 0) _ rfl (set10_blk HZ1.out _ _ _ _ _ _ _ _ _ _) rfl rfl rfl) rfl ?_
  refine DoAns.of_turns (by rw [HQ.out];exact plain_no _) ?_
  rw [HQ.out]
  exact (HN1.out.poke (set10_mod _ _ _ _ _ _ _ _ _ _ _ _) HNG.out HGG.out).done _
 subst hc
 have HQ:Hid (St.do_ s ⟨15,path,dest,fd,at_,n,till,snap,data⟩=(St.no (Sn.forget s.snaps snap s.now).1,{ s with snaps:=(Sn.forget s.snaps snap s.now).2 })):=HDO.out
 clear HDO
 have c1:w1.cell? ⟨p,1,none⟩=some (.pointer (some sp)):=HN1.out.in_.box.cell 1
 have c2:w1.cell? ⟨p,2,none⟩=some (.int .u64 (s.now:Nat)):=HN1.out.in_.box.cell 2
 have o7:=HOP1.out.cell 7
 obtain ⟨re,hre⟩:∃ re,re=(Sn.forget s.snaps snap s.now).1:=⟨_,rfl⟩
 have HRE:=Lib.hid hre
 have hbd:Below w1.heap.size w1 w1.drew:=below_drew w1
 obtain ⟨wd,hwd⟩:∃ wd,wd=w1.drew:=⟨_,rfl⟩
 rw [← hwd] at hbd
 have HND:Hid (Nw p (.pointer (some tp)) (.pointer (some sp)) qs w (StS p B1 B2 D) B1 B2 D s wd):=HN1.out.later hbd
 have HZD:Hid (Blk wd g 33 [.int .i64 0,.int .i64 0,.slice none 0 0,.slice none 0 0,.int .i64 0,.int .i64 0,.int .i64 0,.int .i64 0,.int .u64 0,.bool false]):=HZ1.out.below hbd HZ1.out.lt
 have HAFT:Hid (∀ e w3 x t',Ob.Turns sobj (.pointer (some sp)) t' x B2 wd e w3→e=.returned x∧∃ B2',Hid (Nw p (.pointer (some tp)) (.pointer (some sp)) qs w (StS p B1 B2 D) B1 B2' D { s with snaps:=t' } w3)∧Hid (Blk w3 g 33 [.int .i64 0,.int .i64 0,.slice none 0 0,.slice none 0 0,.int .i64 0,.int .i64 0,.int .i64 0,.int .i64 0,.int .u64 0,.bool false])∧Hid (¬ StS p B1 B2' D g)):=fun e w3 x t' ht=>by
  have hmod:Mod wd w3 B2:=by obtain ⟨_,_,_,h2,_⟩:=ht;exact h2
  obtain ⟨rfl,B2',hn3,hgr⟩:=HND.out.turnS ht
  exact ⟨rfl,B2',hn3,(hmod.block g HZD.out.lt fun h9=>HNG.out (.inr (.inr (.inl h9)))).trans HZD.out,fun h9=>by
   rcases hgr g h9 with h4|h4
   ·exact HNG.out h4
   ·have:=HZD.out.lt
    omega⟩
 have HM:=Lib.hid (Sn.so_forget HND.out.in_.sn HO.out.snaps snap s.now)
 rw [← hre] at HM
 clear hre hbd
 go_upto_region 35 with (fail)
 go_still_tail 10,(by kernel_rfl)
 change wpList _ _ _ _ _ w1.drew
 rw [← hwd]
 clear hwd
 go_wp2_with fail
 refine HM.out.mono ?_
 intro e w2 ht
 obtain ⟨rfl,B2',HN2,HZ2,HNG2⟩:=HAFT.out _ _ _ _ ht
 clear ht HM HAFT o0 o7 c1 c2
 obtain⟨g0,e0,g1,e1,g2,e2,g3,e3,g4,e4,g5,e5,g6,e6,g7,e7,g8,e8,g9,e9⟩:=cells10 HZ2.out
 go_wp2_with fail
 refine bodyPost_ret (results_blk rfl _ _ g 33 (repL (re:Nat) 0) _ rfl (set10_blk HZ2.out _ _ _ _ _ _ _ _ _ _) rfl rfl rfl) rfl ?_
 refine DoAns.of_turns (by rw [HQ.out];exact plain_no _) ?_
 rw [HQ.out,HRE.out]
 exact (HN2.out.poke (set10_mod _ _ _ _ _ _ _ _ _ _ _ _) HNG2.out HGG.out).done _
set_option maxHeartbeats 4000000 in
set_option maxRecDepth 100000 in
theorem do_17 (h:StIn p tv sv qs B1 B2 D s w) (hO:St.Ok s) (o:St.Opn) (hk1:o.kind=17) (A0:Option Addr) (c0:Nat) (h1:o.path.length≤9223372036854775807) (h2:o.dest.length≤9223372036854775807) :
    Calls Tryz.prog 15 #[.pointer (some ⟨p,0,none⟩),opV o (.slice A0 o.data.length c0)] w (DoAns (.pointer (some ⟨p,0,none⟩)) s o (StS p B1 B2 D) w):=by
 have HPA:Hid (∀ W,Calls Tryz.prog 38 #[opV o (.slice A0 o.data.length c0)] W (PAns o W)):=fun W=>paths_any o A0 o.data.length c0 W h1 h2
 have HDO:Hid (St.do_ s o=if (St.paths o).2.2≠0 then (St.no (St.paths o).2.2,s) else (St.no 0,s)):=by
  show _=_
  unfold St.do_
  rw [hk1]
  rw [if_neg (by decide:¬ (17:Int)=1),if_neg (by decide:¬ (17:Int)=2),if_neg (by decide:¬ (17:Int)=3),if_neg (by decide:¬ (17:Int)=4),if_neg (by decide:¬ (17:Int)=5),if_neg (by decide:¬ (17:Int)=6),if_neg (by decide:¬ (17:Int)=7),if_neg (by decide:¬ (17:Int)=8),if_neg (by decide:¬ (17:Int)=9),if_neg (by decide:¬ (17:Int)=10),if_neg (by decide:¬ (17:Int)=11),if_neg (by decide:¬ (17:Int)=12),if_neg (by decide:¬ (17:Int)=13),if_neg (by decide:¬ (17:Int)=14),if_neg (by decide:¬ (17:Int)=15),if_neg (by decide:¬ (17:Int)=16),if_pos rfl]
 obtain ⟨P,hP⟩:∃ P,P=St.paths o:=⟨_,rfl⟩
 have HPP:Hid (∀ e W W',PAns o W e W'→∃ A c A2 c2,e=.returned (.tuple #[.slice A P.1.length c,.slice A2 P.2.1.length c2,.int .i64 (P.2.2:Nat)])∧Way W' A P.1 c∧Way W' A2 P.2.1 c2∧Below W.heap.size W W'):=fun e W W' hh=>by rw [hP];exact hh
 rw [← hP] at HDO
 obtain ⟨p1,p2,pc⟩:=P
 dsimp only at HPP HDO
 clear hP h1 h2
 obtain ⟨kind,path,dest,fd,at_,n,till,snap,data⟩:=o
 dsimp only at hk1 HDO
 subst hk1
 obtain ⟨tp,rfl⟩:=tobj.ptr h.tr
 obtain ⟨sp,rfl⟩:=sobj.ptr h.sn
 obtain ⟨V0,hV0⟩:∃ V0,V0=w.alloc (.cells #[.int .i64 17,.string (strOf path),.string (strOf dest),.int .i64 fd,.int .i64 at_,.int .i64 n,.int .u64 (till:Nat),.int .i64 snap,.slice A0 data.length c0] 36):=⟨_,rfl⟩
 obtain ⟨go,hgo⟩:∃ go,go=w.heap.size:=⟨_,rfl⟩
 have HOP:Hid (Blk V0 go 36 [.int .i64 17,.string (strOf path),.string (strOf dest),.int .i64 fd,.int .i64 at_,.int .i64 n,.int .u64 (till:Nat),.int .i64 snap,.slice A0 data.length c0]):=by show Blk _ _ _ _;rw [hV0,hgo];exact Blk.new w _ _
 have hbv:Below w.heap.size w V0:=by rw [hV0];exact below_new w _
 obtain ⟨W0,hW0⟩:∃ W0,W0=V0.alloc (.cells #[.int .i64 0,.int .i64 0,.slice none 0 0,.slice none 0 0,.int .i64 0,.int .i64 0,.int .i64 0,.int .i64 0,.int .u64 0,.bool false] 33):=⟨_,rfl⟩
 obtain ⟨g,hg⟩:∃ g,g=V0.heap.size:=⟨_,rfl⟩
 have HZ0:Hid (Blk W0 g 33 [.int .i64 0,.int .i64 0,.slice none 0 0,.slice none 0 0,.int .i64 0,.int .i64 0,.int .i64 0,.int .i64 0,.int .u64 0,.bool false]):=by show Blk _ _ _ _;rw [hW0,hg];exact Blk.new V0 _ _
 have hbw:Below V0.heap.size V0 W0:=by rw [hW0];exact below_new V0 _
 have HB0:Hid (Below w.heap.size w W0):=hbv.trans (hbw.mono hbv.size)
 have HOP0:Hid (Blk W0 go 36 [.int .i64 17,.string (strOf path),.string (strOf dest),.int .i64 fd,.int .i64 at_,.int .i64 n,.int .u64 (till:Nat),.int .i64 snap,.slice A0 data.length c0]):=HOP.out.below hbw HOP.out.lt
 have HGG:Hid (w.heap.size≤g):=by show _≤_;rw [hg];exact hbv.size
 have HNG:Hid (¬ StS p B1 B2 D g):=fun h9=>by
  have:=h.lt h9
  have h8:w.heap.size≤g:=HGG.out
  omega
 have HN0:Hid (Nw p (.pointer (some tp)) (.pointer (some sp)) qs w (StS p B1 B2 D) B1 B2 D s W0):=(Nw.start h).later HB0.out
 have HO:=Lib.hid hO
 clear h hO hbv hbw HOP
 have o0:=HOP0.out.cell 0
 have o1:=HOP0.out.cell 1
 have o2:=HOP0.out.cell 2
 have o3:=HOP0.out.cell 3
 have o4:=HOP0.out.cell 4
 have o5:=HOP0.out.cell 5
 have o6:=HOP0.out.cell 6
 have o7:=HOP0.out.cell 7
 have o8:=HOP0.out.cell 8
 go_enter Tryz.func15,Tryz.ntmps15
 go_upto_region 1 with (fail)
 unfold opV
 dsimp only
 rw [← hV0,← hW0,← hgo,show go+1=g by rw [hg,hV0,World.size_alloc,hgo]]
 clear hV0 hgo hW0 hg
 go_wp2_with fail
 refine (HPA.out W0).mono ?_
 intro e w1 hpa
 obtain ⟨A,c,A2,c2,rfl,hw1,hw2,hb1⟩:=HPP.out _ _ _ hpa
 have HZ1:Hid (Blk w1 g 33 [.int .i64 0,.int .i64 0,.slice none 0 0,.slice none 0 0,.int .i64 0,.int .i64 0,.int .i64 0,.int .i64 0,.int .u64 0,.bool false]):=HZ0.out.below hb1 HZ0.out.lt
 have HN1:Hid (Nw p (.pointer (some tp)) (.pointer (some sp)) qs w (StS p B1 B2 D) B1 B2 D s w1):=HN0.out.later hb1
 have HB1:Hid (Below w.heap.size w w1):=HB0.out.trans (hb1.mono HB0.out.size)
 have HOP1:Hid (Blk w1 go 36 [.int .i64 17,.string (strOf path),.string (strOf dest),.int .i64 fd,.int .i64 at_,.int .i64 n,.int .u64 (till:Nat),.int .i64 snap,.slice A0 data.length c0]):=HOP0.out.below hb1 HOP0.out.lt
 have HW1:=Lib.hid hw1
 have HW2:=Lib.hid hw2
 clear hpa hw1 hw2 hb1 HPA HPP HZ0 HN0 HOP0 HB0 o0 o1 o2 o3 o4 o5 o6 o7 o8
 have o0:=HOP1.out.cell 0
 by_cases hc:pc=0
 rotate_left
 ·have hci:((pc:Int)==0)=false:=by rw [beq_eq_false_iff_ne];omega
  have HQ:Hid (St.do_ s ⟨17,path,dest,fd,at_,n,till,snap,data⟩=(St.no pc,s)):=by show _=_;rw [HDO.out,if_pos hc]
  clear hc HDO
  obtain⟨g0,e0,g1,e1,g2,e2,g3,e3,g4,e4,g5,e5,g6,e6,g7,e7,g8,e8,g9,e9⟩:=cells10 HZ1.out
  go_wp2_with fail
  refine bodyPost_ret (results_blk rfl _ _ g 33 (repL (pc:Nat) 0) _ rfl (set10_blk HZ1.out _ _ _ _ _ _ _ _ _ _) rfl rfl rfl) rfl ?_
  refine DoAns.of_turns (by rw [HQ.out];exact plain_no _) ?_
  rw [HQ.out]
  exact (HN1.out.poke (set10_mod _ _ _ _ _ _ _ _ _ _ _ _) HNG.out HGG.out).done _
 subst hc
 have HQ:Hid (St.do_ s ⟨17,path,dest,fd,at_,n,till,snap,data⟩=(St.no 0,s)):=HDO.out
 clear HDO
 obtain⟨g0,e0,g1,e1,g2,e2,g3,e3,g4,e4,g5,e5,g6,e6,g7,e7,g8,e8,g9,e9⟩:=cells10 HZ1.out
 go_wp2_with fail
 refine bodyPost_ret (results_blk rfl _ _ g 33 (repL 0 0) _ rfl (set10_blk HZ1.out _ _ _ _ _ _ _ _ _ _) rfl rfl rfl) rfl ?_
 refine DoAns.of_turns (by rw [HQ.out];exact plain_no _) ?_
 rw [HQ.out]
 exact (HN1.out.poke (set10_mod _ _ _ _ _ _ _ _ _ _ _ _) HNG.out HGG.out).done _
set_option maxHeartbeats 4000000 in
set_option maxRecDepth 100000 in
theorem do_18 (h:StIn p tv sv qs B1 B2 D s w) (hO:St.Ok s) (o:St.Opn) (hk1:¬ (1≤o.kind∧o.kind≤17)) (A0:Option Addr) (c0:Nat) (h1:o.path.length≤9223372036854775807) (h2:o.dest.length≤9223372036854775807) :
    Calls Tryz.prog 15 #[.pointer (some ⟨p,0,none⟩),opV o (.slice A0 o.data.length c0)] w (DoAns (.pointer (some ⟨p,0,none⟩)) s o (StS p B1 B2 D) w):=by
 have HPA:Hid (∀ W,Calls Tryz.prog 38 #[opV o (.slice A0 o.data.length c0)] W (PAns o W)):=fun W=>paths_any o A0 o.data.length c0 W h1 h2
 have HDO:Hid (St.do_ s o=if (St.paths o).2.2≠0 then (St.no (St.paths o).2.2,s) else (St.no 30,s)):=by
  show _=_
  unfold St.do_
  rw [if_neg (by omega:¬ o.kind=1),if_neg (by omega:¬ o.kind=2),if_neg (by omega:¬ o.kind=3),if_neg (by omega:¬ o.kind=4),if_neg (by omega:¬ o.kind=5),if_neg (by omega:¬ o.kind=6),if_neg (by omega:¬ o.kind=7),if_neg (by omega:¬ o.kind=8),if_neg (by omega:¬ o.kind=9),if_neg (by omega:¬ o.kind=10),if_neg (by omega:¬ o.kind=11),if_neg (by omega:¬ o.kind=12),if_neg (by omega:¬ o.kind=13),if_neg (by omega:¬ o.kind=14),if_neg (by omega:¬ o.kind=15),if_neg (by omega:¬ o.kind=16),if_neg (by omega:¬ o.kind=17)]
 obtain ⟨P,hP⟩:∃ P,P=St.paths o:=⟨_,rfl⟩
 have HPP:Hid (∀ e W W',PAns o W e W'→∃ A c A2 c2,e=.returned (.tuple #[.slice A P.1.length c,.slice A2 P.2.1.length c2,.int .i64 (P.2.2:Nat)])∧Way W' A P.1 c∧Way W' A2 P.2.1 c2∧Below W.heap.size W W'):=fun e W W' hh=>by rw [hP];exact hh
 rw [← hP] at HDO
 obtain ⟨p1,p2,pc⟩:=P
 dsimp only at HPP HDO
 clear hP h1 h2
 obtain ⟨kind,path,dest,fd,at_,n,till,snap,data⟩:=o
 dsimp only at hk1 HDO
 obtain ⟨tp,rfl⟩:=tobj.ptr h.tr
 obtain ⟨sp,rfl⟩:=sobj.ptr h.sn
 obtain ⟨V0,hV0⟩:∃ V0,V0=w.alloc (.cells #[.int .i64 kind,.string (strOf path),.string (strOf dest),.int .i64 fd,.int .i64 at_,.int .i64 n,.int .u64 (till:Nat),.int .i64 snap,.slice A0 data.length c0] 36):=⟨_,rfl⟩
 obtain ⟨go,hgo⟩:∃ go,go=w.heap.size:=⟨_,rfl⟩
 have HOP:Hid (Blk V0 go 36 [.int .i64 kind,.string (strOf path),.string (strOf dest),.int .i64 fd,.int .i64 at_,.int .i64 n,.int .u64 (till:Nat),.int .i64 snap,.slice A0 data.length c0]):=by show Blk _ _ _ _;rw [hV0,hgo];exact Blk.new w _ _
 have hbv:Below w.heap.size w V0:=by rw [hV0];exact below_new w _
 obtain ⟨W0,hW0⟩:∃ W0,W0=V0.alloc (.cells #[.int .i64 0,.int .i64 0,.slice none 0 0,.slice none 0 0,.int .i64 0,.int .i64 0,.int .i64 0,.int .i64 0,.int .u64 0,.bool false] 33):=⟨_,rfl⟩
 obtain ⟨g,hg⟩:∃ g,g=V0.heap.size:=⟨_,rfl⟩
 have HZ0:Hid (Blk W0 g 33 [.int .i64 0,.int .i64 0,.slice none 0 0,.slice none 0 0,.int .i64 0,.int .i64 0,.int .i64 0,.int .i64 0,.int .u64 0,.bool false]):=by show Blk _ _ _ _;rw [hW0,hg];exact Blk.new V0 _ _
 have hbw:Below V0.heap.size V0 W0:=by rw [hW0];exact below_new V0 _
 have HB0:Hid (Below w.heap.size w W0):=hbv.trans (hbw.mono hbv.size)
 have HOP0:Hid (Blk W0 go 36 [.int .i64 kind,.string (strOf path),.string (strOf dest),.int .i64 fd,.int .i64 at_,.int .i64 n,.int .u64 (till:Nat),.int .i64 snap,.slice A0 data.length c0]):=HOP.out.below hbw HOP.out.lt
 have HGG:Hid (w.heap.size≤g):=by show _≤_;rw [hg];exact hbv.size
 have HNG:Hid (¬ StS p B1 B2 D g):=fun h9=>by
  have:=h.lt h9
  have h8:w.heap.size≤g:=HGG.out
  omega
 have HN0:Hid (Nw p (.pointer (some tp)) (.pointer (some sp)) qs w (StS p B1 B2 D) B1 B2 D s W0):=(Nw.start h).later HB0.out
 have HO:=Lib.hid hO
 clear h hO hbv hbw HOP
 have o0:=HOP0.out.cell 0
 have o1:=HOP0.out.cell 1
 have o2:=HOP0.out.cell 2
 have o3:=HOP0.out.cell 3
 have o4:=HOP0.out.cell 4
 have o5:=HOP0.out.cell 5
 have o6:=HOP0.out.cell 6
 have o7:=HOP0.out.cell 7
 have o8:=HOP0.out.cell 8
 go_enter Tryz.func15,Tryz.ntmps15
 go_upto_region 1 with (fail)
 unfold opV
 dsimp only
 rw [← hV0,← hW0,← hgo,show go+1=g by rw [hg,hV0,World.size_alloc,hgo]]
 clear hV0 hgo hW0 hg
 go_wp2_with fail
 refine (HPA.out W0).mono ?_
 intro e w1 hpa
 obtain ⟨A,c,A2,c2,rfl,hw1,hw2,hb1⟩:=HPP.out _ _ _ hpa
 have HZ1:Hid (Blk w1 g 33 [.int .i64 0,.int .i64 0,.slice none 0 0,.slice none 0 0,.int .i64 0,.int .i64 0,.int .i64 0,.int .i64 0,.int .u64 0,.bool false]):=HZ0.out.below hb1 HZ0.out.lt
 have HN1:Hid (Nw p (.pointer (some tp)) (.pointer (some sp)) qs w (StS p B1 B2 D) B1 B2 D s w1):=HN0.out.later hb1
 have HB1:Hid (Below w.heap.size w w1):=HB0.out.trans (hb1.mono HB0.out.size)
 have HOP1:Hid (Blk w1 go 36 [.int .i64 kind,.string (strOf path),.string (strOf dest),.int .i64 fd,.int .i64 at_,.int .i64 n,.int .u64 (till:Nat),.int .i64 snap,.slice A0 data.length c0]):=HOP0.out.below hb1 HOP0.out.lt
 have HW1:=Lib.hid hw1
 have HW2:=Lib.hid hw2
 clear hpa hw1 hw2 hb1 HPA HPP HZ0 HN0 HOP0 HB0 o0 o1 o2 o3 o4 o5 o6 o7 o8
 have o0:=HOP1.out.cell 0
 by_cases hc:pc=0
 rotate_left
 ·have hci:((pc:Int)==0)=false:=by rw [beq_eq_false_iff_ne];omega
  have HQ:Hid (St.do_ s ⟨kind,path,dest,fd,at_,n,till,snap,data⟩=(St.no pc,s)):=by show _=_;rw [HDO.out,if_pos hc]
  clear hc HDO
  obtain⟨g0,e0,g1,e1,g2,e2,g3,e3,g4,e4,g5,e5,g6,e6,g7,e7,g8,e8,g9,e9⟩:=cells10 HZ1.out
  go_wp2_with fail
  refine bodyPost_ret (results_blk rfl _ _ g 33 (repL (pc:Nat) 0) _ rfl (set10_blk HZ1.out _ _ _ _ _ _ _ _ _ _) rfl rfl rfl) rfl ?_
  refine DoAns.of_turns (by rw [HQ.out];exact plain_no _) ?_
  rw [HQ.out]
  exact (HN1.out.poke (set10_mod _ _ _ _ _ _ _ _ _ _ _ _) HNG.out HGG.out).done _
 subst hc
 have HQ:Hid (St.do_ s ⟨kind,path,dest,fd,at_,n,till,snap,data⟩=(St.no 30,s)):=HDO.out
 clear HDO
 have b1:(kind==1)=false:=by rw [beq_eq_false_iff_ne];omega
 have b2:(kind==2)=false:=by rw [beq_eq_false_iff_ne];omega
 have b3:(kind==3)=false:=by rw [beq_eq_false_iff_ne];omega
 have b4:(kind==4)=false:=by rw [beq_eq_false_iff_ne];omega
 have b5:(kind==5)=false:=by rw [beq_eq_false_iff_ne];omega
 have b6:(kind==6)=false:=by rw [beq_eq_false_iff_ne];omega
 have b7:(kind==7)=false:=by rw [beq_eq_false_iff_ne];omega
 have b8:(kind==8)=false:=by rw [beq_eq_false_iff_ne];omega
 have b9:(kind==9)=false:=by rw [beq_eq_false_iff_ne];omega
 have b10:(kind==10)=false:=by rw [beq_eq_false_iff_ne];omega
 have b11:(kind==11)=false:=by rw [beq_eq_false_iff_ne];omega
 have b12:(kind==12)=false:=by rw [beq_eq_false_iff_ne];omega
 have b13:(kind==13)=false:=by rw [beq_eq_false_iff_ne];omega
 have b14:(kind==14)=false:=by rw [beq_eq_false_iff_ne];omega
 have b15:(kind==15)=false:=by rw [beq_eq_false_iff_ne];omega
 have b16:(kind==16)=false:=by rw [beq_eq_false_iff_ne];omega
 have b17:(kind==17)=false:=by rw [beq_eq_false_iff_ne];omega
 clear hk1
 obtain⟨g0,e0,g1,e1,g2,e2,g3,e3,g4,e4,g5,e5,g6,e6,g7,e7,g8,e8,g9,e9⟩:=cells10 HZ1.out
 go_wp2_with fail
 refine bodyPost_ret (results_blk rfl _ _ g 33 (repL 30 0) _ rfl (set10_blk HZ1.out _ _ _ _ _ _ _ _ _ _) rfl rfl rfl) rfl ?_
 refine DoAns.of_turns (by rw [HQ.out];exact plain_no _) ?_
 rw [HQ.out]
 exact (HN1.out.poke (set10_mod _ _ _ _ _ _ _ _ _ _ _ _) HNG.out HGG.out).done _
end Sm
end Go.Proofs.YtbnpgakmhhfjkaaGreatDoor
namespace Go.Proofs.YtbnpgakmhhfjkaaGreatDoor
open Go.RowKit Rc
open Tr (Nm En T)
open Tm (tobj)
open Sn (sobj)
open St (alone)
namespace Sm
variable {p:Nat} {tv sv:Value} {qs:List Value} {B1 B2 D:Nat→Prop} {s:St.State} {w w':World}
theorem tick_is (now u:Nat):Ck.nextOf (now:Nat) (u:Nat)=((St.tick now u:Nat):Int):=by
 unfold Ck.nextOf St.tick
 repeat' split
 all_goals omega
set_option maxHeartbeats 4000000 in
set_option maxRecDepth 100000 in
theorem do_16 (h:StIn p tv sv qs B1 B2 D s w) (hO:St.Ok s) (o:St.Opn) (hk1:o.kind=16) (A0:Option Addr) (c0:Nat) (h1:o.path.length≤9223372036854775807) (h2:o.dest.length≤9223372036854775807) :
    Calls Tryz.prog 15 #[.pointer (some ⟨p,0,none⟩),opV o (.slice A0 o.data.length c0)] w (DoAns (.pointer (some ⟨p,0,none⟩)) s o (StS p B1 B2 D) w):=by
 have HPA:Hid (∀ W,Calls Tryz.prog 38 #[opV o (.slice A0 o.data.length c0)] W (PAns o W)):=fun W=>paths_any o A0 o.data.length c0 W h1 h2
 have HDO:Hid (St.do_ s o=if (St.paths o).2.2≠0 then (St.no (St.paths o).2.2,s) else (St.no 0,{ s with now:=St.tick s.now o.till })):=by
  show _=_
  unfold St.do_
  rw [hk1]
  rw [if_neg (by decide:¬ (16:Int)=1),if_neg (by decide:¬ (16:Int)=2),if_neg (by decide:¬ (16:Int)=3),if_neg (by decide:¬ (16:Int)=4),if_neg (by decide:¬ (16:Int)=5),if_neg (by decide:¬ (16:Int)=6),if_neg (by decide:¬ (16:Int)=7),if_neg (by decide:¬ (16:Int)=8),if_neg (by decide:¬ (16:Int)=9),if_neg (by decide:¬ (16:Int)=10),if_neg (by decide:¬ (16:Int)=11),if_neg (by decide:¬ (16:Int)=12),if_neg (by decide:¬ (16:Int)=13),if_neg (by decide:¬ (16:Int)=14),if_neg (by decide:¬ (16:Int)=15),if_pos rfl]
 obtain ⟨P,hP⟩:∃ P,P=St.paths o:=⟨_,rfl⟩
 have HPP:Hid (∀ e W W',PAns o W e W'→∃ A c A2 c2,e=.returned (.tuple #[.slice A P.1.length c,.slice A2 P.2.1.length c2,.int .i64 (P.2.2:Nat)])∧Way W' A P.1 c∧Way W' A2 P.2.1 c2∧Below W.heap.size W W'):=fun e W W' hh=>by rw [hP];exact hh
 rw [← hP] at HDO
 obtain ⟨p1,p2,pc⟩:=P
 dsimp only at HPP HDO
 clear hP h1 h2
 obtain ⟨kind,path,dest,fd,at_,n,till,snap,data⟩:=o
 dsimp only at hk1 HDO
 subst hk1
 obtain ⟨tp,rfl⟩:=tobj.ptr h.tr
 obtain ⟨sp,rfl⟩:=sobj.ptr h.sn
 obtain ⟨V0,hV0⟩:∃ V0,V0=w.alloc (.cells #[.int .i64 16,.string (strOf path),.string (strOf dest),.int .i64 fd,.int .i64 at_,.int .i64 n,.int .u64 (till:Nat),.int .i64 snap,.slice A0 data.length c0] 36):=⟨_,rfl⟩
 obtain ⟨go,hgo⟩:∃ go,go=w.heap.size:=⟨_,rfl⟩
 have HOP:Hid (Blk V0 go 36 [.int .i64 16,.string (strOf path),.string (strOf dest),.int .i64 fd,.int .i64 at_,.int .i64 n,.int .u64 (till:Nat),.int .i64 snap,.slice A0 data.length c0]):=by show Blk _ _ _ _;rw [hV0,hgo];exact Blk.new w _ _
 have hbv:Below w.heap.size w V0:=by rw [hV0];exact below_new w _
 obtain ⟨W0,hW0⟩:∃ W0,W0=V0.alloc (.cells #[.int .i64 0,.int .i64 0,.slice none 0 0,.slice none 0 0,.int .i64 0,.int .i64 0,.int .i64 0,.int .i64 0,.int .u64 0,.bool false] 33):=⟨_,rfl⟩
 obtain ⟨g,hg⟩:∃ g,g=V0.heap.size:=⟨_,rfl⟩
 have HZ0:Hid (Blk W0 g 33 [.int .i64 0,.int .i64 0,.slice none 0 0,.slice none 0 0,.int .i64 0,.int .i64 0,.int .i64 0,.int .i64 0,.int .u64 0,.bool false]):=by show Blk _ _ _ _;rw [hW0,hg];exact Blk.new V0 _ _
 have hbw:Below V0.heap.size V0 W0:=by rw [hW0];exact below_new V0 _
 have HB0:Hid (Below w.heap.size w W0):=hbv.trans (hbw.mono hbv.size)
 have HOP0:Hid (Blk W0 go 36 [.int .i64 16,.string (strOf path),.string (strOf dest),.int .i64 fd,.int .i64 at_,.int .i64 n,.int .u64 (till:Nat),.int .i64 snap,.slice A0 data.length c0]):=HOP.out.below hbw HOP.out.lt
 have HGG:Hid (w.heap.size≤g):=by show _≤_;rw [hg];exact hbv.size
 have HNG:Hid (¬ StS p B1 B2 D g):=fun h9=>by
  have:=h.lt h9
  have h8:w.heap.size≤g:=HGG.out
  omega
 have HN0:Hid (Nw p (.pointer (some tp)) (.pointer (some sp)) qs w (StS p B1 B2 D) B1 B2 D s W0):=(Nw.start h).later HB0.out
 have HO:=Lib.hid hO
 clear h hO hbv hbw HOP
 have o0:=HOP0.out.cell 0
 have o1:=HOP0.out.cell 1
 have o2:=HOP0.out.cell 2
 have o3:=HOP0.out.cell 3
 have o4:=HOP0.out.cell 4
 have o5:=HOP0.out.cell 5
 have o6:=HOP0.out.cell 6
 have o7:=HOP0.out.cell 7
 have o8:=HOP0.out.cell 8
 go_enter Tryz.func15,Tryz.ntmps15
 go_upto_region 1 with (fail)
 unfold opV
 dsimp only
 rw [← hV0,← hW0,← hgo,show go+1=g by rw [hg,hV0,World.size_alloc,hgo]]
 clear hV0 hgo hW0 hg
 go_wp2_with fail
 refine (HPA.out W0).mono ?_
 intro e w1 hpa
 obtain ⟨A,c,A2,c2,rfl,hw1,hw2,hb1⟩:=HPP.out _ _ _ hpa
 have HZ1:Hid (Blk w1 g 33 [.int .i64 0,.int .i64 0,.slice none 0 0,.slice none 0 0,.int .i64 0,.int .i64 0,.int .i64 0,.int .i64 0,.int .u64 0,.bool false]):=HZ0.out.below hb1 HZ0.out.lt
 have HN1:Hid (Nw p (.pointer (some tp)) (.pointer (some sp)) qs w (StS p B1 B2 D) B1 B2 D s w1):=HN0.out.later hb1
 have HB1:Hid (Below w.heap.size w w1):=HB0.out.trans (hb1.mono HB0.out.size)
 have HOP1:Hid (Blk w1 go 36 [.int .i64 16,.string (strOf path),.string (strOf dest),.int .i64 fd,.int .i64 at_,.int .i64 n,.int .u64 (till:Nat),.int .i64 snap,.slice A0 data.length c0]):=HOP0.out.below hb1 HOP0.out.lt
 have HW1:=Lib.hid hw1
 have HW2:=Lib.hid hw2
 clear hpa hw1 hw2 hb1 HPA HPP HZ0 HN0 HOP0 HB0 o0 o1 o2 o3 o4 o5 o6 o7 o8
 have o0:=HOP1.out.cell 0
 by_cases hc:pc=0
 rotate_left
 ·have hci:((pc:Int)==0)=false:=by rw [beq_eq_false_iff_ne];omega
  have HQ:Hid (St.do_ s ⟨16,path,dest,fd,at_,n,till,snap,data⟩=(St.no pc,s)):=by show _=_;rw [HDO.out,if_pos hc]
  clear hc HDO
  obtain⟨g0,e0,g1,e1,g2,e2,g3,e3,g4,e4,g5,e5,g6,e6,g7,e7,g8,e8,g9,e9⟩:=cells10 HZ1.out
  go_wp2_with fail
  refine bodyPost_ret (results_blk rfl _ _ g 33 (repL (pc:Nat) 0) _ rfl (set10_blk HZ1.out _ _ _ _ _ _ _ _ _ _) rfl rfl rfl) rfl ?_
  refine DoAns.of_turns (by rw [HQ.out];exact plain_no _) ?_
  rw [HQ.out]
  exact (HN1.out.poke (set10_mod _ _ _ _ _ _ _ _ _ _ _ _) HNG.out HGG.out).done _
 subst hc
 have HQ:Hid (St.do_ s ⟨16,path,dest,fd,at_,n,till,snap,data⟩=(St.no 0,{ s with now:=St.tick s.now till })):=HDO.out
 clear HDO
 have c2:w1.cell? ⟨p,2,none⟩=some (.int .u64 (s.now:Nat)):=HN1.out.in_.box.cell 2
 have e2:=HN1.out.in_.box.frozen 2
 have o6:=HOP1.out.cell 6
 have HNX:Hid (∀ W,Calls Tryz.prog 53 #[.int .u64 (s.now:Nat),.int .u64 (till:Nat)] W fun e w'=>e=.returned (.int .u64 ((St.tick s.now till:Nat):Int))∧w'=W):=fun W=>by
  rw [← tick_is]
  exact Ck.next_any W (s.now:Nat) (till:Nat)
 obtain ⟨nw,hnw⟩:∃ nw,nw=St.tick s.now till:=⟨_,rfl⟩
 rw [← hnw] at HNX HQ
 clear hnw
 have HPG:Hid (g≠p):=fun h=>HNG.out (.inl h)
 obtain ⟨WF,hWF⟩:∃ WF,WF=(w1.setCell ⟨p,2,none⟩ (.int .u64 (nw:Nat))).drew:=⟨_,rfl⟩
 have HNT:Hid (Nw p (.pointer (some tp)) (.pointer (some sp)) qs w (StS p B1 B2 D) B1 B2 D { s with now:=nw } WF):=by rw [hWF];exact (HN1.out.now).later (below_drew _)
 have HZT:Hid (Blk WF g 33 [.int .i64 0,.int .i64 0,.slice none 0 0,.slice none 0 0,.int .i64 0,.int .i64 0,.int .i64 0,.int .i64 0,.int .u64 0,.bool false]):=by show Blk _ _ _ _;rw [hWF];exact (HZ1.out.far HPG.out _)
 go_upto_region 37 with (fail)
 go_region_with (go_at_call 53;change Calls _ _ _ w1.drew _;refine (HNX.out _).mono ?_;rintro e _ ⟨rfl,rfl⟩)
 all_goals
  change Exit.inBlock _ _ _ _ (w1.setCell ⟨p,2,none⟩ (.int .u64 (nw:Nat))).drew
  rw [← hWF]
  clear hWF c2 e2 o6 o0
  obtain⟨g0,e0,g1,e1,g2,e2,g3,e3,g4,e4,g5,e5,g6,e6,g7,e7,g8,e8,g9,e9⟩:=cells10 HZT.out
  go_wp2_with fail
  refine bodyPost_ret (results_blk rfl _ _ g 33 (repL 0 0) _ rfl (set10_blk HZT.out _ _ _ _ _ _ _ _ _ _) rfl rfl rfl) rfl ?_
  refine DoAns.of_turns (by rw [HQ.out];exact plain_no _) ?_
  rw [HQ.out]
  exact (HNT.out.poke (set10_mod _ _ _ _ _ _ _ _ _ _ _ _) HNG.out HGG.out).done _
end Sm
end Go.Proofs.YtbnpgakmhhfjkaaGreatDoor
namespace Go.Proofs.YtbnpgakmhhfjkaaGreatDoor
open Go.RowKit
namespace St
def allNames:List Bs:=[[47,97],[47,98],[47,99],[47,97,47,97],[47,97,47,98],[47,98,47,97],[47,98,47,98,47,97],[47],[47,99,47,97],[47,98,47,98],[47,65],[97],[47,97,47,47,98],[47,97,47]]
def name (n:Int):Bs:=allNames.getD (n % 1048577 % 14).toNat []
structure Fit (o:Opn):Prop where
 kind:-9223372036854775808≤o.kind∧o.kind≤9223372036854775807
 path:o.path.length≤1000000
 dest:o.dest.length≤1000000
 fd:-9223372036854775808≤o.fd∧o.fd≤9223372036854775807
 at_:-9223372036854775808≤o.at_∧o.at_≤9223372036854775807
 n:-9223372036854775808≤o.n∧o.n≤9223372036854775807
 till:o.till<18446744073709551616
 snap:-9223372036854775808≤o.snap∧o.snap≤9223372036854775807
 data:o.data.length≤1000000
end St
end Go.Proofs.YtbnpgakmhhfjkaaGreatDoor
namespace Go.Proofs.YtbnpgakmhhfjkaaGreatDoor
open Go.RowKit Rc
open Tr (Nm En T)
open Tm (tobj)
open Sn (sobj)
namespace Sm
variable {p:Nat} {tv sv:Value} {qs:List Value} {B1 B2 D:Nat→Prop} {s:St.State} {w w':World}
theorem do_1 (h:StIn p tv sv qs B1 B2 D s w) (hO:St.Ok s) (o:St.Opn) (hk1:o.kind=1) (A0:Option Addr) (c0:Nat) (h1:o.path.length≤9223372036854775807) (h2:o.dest.length≤9223372036854775807) :
    Calls Tryz.prog 15 #[.pointer (some ⟨p,0,none⟩),opV o (.slice A0 o.data.length c0)] w (DoAns (.pointer (some ⟨p,0,none⟩)) s o (StS p B1 B2 D) w):=by
 refine (do_create h hO o hk1 A0 o.data.length c0 h1 h2).mono fun e w' hh=>DoAns.of_turns ?_ hh
 unfold St.do_
 by_cases h0:(St.paths o).2.2≠0
 ·rw [if_pos h0]
  exact plain_no _
 ·rw [if_neg h0,if_pos hk1]
  exact plain_create _ _
theorem do_any (h:StIn p tv sv qs B1 B2 D s w) (hO:St.Ok s) (o:St.Opn) (hF:St.Fit o) (A0:Option Addr) (c0:Nat) (hr:Rd w A0 o.data) (hs:s.snaps.next<1000000000000000) (hK:KAt w) :
    Calls Tryz.prog 15 #[.pointer (some ⟨p,0,none⟩),opV o (.slice A0 o.data.length c0)] w (DoAns (.pointer (some ⟨p,0,none⟩)) s o (StS p B1 B2 D) w):=by
 have h1:o.path.length≤9223372036854775807:=Nat.le_trans hF.path (by decide)
 have h2:o.dest.length≤9223372036854775807:=Nat.le_trans hF.dest (by decide)
 have hu:o.till≤18446744073709551615:=Nat.le_of_lt_succ hF.till
 by_cases hk:1≤o.kind∧o.kind≤17
 ·have hk9:o.kind=1∨o.kind=2∨o.kind=3∨o.kind=4∨o.kind=5∨o.kind=6∨o.kind=7∨o.kind=8∨o.kind=9∨o.kind=10∨o.kind=11∨o.kind=12∨o.kind=13∨o.kind=14∨o.kind=15∨o.kind=16∨o.kind=17:=by omega
  rcases hk9 with k|k|k|k|k|k|k|k|k|k|k|k|k|k|k|k|k
  ·exact do_1 h hO o k A0 c0 h1 h2
  ·exact do_2 h hO o k A0 c0 h1 h2
  ·exact do_3 h hO o k A0 c0 h1 h2
  ·exact do_4 h hO o k A0 c0 h1 h2 hF.at_ hF.n
  ·exact do_5 h hO o k A0 c0 h1 h2 hr hF.data
  ·exact do_6 h hO o k A0 c0 h1 h2 hu
  ·exact do_7 h hO o k A0 c0 h1 h2
  ·exact do_8 h hO o k A0 c0 h1 h2
  ·exact do_9 h hO o k A0 c0 h1 h2
  ·exact do_10 h hO o k A0 c0 h1 h2
  ·exact do_11 h hO o k A0 c0 h1 h2
  ·exact do_12 h hO o k A0 c0 h1 h2
  ·exact do_13 h hO o k A0 c0 h1 h2 hu
  ·exact do_14 h hO o k A0 c0 h1 h2 hs hK
  ·exact do_15 h hO o k A0 c0 h1 h2
  ·exact do_16 h hO o k A0 c0 h1 h2
  ·exact do_17 h hO o k A0 c0 h1 h2
 ·exact do_18 h hO o hk A0 c0 h1 h2
theorem so_do {v:Value} {S:Nat→Prop} (h:stobj.At v s S w) (hO:St.Ok s) (o:St.Opn) (hF:St.Fit o) (A0:Option Addr) (c0:Nat) (hr:Rd w A0 o.data) (hs:s.snaps.next<1000000000000000) (hK:KAt w) :
    Calls Tryz.prog 15 #[v,opV o (.slice A0 o.data.length c0)] w (DoAns v s o S w):=by
 obtain ⟨p,tv,sv,qs,B1,B2,D,rfl,h,rfl⟩:=h
 exact do_any h hO o hF A0 c0 hr hs hK
def SP (w0:World) (v:Value) (s:St.State) (Q:Nat→Prop) (w:World):Prop:=∃ S,stobj.At v s S w∧Below w0.heap.size w0 w∧(∀ b,S b→w0.heap.size≤b)∧∀ b,Q b→¬ S b∧b<w.heap.size
variable {w0:World} {v:Value} {Q:Nat→Prop}
theorem SP.low (h:SP w0 v s Q w):Below w0.heap.size w0 w:=by obtain ⟨_,_,h,_⟩:=h;exact h
theorem SP.later (h:SP w0 v s Q w) (hb:Below w.heap.size w w'):SP w0 v s Q w':=by
 obtain ⟨S,h1,h2,h3,h4⟩:=h
 exact ⟨S,stobj.keep h1 hb.size (fun b hB=>hb.block b (stobj.lt h1 b hB)),h2.trans (hb.mono h2.size),h3,fun b hb2=>⟨(h4 b hb2).1,Nat.lt_of_lt_of_le (h4 b hb2).2 hb.size⟩⟩
theorem SP.less {Q2:Nat→Prop} (h:SP w0 v s Q w) (hQ:∀ b,Q2 b→Q b):SP w0 v s Q2 w:=by
 obtain ⟨S,h1,h2,h3,h4⟩:=h
 exact ⟨S,h1,h2,h3,fun b hb=>h4 b (hQ b hb)⟩
theorem SP.made (h:SP w0 v s Q w) (hb:Below w.heap.size w w') (g:Nat) (hg:w.heap.size≤g) (hg2:g<w'.heap.size):SP w0 v s (fun b=>b=g∨Q b) w':=by
 have hs:∀ S,stobj.At v s S w→¬ S g:=fun S h1 h9=>by have:=stobj.lt h1 g h9;omega
 obtain ⟨S,h1,h2,h3,h4⟩:=h
 refine ⟨S,stobj.keep h1 hb.size (fun b hB=>hb.block b (stobj.lt h1 b hB)),h2.trans (hb.mono h2.size),h3,fun b hb2=>?_⟩
 rcases hb2 with rfl|hb2
 ·exact ⟨hs S h1,hg2⟩
 ·exact ⟨(h4 b hb2).1,Nat.lt_of_lt_of_le (h4 b hb2).2 hb.size⟩
def SDo (w0:World) (v:Value) (s:St.State) (o:St.Opn) (Q:Nat→Prop) (w:World) (e:Ending) (w':World):Prop :=
 ∃ A c A2 c2,e=.returned (repV (St.do_ s o).1 (.slice A (St.do_ s o).1.data.length c) (.slice A2 (St.do_ s o).1.names.length c2))∧((St.do_ s o).1.data.length≤c∧(St.do_ s o).1.names.length≤c2)∧Hid (Rd w' A (St.do_ s o).1.data)∧Hid (RdS w' A2 (St.do_ s o).1.names)∧Hid (SP w0 v (St.do_ s o).2 (fun b=>(0<(St.do_ s o).1.data.length∧A.map (·.block)=some b)∨Q b) w')∧Hid (∀ b,Q b→w'.heap[b]?=w.heap[b]?)
theorem SP.do_ (h:SP w0 v s Q w) (hO:St.Ok s) (o:St.Opn) (hF:St.Fit o) (A0:Option Addr) (c0:Nat) (hr:Rd w A0 o.data) (hs:s.snaps.next<1000000000000000) (hK:KAt w) :
    Calls Tryz.prog 15 #[v,opV o (.slice A0 o.data.length c0)] w (SDo w0 v s o Q w):=by
 obtain ⟨S,h1,h2,h3,h4⟩:=h
 refine (so_do h1 hO o hF A0 c0 hr hs hK).mono ?_
 rintro e w' ⟨xd,xs,rfl,⟨⟨A,c,rfl,hc,hrd⟩,⟨A2,c2,rfl,hc2,hrs⟩⟩,S2,k1,k2,k3,k4⟩
 refine ⟨A,c,A2,c2,rfl,⟨hc,hc2⟩,hrd,hrs,⟨S2,k1,((Mod.of_below h2 S).trans k2).below h3,fun b hb=>(k3 b hb).elim (h3 b) (fun h=>Nat.le_trans h2.size h),fun b hb=>?_⟩,fun b hb=>k2.block b (h4 b hb).2 (h4 b hb).1⟩
 rcases hb with ⟨hb0,hb⟩|hb
 ·refine ⟨k4 b hb0 ?_,?_⟩
  ·cases A with
   | none=>simp at hb
   | some a=>exact hb
  ·obtain ⟨b',off,rfl,hlt,_⟩:=hrd hb0
   simp at hb
   omega
 ·refine ⟨fun h9=>?_,Nat.lt_of_lt_of_le (h4 b hb).2 k2.size⟩
  rcases k3 b h9 with h8|h8
  ·exact (h4 b hb).1 h8
  ·have:=(h4 b hb).2
   omega
end Sm
end Go.Proofs.YtbnpgakmhhfjkaaGreatDoor
namespace Go.Proofs.YtbnpgakmhhfjkaaGreatDoor
open Go.RowKit Rc
open Tr (Nm En T)
open Tm (tobj)
open Sn (sobj)
namespace Sm
set_option maxHeartbeats 4000000 in
set_option maxRecDepth 100000 in
theorem new_any (w:World):Calls Tryz.prog 13 #[] w fun e w'=>∃ p B,e=.returned (.pointer (some ⟨p,0,none⟩))∧stobj.At (.pointer (some ⟨p,0,none⟩)) St.new B w'∧Below w.heap.size w w'∧∀ b,B b→w.heap.size≤b:=by
 have HT:=Lib.hid (t_new w)
 have HS:=Lib.hid (fun w1=>Sn.so_new w1)
 go_enter Tryz.func13,Tryz.ntmps13
 go_wp2_with fail
 refine HT.out.mono ?_
 rintro e w1 ⟨q,B1,rfl,hT,hb1,hu1⟩
 have HT1:=Lib.hid hT
 have HB1:=Lib.hid hb1
 have HU1:=Lib.hid hu1
 clear hT hb1 hu1 HT
 go_wp2_with fail
 refine (HS.out w1).mono ?_
 rintro e w2 ⟨r,B2,rfl,hS,hb2,hu2⟩
 have HT2:Hid (tobj.At (.pointer (some ⟨q,0,none⟩)) Tr.new B1 w2):=tobj.keep HT1.out hb2.size (fun b hb=>hb2.block b (tobj.lt HT1.out b hb))
 have HS2:=Lib.hid hS
 have HB2:Hid (Below w.heap.size w w2):=HB1.out.trans (hb2.mono HB1.out.size)
 have HU2:Hid (∀ b,B2 b→w1.heap.size≤b):=hu2
 have HB12:=Lib.hid hb2
 clear hS hb2 hu2 HS
 go_wp2_with fail
 go_ret
 have hbn:=below_new w2 (.cells #[.pointer (some ⟨q,0,none⟩),.pointer (some ⟨r,0,none⟩),.int .u64 0,.pointer none,.int .i64 0,.bool false,.pointer none,.int .i64 0,.bool false,.pointer none,.int .i64 0,.bool false,.pointer none,.int .i64 0,.bool false,.pointer none,.int .i64 0,.bool false,.pointer none,.int .i64 0,.bool false,.pointer none,.int .i64 0,.bool false,.pointer none,.int .i64 0,.bool false] 74)
 refine ⟨w2.heap.size,StS w2.heap.size B1 B2 (fun _=>False),rfl,⟨_,_,_,List.replicate 8 (.pointer none),B1,B2,_,rfl,⟨Blk.new w2 _ _,?_,?_,rfl,?_,?_,?_,?_⟩,rfl⟩,HB2.out.trans (hbn.mono HB2.out.size),?_⟩
 ·exact tobj.keep HT2.out hbn.size fun b hb=>hbn.block b (tobj.lt HT2.out b hb)
 ·exact sobj.keep HS2.out hbn.size fun b hb=>hbn.block b (sobj.lt HS2.out b hb)
 ·intro k b q' hk
  have:=List.mem_of_getElem? hk
  simp [St.new] at this
 ·exact fun x hx=>hx.elim
 ·intro x h1 h2
  have:=tobj.lt HT1.out x h1
  have:=HU2.out x h2
  omega
 ·refine ⟨fun h9=>?_,fun h9=>?_⟩
  ·have:=tobj.lt HT2.out _ h9;omega
  ·have:=sobj.lt HS2.out _ h9;omega
 ·intro b hb
  rcases hb with rfl|hb|hb|hb
  ·exact HB2.out.size
  ·exact HU1.out b hb
  ·exact Nat.le_trans HB1.out.size (HU2.out b hb)
  ·exact hb.elim
end Sm
end Go.Proofs.YtbnpgakmhhfjkaaGreatDoor
namespace Go.Proofs.YtbnpgakmhhfjkaaGreatDoor
open Go.RowKit Rc
open Tr (Nm En T)
namespace Sm
variable {s s':St.State} {w w' w0:World} {v:Value} {Q:Nat→Prop}
def SDoP (w0:World) (v:Value) (s':St.State) (ri rn:Int) (Q:Nat→Prop) (w:World) (e:Ending) (w':World):Prop :=
 ∃ A c A2 c2,e=.returned (.agg #[.int .i64 ri,.int .i64 rn,.slice A 0 c,.slice A2 0 c2,.int .i64 0,.int .i64 0,.int .i64 0,.int .i64 0,.int .u64 0,.bool false])∧Hid (SP w0 v s' Q w')∧Hid (∀ b,Q b→w'.heap[b]?=w.heap[b]?)
theorem SP.doP (h:SP w0 v s Q w) {o:St.Opn} {re:Nat} {rn:Int} (hd:St.do_ s o=(⟨re,rn,[],[],Nd.zero⟩,s')) (hO:St.Ok s) (o':St.Opn) (ho:o'=o) (hF:St.Fit o) (A0:Option Addr) (c0:Nat) (hs:s.snaps.next<1000000000000000) (hr:Rd w A0 o.data) (hK:KAt w) :
    Calls Tryz.prog 15 #[v,opV o (.slice A0 o.data.length c0)] w (SDoP w0 v s' ((re:Nat):Int) rn Q w):=by
 refine (h.do_ hO o hF A0 c0 hr hs hK).mono ?_
 rintro e w' ⟨A,c,A2,c2,rfl,_,_,_,h1,h2⟩
 rw [hd] at h1 ⊢
 exact ⟨A,c,A2,c2,rfl,h1.out.less (fun b hb=>.inr hb),h2⟩
theorem SP.new (w:World):Calls Tryz.prog 13 #[] w fun e w'=>∃ p,e=.returned (.pointer (some ⟨p,0,none⟩))∧Hid (SP w (.pointer (some ⟨p,0,none⟩)) St.new (fun _=>False) w'):=by
 refine (new_any w).mono ?_
 rintro e w' ⟨p,B,rfl,h1,h2,h3⟩
 exact ⟨p,rfl,B,h1,h2,h3,fun _ h=>h.elim⟩
theorem fit_small (kind:Int) (path dest:Bs) (fd at_ n:Int) (till:Nat) (snap:Int) (data:Bs) (hk:0≤kind∧kind≤1000) (h1:path.length≤1000000) (h2:dest.length≤1000000) (h3:0≤fd∧fd≤1000000) (h4:0≤at_∧at_≤1000000) (h5:0≤n∧n≤1000000) (h6:till<18446744073709551616) (h7:0≤snap∧snap≤1000000) (h8:data.length≤1000000):St.Fit ⟨kind,path,dest,fd,at_,n,till,snap,data⟩ :=
 ⟨⟨by show _≤kind;omega,by show kind≤_;omega⟩,h1,h2,⟨by show _≤fd;omega,by show fd≤_;omega⟩,⟨by show _≤at_;omega,by show at_≤_;omega⟩,⟨by show _≤n;omega,by show n≤_;omega⟩,h6,⟨by show _≤snap;omega,by show snap≤_;omega⟩,h8⟩
theorem fitA:St.Fit St.kA:=fit_small 1 _ _ _ _ _ _ _ _ (by decide) (by decide) (by decide) (by decide) (by decide) (by decide) (by decide) (by decide) (by decide)
theorem fitB:St.Fit St.kB:=fit_small 5 _ _ _ _ _ _ _ _ (by decide) (by decide) (by decide) (by decide) (by decide) (by decide) (by decide) (by decide) (by decide)
theorem fitC:St.Fit St.kC:=fit_small 6 _ _ _ _ _ _ _ _ (by decide) (by decide) (by decide) (by decide) (by decide) (by decide) (by decide) (by decide) (by decide)
theorem fitD:St.Fit St.kD:=fit_small 8 _ _ _ _ _ _ _ _ (by decide) (by decide) (by decide) (by decide) (by decide) (by decide) (by decide) (by decide) (by decide)
theorem ok_next {s s':St.State} {o:St.Opn} {r:St.Rep} (h:St.Ok s) (hn:s.snaps.next<1000000000000000) (hd:St.do_ s o=(r,s')):St.Ok s':=by
 have:=St.do_ok h hn o
 rw [hd] at this
 exact this
theorem ok1:St.Ok ⟨St.fA [] 0 false,Sn.new,0,.w 1 :: List.replicate 7 .free⟩:=ok_next St.new_ok (by decide) St.known_a
theorem ok2:St.Ok ⟨St.fA [120,121,122] 0 false,Sn.new,0,.w 1 :: List.replicate 7 .free⟩:=ok_next ok1 (by decide) St.known_b
theorem ok3:St.Ok ⟨St.fA [120,121,122] 9 true,Sn.new,0,List.replicate 8 .free⟩:=ok_next ok2 (by decide) St.known_c
set_option maxHeartbeats 4000000 in
set_option maxRecDepth 100000 in
theorem known_any (w:World) (hK:KAt w):Calls Tryz.prog 18 #[] w fun e w'=>e=.returned (.bool true)∧Below w.heap.size w w':=by
 have HK:=Lib.hid hK
 have HNEW:=Lib.hid (SP.new w)
 clear hK
 go_enter Tryz.func18,Tryz.ntmps18
 go_wp2_with fail
 refine HNEW.out.mono ?_
 rintro e w1 ⟨p,rfl,HS0⟩
 clear HNEW
 have HM:Hid (Calls Tryz.prog 15 #[(.pointer (some ⟨p,0,none⟩)),.agg #[.int .i64 1,.string { data:=#[47,97] },.string { data:=#[] },.int .i64 0,.int .i64 0,.int .i64 0,.int .u64 0,.int .i64 0,.slice none 0 0]] w1 (SDoP w (.pointer (some ⟨p,0,none⟩)) ⟨St.fA [] 0 false,Sn.new,0,.w 1 :: List.replicate 7 .free⟩ 0 0 (fun _=>False) w1)):=HS0.out.doP (St.known_a) St.new_ok St.kA rfl (fitA) none 0 (by decide) (Rd.nil _ _) (KAt.below HK.out HS0.out.low HK.out.pos)
 go_wp2_with fail
 refine HM.out.mono ?_
 rintro e wd1 ⟨RA1,rc1,RB1,rd1,rfl,HS1,HQ1⟩
 clear HM HQ1 HS0 
 obtain ⟨Wk1,hW⟩:∃ W,W=wd1.alloc (.cells #[.int .i64 0,.int .i64 0,.slice RA1 0 rc1,.slice RB1 0 rd1,.int .i64 0,.int .i64 0,.int .i64 0,.int .i64 0,.int .u64 0,.bool false] 33):=⟨_,rfl⟩
 obtain ⟨gk1,hg⟩:∃ g,g=wd1.heap.size:=⟨_,rfl⟩
 have HXnk1:Hid (Blk Wk1 gk1 33 [.int .i64 0,.int .i64 0,.slice RA1 0 rc1,.slice RB1 0 rd1,.int .i64 0,.int .i64 0,.int .i64 0,.int .i64 0,.int .u64 0,.bool false]):=by show Blk _ _ _ _;rw [hW,hg];exact Blk.new wd1 _ _
 have hbn:Below wd1.heap.size wd1 Wk1:=by rw [hW];exact below_new wd1 _
 have HSk1:Hid (SP w (.pointer (some ⟨p,0,none⟩)) _ (fun b=>b=gk1∨(fun _=>False) b) Wk1):=HS1.out.made hbn gk1 (Nat.le_of_eq hg.symm) HXnk1.out.lt
 clear hbn HS1 
 go_upto_region 5 with (fail)
 rw [← hW,← hg]
 clear hW hg
 have kc:=Lib.run_convert_bytes_const (P:=Tryz.prog) Wk1 23 5 #[.int .u8 120,.int .u8 121,.int .u8 122] 3 3 Tryz.underlying23 Tryz.underlying5
 have HRCb5:Hid (Rd (Wk1.alloc (.cells #[.int .u8 120,.int .u8 121,.int .u8 122] 5 (3,4))) (some ⟨Wk1.heap.size,0,none⟩) [120,121,122]):=rd_cells Wk1 [120,121,122] _ _ _ rfl
 have hbn:Below Wk1.heap.size Wk1 (Wk1.alloc (.cells #[.int .u8 120,.int .u8 121,.int .u8 122] 5 (3,4))):=below_new Wk1 _
 have HX0_b5:Hid (Blk (Wk1.alloc (.cells #[.int .u8 120,.int .u8 121,.int .u8 122] 5 (3,4))) gk1 33 [.int .i64 0,.int .i64 0,.slice RA1 0 rc1,.slice RB1 0 rd1,.int .i64 0,.int .i64 0,.int .i64 0,.int .i64 0,.int .u64 0,.bool false]):=HXnk1.out.below hbn HXnk1.out.lt
 have HSb5:Hid (SP w (.pointer (some ⟨p,0,none⟩)) _ (fun b=>b=gk1∨(fun _=>False) b) (Wk1.alloc (.cells #[.int .u8 120,.int .u8 121,.int .u8 122] 5 (3,4)))):=HSk1.out.later hbn
 clear hbn HSk1 HXnk1
 have HM:Hid (Calls Tryz.prog 15 #[(.pointer (some ⟨p,0,none⟩)),.agg #[.int .i64 5,.string { data:=#[] },.string { data:=#[] },.int .i64 0,.int .i64 0,.int .i64 0,.int .u64 0,.int .i64 0,.slice (some ⟨Wk1.heap.size,0,none⟩) 3 3]] (Wk1.alloc (.cells #[.int .u8 120,.int .u8 121,.int .u8 122] 5 (3,4))) (SDoP w (.pointer (some ⟨p,0,none⟩)) ⟨St.fA [120,121,122] 0 false,Sn.new,0,.w 1 :: List.replicate 7 .free⟩ 0 3 (fun b=>b=gk1∨(fun _=>False) b) (Wk1.alloc (.cells #[.int .u8 120,.int .u8 121,.int .u8 122] 5 (3,4))))):=HSb5.out.doP (St.known_b) ok1 St.kB rfl (fitB) (some ⟨Wk1.heap.size,0,none⟩) 3 (by decide) (HRCb5.out) (KAt.below HK.out HSb5.out.low HK.out.pos)
 go_wp2_with fail
 refine HM.out.mono ?_
 rintro e wd2 ⟨RA2,rc2,RB2,rd2,rfl,HS2,HQ2⟩
 have HX0_2:Hid (Blk wd2 gk1 33 [.int .i64 0,.int .i64 0,.slice RA1 0 rc1,.slice RB1 0 rd1,.int .i64 0,.int .i64 0,.int .i64 0,.int .i64 0,.int .u64 0,.bool false]):=(HQ2.out gk1 (.inl rfl)).trans HX0_b5.out
 clear HM HQ2 HSb5 HX0_b5 kc
 obtain ⟨Wk2,hW⟩:∃ W,W=wd2.alloc (.cells #[.int .i64 0,.int .i64 3,.slice RA2 0 rc2,.slice RB2 0 rd2,.int .i64 0,.int .i64 0,.int .i64 0,.int .i64 0,.int .u64 0,.bool false] 33):=⟨_,rfl⟩
 obtain ⟨gk2,hg⟩:∃ g,g=wd2.heap.size:=⟨_,rfl⟩
 have HXnk2:Hid (Blk Wk2 gk2 33 [.int .i64 0,.int .i64 3,.slice RA2 0 rc2,.slice RB2 0 rd2,.int .i64 0,.int .i64 0,.int .i64 0,.int .i64 0,.int .u64 0,.bool false]):=by show Blk _ _ _ _;rw [hW,hg];exact Blk.new wd2 _ _
 have hbn:Below wd2.heap.size wd2 Wk2:=by rw [hW];exact below_new wd2 _
 have HX0_k2:Hid (Blk Wk2 gk1 33 [.int .i64 0,.int .i64 0,.slice RA1 0 rc1,.slice RB1 0 rd1,.int .i64 0,.int .i64 0,.int .i64 0,.int .i64 0,.int .u64 0,.bool false]):=HX0_2.out.below hbn HX0_2.out.lt
 have HSk2:Hid (SP w (.pointer (some ⟨p,0,none⟩)) _ (fun b=>b=gk2∨(fun b=>b=gk1∨(fun _=>False) b) b) Wk2):=HS2.out.made hbn gk2 (Nat.le_of_eq hg.symm) HXnk2.out.lt
 clear hbn HS2 HX0_2
 go_upto_region 6 with (fail)
 rw [← hW,← hg]
 clear hW hg
 have HM:Hid (Calls Tryz.prog 15 #[(.pointer (some ⟨p,0,none⟩)),.agg #[.int .i64 6,.string { data:=#[] },.string { data:=#[] },.int .i64 0,.int .i64 0,.int .i64 0,.int .u64 9,.int .i64 0,.slice none 0 0]] Wk2 (SDoP w (.pointer (some ⟨p,0,none⟩)) ⟨St.fA [120,121,122] 9 true,Sn.new,0,List.replicate 8 .free⟩ 0 0 (fun b=>b=gk2∨(fun b=>b=gk1∨(fun _=>False) b) b) Wk2)):=HSk2.out.doP (St.known_c) ok2 St.kC rfl (fitC) none 0 (by decide) (Rd.nil _ _) (KAt.below HK.out HSk2.out.low HK.out.pos)
 go_wp2_with fail
 refine HM.out.mono ?_
 rintro e wd3 ⟨RA3,rc3,RB3,rd3,rfl,HS3,HQ3⟩
 have HX0_3:Hid (Blk wd3 gk1 33 [.int .i64 0,.int .i64 0,.slice RA1 0 rc1,.slice RB1 0 rd1,.int .i64 0,.int .i64 0,.int .i64 0,.int .i64 0,.int .u64 0,.bool false]):=(HQ3.out gk1 (.inr (.inl rfl))).trans HX0_k2.out
 have HX1_3:Hid (Blk wd3 gk2 33 [.int .i64 0,.int .i64 3,.slice RA2 0 rc2,.slice RB2 0 rd2,.int .i64 0,.int .i64 0,.int .i64 0,.int .i64 0,.int .u64 0,.bool false]):=(HQ3.out gk2 (.inl rfl)).trans HXnk2.out
 clear HM HQ3 HSk2 HX0_k2 HXnk2
 obtain ⟨Wk3,hW⟩:∃ W,W=wd3.alloc (.cells #[.int .i64 0,.int .i64 0,.slice RA3 0 rc3,.slice RB3 0 rd3,.int .i64 0,.int .i64 0,.int .i64 0,.int .i64 0,.int .u64 0,.bool false] 33):=⟨_,rfl⟩
 obtain ⟨gk3,hg⟩:∃ g,g=wd3.heap.size:=⟨_,rfl⟩
 have HXnk3:Hid (Blk Wk3 gk3 33 [.int .i64 0,.int .i64 0,.slice RA3 0 rc3,.slice RB3 0 rd3,.int .i64 0,.int .i64 0,.int .i64 0,.int .i64 0,.int .u64 0,.bool false]):=by show Blk _ _ _ _;rw [hW,hg];exact Blk.new wd3 _ _
 have hbn:Below wd3.heap.size wd3 Wk3:=by rw [hW];exact below_new wd3 _
 have HX0_k3:Hid (Blk Wk3 gk1 33 [.int .i64 0,.int .i64 0,.slice RA1 0 rc1,.slice RB1 0 rd1,.int .i64 0,.int .i64 0,.int .i64 0,.int .i64 0,.int .u64 0,.bool false]):=HX0_3.out.below hbn HX0_3.out.lt
 have HX1_k3:Hid (Blk Wk3 gk2 33 [.int .i64 0,.int .i64 3,.slice RA2 0 rc2,.slice RB2 0 rd2,.int .i64 0,.int .i64 0,.int .i64 0,.int .i64 0,.int .u64 0,.bool false]):=HX1_3.out.below hbn HX1_3.out.lt
 have HSk3:Hid (SP w (.pointer (some ⟨p,0,none⟩)) _ (fun b=>b=gk3∨(fun b=>b=gk2∨(fun b=>b=gk1∨(fun _=>False) b) b) b) Wk3):=HS3.out.made hbn gk3 (Nat.le_of_eq hg.symm) HXnk3.out.lt
 clear hbn HS3 HX0_3 HX1_3
 go_upto_region 7 with (fail)
 rw [← hW,← hg]
 clear hW hg
 have HM:Hid (Calls Tryz.prog 15 #[(.pointer (some ⟨p,0,none⟩)),.agg #[.int .i64 8,.string { data:=#[47,97] },.string { data:=#[] },.int .i64 0,.int .i64 0,.int .i64 0,.int .u64 0,.int .i64 0,.slice none 0 0]] Wk3 (SDoP w (.pointer (some ⟨p,0,none⟩)) ⟨St.fA [120,121,122] 9 true,Sn.new,0,List.replicate 8 .free⟩ 28 0 (fun b=>b=gk3∨(fun b=>b=gk2∨(fun b=>b=gk1∨(fun _=>False) b) b) b) Wk3)):=HSk3.out.doP (St.known_d) ok3 St.kD rfl (fitD) none 0 (by decide) (Rd.nil _ _) (KAt.below HK.out HSk3.out.low HK.out.pos)
 go_wp2_with fail
 refine HM.out.mono ?_
 rintro e wd4 ⟨RA4,rc4,RB4,rd4,rfl,HS4,HQ4⟩
 have HX0_4:Hid (Blk wd4 gk1 33 [.int .i64 0,.int .i64 0,.slice RA1 0 rc1,.slice RB1 0 rd1,.int .i64 0,.int .i64 0,.int .i64 0,.int .i64 0,.int .u64 0,.bool false]):=(HQ4.out gk1 (.inr (.inr (.inl rfl)))).trans HX0_k3.out
 have HX1_4:Hid (Blk wd4 gk2 33 [.int .i64 0,.int .i64 3,.slice RA2 0 rc2,.slice RB2 0 rd2,.int .i64 0,.int .i64 0,.int .i64 0,.int .i64 0,.int .u64 0,.bool false]):=(HQ4.out gk2 (.inr (.inl rfl))).trans HX1_k3.out
 have HX2_4:Hid (Blk wd4 gk3 33 [.int .i64 0,.int .i64 0,.slice RA3 0 rc3,.slice RB3 0 rd3,.int .i64 0,.int .i64 0,.int .i64 0,.int .i64 0,.int .u64 0,.bool false]):=(HQ4.out gk3 (.inl rfl)).trans HXnk3.out
 clear HM HQ4 HSk3 HX0_k3 HX1_k3 HXnk3
 obtain ⟨Wk4,hW⟩:∃ W,W=wd4.alloc (.cells #[.int .i64 28,.int .i64 0,.slice RA4 0 rc4,.slice RB4 0 rd4,.int .i64 0,.int .i64 0,.int .i64 0,.int .i64 0,.int .u64 0,.bool false] 33):=⟨_,rfl⟩
 obtain ⟨gk4,hg⟩:∃ g,g=wd4.heap.size:=⟨_,rfl⟩
 have HXnk4:Hid (Blk Wk4 gk4 33 [.int .i64 28,.int .i64 0,.slice RA4 0 rc4,.slice RB4 0 rd4,.int .i64 0,.int .i64 0,.int .i64 0,.int .i64 0,.int .u64 0,.bool false]):=by show Blk _ _ _ _;rw [hW,hg];exact Blk.new wd4 _ _
 have hbn:Below wd4.heap.size wd4 Wk4:=by rw [hW];exact below_new wd4 _
 have HX0_k4:Hid (Blk Wk4 gk1 33 [.int .i64 0,.int .i64 0,.slice RA1 0 rc1,.slice RB1 0 rd1,.int .i64 0,.int .i64 0,.int .i64 0,.int .i64 0,.int .u64 0,.bool false]):=HX0_4.out.below hbn HX0_4.out.lt
 have HX1_k4:Hid (Blk Wk4 gk2 33 [.int .i64 0,.int .i64 3,.slice RA2 0 rc2,.slice RB2 0 rd2,.int .i64 0,.int .i64 0,.int .i64 0,.int .i64 0,.int .u64 0,.bool false]):=HX1_4.out.below hbn HX1_4.out.lt
 have HX2_k4:Hid (Blk Wk4 gk3 33 [.int .i64 0,.int .i64 0,.slice RA3 0 rc3,.slice RB3 0 rd3,.int .i64 0,.int .i64 0,.int .i64 0,.int .i64 0,.int .u64 0,.bool false]):=HX2_4.out.below hbn HX2_4.out.lt
 have HSk4:Hid (SP w (.pointer (some ⟨p,0,none⟩)) _ (fun b=>b=gk4∨(fun b=>b=gk3∨(fun b=>b=gk2∨(fun b=>b=gk1∨(fun _=>False) b) b) b) b) Wk4):=HS4.out.made hbn gk4 (Nat.le_of_eq hg.symm) HXnk4.out.lt
 clear hbn HS4 HX0_4 HX1_4 HX2_4
 go_upto_region 8 with (fail)
 rw [← hW,← hg]
 clear hW hg
 have x0_0:=HX0_k4.out.cell 0
 have x0_1:=HX0_k4.out.cell 1
 have x1_0:=HX1_k4.out.cell 0
 have x1_1:=HX1_k4.out.cell 1
 have x2_0:=HX2_k4.out.cell 0
 have x2_1:=HX2_k4.out.cell 1
 have x3_0:=HXnk4.out.cell 0
 have x3_1:=HXnk4.out.cell 1
 go_wp2_with fail
 go_ret
 exact ⟨rfl,SP.low HSk4.out⟩
end Sm
end Go.Proofs.YtbnpgakmhhfjkaaGreatDoor
namespace Go.Proofs.YtbnpgakmhhfjkaaGreatDoor
open Go.RowKit Rc
open Tr (Nm En T)
open Tm (tobj)
open Sn (sobj)
namespace Sm
def openTo (j:Nat) (l:List St.Fd):List Int:=(List.range j).filterMap fun i=>match l[i]? with
 | some f=>if f.isFree then none else some (i:Int)
 | none=>none
def openOf (s:St.State):List Int:=openTo 8 s.fds
theorem openTo_next {j:Nat} {l:List St.Fd} {f:St.Fd} (h:l[j]?=some f):openTo (j+1) l=openTo j l++(if f.isFree then [] else [(j:Int)]):=by
 unfold openTo
 rw [List.range_succ,List.filterMap_append]
 congr 1
 simp only [List.filterMap_cons,List.filterMap_nil,h]
 cases f.isFree <;> rfl
theorem openTo_length (j:Nat) (l:List St.Fd):(openTo j l).length≤j:=by
 unfold openTo
 exact Nat.le_trans (List.length_filterMap_le _ _) (by rw [List.length_range];exact Nat.le_refl _)
variable {p:Nat} {tv sv:Value} {qs:List Value} {B1 B2 D:Nat→Prop} {s:St.State} {w w':World}
set_option maxHeartbeats 4000000 in
set_option maxRecDepth 100000 in
theorem openL_any (h:StIn p tv sv qs B1 B2 D s w) (h8:s.fds.length=8):Calls Tryz.prog 25 #[.pointer (some ⟨p,0,none⟩)] w fun e w'=>∃ X c,e=.returned (.slice X (openOf s).length c)∧IAt w.heap.size (.slice X (openOf s).length c) (openOf s) w w':=by
 obtain ⟨cl,pa,pi,pb,hE⟩:=h.eight h8
 have HRG:=Lib.hid hE.load
 have HSZ:=Lib.hid hE.size
 have HIDX:=Lib.hid hE.idx
 have HFR:=Lib.hid hE.free
 have H8:=Lib.hid h8
 have HI0:Hid (IAt w.heap.size (.slice none 0 0) [] w w):=IAt.nil w
 clear h h8 hE
 go_enter Tryz.func25,Tryz.ntmps25
 go_wp2_with (first
  | (refine wpList_load_mid rfl 72 (.tmp 8) rfl p 3 rfl cl _ HRG.out Tryz.underlying72 rfl HSZ.out ?_))
 go_loopw [3,4,5,10] (fun t3 t4 t5 t10 wr=>∃ (j:Nat) (v4 v5:Value) (X:Option Addr) (cx:Nat) (l:List Int),t3=.slice X l.length cx∧t4=v4∧t5=v5∧t10=.int .i64 j∧j≤8∧Hid (l=openTo j s.fds)∧Hid (IAt w.heap.size (.slice X l.length cx) l w wr)) (fun _ _ _ t10 _=>8-(match t10 with|.int _ k=>k.toNat|_=>0))
 case atStart=>exact ⟨0,_,_,none,0,[],rfl,rfl,rfl,rfl,Nat.zero_le _,rfl,HI0.out⟩
 case round =>
  clear HI0
  obtain ⟨j,v4,v5,X,cx,l,rfl,rfl,rfl,rfl,hj,HL,HI⟩:=hrel
  by_cases hk:j<8
  ·have hlt2:(j:Int)<8:=by omega
   have hI:=HIDX.out j wr hk
   obtain ⟨x,hx⟩:∃ x,x=pa j:=⟨_,rfl⟩
   obtain ⟨y,hy⟩:∃ y,y=pi j:=⟨_,rfl⟩
   obtain ⟨z,hz⟩:∃ z,z=pb j:=⟨_,rfl⟩
   rw [← hx,← hy,← hz] at hI
   have HX:Hid (∃ f,s.fds[j]?=some f∧x.isNone=f.isFree):=by
    have:=HFR.out j hk
    rw [← hx] at this
    exact this
   have hll:l.length≤1000000:=by have:=openTo_length j s.fds;rw [HL.out];omega
   obtain ⟨wn,hwn⟩:∃ wn,wn=wr.alloc (.cells #[.pointer x,.int .i64 y,.bool z] 71):=⟨_,rfl⟩
   obtain ⟨bn,hbn⟩:∃ bn,bn=wr.heap.size:=⟨_,rfl⟩
   have HBK:Hid (Blk wn bn 71 [.pointer x,.int .i64 y,.bool z]):=by show Blk _ _ _ _;rw [hwn,hbn];exact Blk.new wr _ _
   have d0:=HBK.out.cell 0
   have d1:=HBK.out.cell 1
   have d2:=HBK.out.cell 2
   have HIN:Hid (IAt w.heap.size (.slice X l.length cx) l w wn):=by
    have:=below_new wr (.cells #[.pointer x,.int .i64 y,.bool z] 71)
    rw [← hwn] at this
    exact HI.out.below this
   clear hx hy hz HI
   go_upto_region 5 with (fail)
   rw [← hwn,← hbn]
   clear hwn hbn hI
   have HF:=Lib.hid (free_any x y z wn)
   obtain ⟨f,hf,hfi⟩:=HX.out
   have HNX:=Lib.hid (openTo_next hf)
   cases hxn:x.isNone with
   | true =>
     have HL2:Hid (l=openTo (j+1) s.fds):=by
      show _=_
      rw [HNX.out,← hfi,hxn,← HL.out]
      simp
     rw [hxn] at HF
     clear hxn hfi hf HX HNX HL
     go_wp2_with fail
     refine HF.out.mono ?_
     rintro e w2 ⟨rfl,hb2⟩
     have HI2:Hid (IAt w.heap.size (.slice X l.length cx) l w w2):=HIN.out.below hb2
     clear hb2 HIN d0 d1 d2 HBK HF
     go_wp2_with fail
     go_roundw
     case rel=>exact ⟨j+1,_,_,X,cx,l,rfl,rfl,rfl,by go_num,by omega,HL2.out,HI2.out⟩
     case measure=>simp;omega
   | false =>
     have HL2:Hid (l++[(j:Int)]=openTo (j+1) s.fds):=by
      show _=_
      rw [HNX.out,← hfi,hxn,← HL.out]
      rfl
     rw [hxn] at HF
     clear hxn hfi hf HX HNX HL
     go_wp2_with fail
     refine HF.out.mono ?_
     rintro e w2 ⟨rfl,hb2⟩
     have HI2:Hid (IAt w.heap.size (.slice X l.length cx) l w w2):=HIN.out.below hb2
     clear hb2 HIN d0 d1 d2 HBK HF
     go_wp2_with (at_builtin;refine wpList_append_num rfl (.tmp 17) (.tmp 19) rfl (j:Int) rfl HI2.out w2.heap.size 3 rfl rfl rfl hll ?_;intro v6 w6 HI6;obtain ⟨l3,hl3⟩:∃ l3,l3=l++[(j:Int)]:=⟨_,rfl⟩;rw [← hl3] at HI6 HL2;have HL3:Hid (l3.length=l.length+1):=(by show _=_;rw [hl3];simp);clear hl3;obtain ⟨X6,c6,rfl⟩:=HI6.out.form)
     go_roundw
     case rel=>exact ⟨j+1,_,_,X6,c6,l3,rfl,rfl,rfl,by go_num,by omega,HL2.out,HI6.out⟩
     case measure=>simp;omega
  ·obtain rfl:j=8:=by omega
   have HE:Hid (l=openOf s):=HL.out
   go_wp2_with fail
   go_ret
   rw [← HE.out]
   exact ⟨X,cx,rfl,HI.out⟩
end Sm
end Go.Proofs.YtbnpgakmhhfjkaaGreatDoor
namespace Go.Proofs.YtbnpgakmhhfjkaaGreatDoor
open Go.RowKit
namespace Tr
variable {t:T}
theorem kids_put (t:T) (d j:Int) (x:Bs) (k:Int) (hd:(find t d).isSome=true):kids (put t d x k) j=if j=d then ins (kids t j) x k else kids t j:=by
 unfold kids put
 rw [find_upd (put_id x k)]
 cases hf:find t j with
 | none =>
   split
   ·rename_i e;subst e;rw [hf] at hd;cases hd
   ·rfl
 | some e=>simp only [Option.map_some,Option.getD_some];split <;> rfl
end Tr
end Go.Proofs.YtbnpgakmhhfjkaaGreatDoor
namespace Go.Proofs.YtbnpgakmhhfjkaaGreatDoor
open Go.RowKit Rc
open Tr (Nm En T)
namespace St
theorem kids_upd {t:T} {f:En→En} (hf:∀ e,(f e).nd.id=e.nd.id) (hn:∀ e,(f e).names=e.names) (i j:Int):Tr.kids (Tr.upd t i f) j=Tr.kids t j:=by
 unfold Tr.kids
 rw [Tr.find_upd hf]
 cases Tr.find t j with
 | none=>rfl
 | some e=>simp only [Option.map_some,Option.getD_some];split <;> simp [hn]
theorem find_put {t:T} {i d k:Int} {x:Bs} (hne:i≠d) {e:En} (h:Tr.find t i=some e):Tr.find (Tr.put t d x k) i=some e:=by
 unfold Tr.put
 rw [Tr.find_upd (f:=fun e=>{ e with names:=Tr.ins e.names x k }) (fun _=>rfl),h]
 simp [hne]
def gname (j:Nat):Bs:=[103,UInt8.ofNat (97+j)]
def gpath (j:Nat):Bs:=[47,103,UInt8.ofNat (97+j)]
def fpath (j:Nat):Bs:=[47,102,UInt8.ofNat (97+j)]
structure Full (m:Nat) (s:State):Prop where
 ok:Ok s
 len:s.tree.length=9+m
 wr:∀ j,j<8→∃ i e,s.fds[j]?=some (.w i)∧Tr.find s.tree i=some e∧e.nd.kind=1∧e.nd.shut=false∧e.nd.links=1
 dis:∀ (a b:Nat) (i:Int),s.fds[a]?=some (.w i)→s.fds[b]?=some (.w i)→a=b
 names:∀ j,m≤j→j<10→Tr.get (Tr.kids s.tree 0) (gname j)=none
theorem root_is {t:T} (h:Tr.Good t):∃ r,Tr.find t 0=some r∧r.nd.kind=2:=by
 obtain ⟨r,rest,rfl,h1,h2⟩:=h.root
 refine ⟨r,?_,h2⟩
 rw [Tr.find_cons,if_pos h1]
theorem place_one {t:T} (h:Tr.Good t) (x:Bs):Tr.place t [x]=(0,x,0):=by
 obtain ⟨r,h1,h2⟩:=root_is h
 have hk:Tr.kindOf t 0=2:=by unfold Tr.kindOf;rw [Tr.ndOf_of h1,h2]
 unfold Tr.place
 rw [if_neg (by simp),if_neg (fun h=>h rfl)]
 show (if Tr.kindOf t 0≠2 then _ else _)=_
 rw [if_neg (fun h=>h hk)]
 rfl
theorem Full.close {m:Nat} {s:State} (h:Full m s) (k:Nat) (hk:k<8) (u:Nat) (hu:u≤1099511627776) :
    ∃ i,s.fds[k]?=some (.w i)∧closeFile s (k:Nat) u=(0,{ s with tree:=Tr.upd s.tree i (Tr.shutE u),fds:=s.fds.set k .free }):=by
 obtain ⟨i,e,h1,h2,h3,h4,h5⟩:=h.wr k hk
 have hus:used s (k:Nat)=some (.w i):=by
  unfold used
  rw [if_neg (by omega),Int.toNat_natCast,h1]
 have hs:Tr.seal_ s.tree i u=(0,Tr.upd s.tree i (Tr.shutE u)):=by
  unfold Tr.seal_ Tr.file Tr.kindOf
  rw [Tr.ndOf_of h2,h2,h3,h4,h5]
  simp
  omega
 refine ⟨i,h1,?_⟩
 unfold closeFile
 rw [hus]
 dsimp only
 rw [hs,if_neg (fun h=>h rfl),Int.toNat_natCast]
theorem Full.next {m:Nat} {s:State} (h:Full m s) (hm:m<10) (k:Nat) (hk:k<8) (u:Nat) (hu:u≤1099511627776) :
    ∃ s1 s2,do_ s (opn 6 [] (k:Nat) u [])=(no 0,s1)∧do_ s1 (opn 6 [] (k:Nat) 0 [])=(no 26,s1)∧do_ s1 (opn 1 (gpath m) 0 0 [])=(num (k:Nat),s2)∧Full (m+1) s2:=by
 obtain ⟨i,hi,hc⟩:=h.close k hk u hu
 obtain ⟨s1,hs1⟩:∃ s1:State,s1={ s with tree:=Tr.upd s.tree i (Tr.shutE u),fds:=s.fds.set k .free }:=⟨_,rfl⟩
 rw [← hs1] at hc
 have hok1:Ok s1:=by
  have:=close_ok h.ok (k:Nat) u
  rw [hc] at this
  exact this
 have hkl:k<s.fds.length:=by rw [h.ok.fds];exact hk
 have hfk:s1.fds[k]?=some .free:=by rw [hs1];exact List.getElem?_set_self hkl
 have hfo:∀ j,j≠k→s1.fds[j]?=s.fds[j]?:=fun j hj=>by rw [hs1];exact List.getElem?_set_ne (Ne.symm hj)
 have hus1:used s1 (k:Nat)=none:=by
  unfold used
  rw [if_neg (by omega),Int.toNat_natCast,hfk]
 have hle:least s1.fds=some k:=by
  unfold least
  refine List.findIdx?_eq_some_iff_getElem.2 ⟨by rw [hok1.fds];exact hk,?_,fun j hj=>?_⟩
  ·have:=hfk
   rw [List.getElem?_eq_getElem (by rw [hok1.fds];exact hk)] at this
   injection this with this
   rw [this]
   rfl
  ·obtain ⟨i',e',h1,_⟩:=h.wr j (by omega)
   rw [← hfo j (by omega),List.getElem?_eq_getElem (by rw [hok1.fds];omega)] at h1
   injection h1 with h1
   rw [h1]
   simp [Fd.isFree]
 have hsplit:Pa.split 8 (gpath m)=([gname m],0):=by
  have:∀ j,j<10→Pa.split 8 (gpath j)=([gname j],0):=by decide
  exact this m hm
 have hform:Tr.formed [gname m]=0:=by
  have:∀ j,j<10→Tr.formed [gname j]=0:=by decide
  exact this m hm
 have ht1:s1.tree=Tr.upd s.tree i (Tr.shutE u):=by rw [hs1]
 have hkids:∀ j,Tr.kids s1.tree j=Tr.kids s.tree j:=fun j=>by rw [ht1];exact kids_upd (f:=Tr.shutE u) (fun _=>rfl) (fun _=>rfl) i j
 have hget:Tr.get (Tr.kids s1.tree 0) (gname m)=none:=by rw [hkids];exact h.names m (Nat.le_refl _) hm
 have hlen1:s1.tree.length=9+m:=by rw [ht1,Tr.upd_length];exact h.len
 have hmake:Tr.make s1.tree [gname m] 1=((Tr.free s1.tree,0),Tr.put (Tr.insE s1.tree (Tr.fresh (Tr.free s1.tree) 1)) 0 (gname m) (Tr.free s1.tree)):=by
  unfold Tr.make
  rw [hform,if_neg (by decide),if_neg (by decide),place_one hok1.tree]
  dsimp only
  rw [if_neg (by decide),hget,if_neg (by simp),if_neg (by omega)]
 obtain ⟨s2,hs2⟩:∃ s2:State,s2={ s1 with tree:=(Tr.make s1.tree [gname m] 1).2,fds:=s1.fds.set k (.w (Tr.free s1.tree)) }:=⟨_,rfl⟩
 have hcr:create s1 [gname m]=(num (k:Nat),s2):=by
  unfold create
  rw [hle]
  dsimp only
  rw [hs2,hmake]
  rfl
 have hok2:Ok s2:=by
  have:=create_ok hok1 [gname m]
  rw [hcr] at this
  exact this
 obtain ⟨r0,hr0,hrk⟩:=root_is hok1.tree
 obtain ⟨_,_,_,hfr,hfr0⟩:=hok1.tree.free_ok
 have hfind:∀ (j:Int) (e:En),Tr.find s1.tree j=some e→e.nd.kind=1→Tr.find s2.tree j=some e:=fun j e he hk1=>by
  have hj0:j≠0:=fun e9=>by
   rw [e9,hr0] at he
   injection he with he
   rw [he,hk1] at hrk
   cases hrk
  rw [hs2,hmake]
  refine find_put hj0 ?_
  rw [Tr.find_insE hok1.tree.ris (fun e he=>hfr e he),if_neg,he]
  intro e9
  obtain ⟨h4,h5⟩:=Tr.find_some he
  exact hfr e h4 (h5.trans e9)
 have hfnew:Tr.find s2.tree (Tr.free s1.tree)=some (Tr.fresh (Tr.free s1.tree) 1):=by
  rw [hs2,hmake]
  refine find_put hfr0 ?_
  rw [Tr.find_insE hok1.tree.ris (fun e he=>hfr e he),if_pos (show Tr.free s1.tree=(Tr.fresh (Tr.free s1.tree) 1).nd.id from rfl)]
 have hf2k:s2.fds[k]?=some (.w (Tr.free s1.tree)):=by rw [hs2];exact List.getElem?_set_self (by rw [hok1.fds];exact hk)
 have hf2o:∀ j,j≠k→s2.fds[j]?=s.fds[j]?:=fun j hj=>by
  rw [← hfo j hj,hs2];exact List.getElem?_set_ne (Ne.symm hj)
 have hold:∀ j,j≠k→j<8→∃ i' e',s.fds[j]?=some (.w i')∧Tr.find s1.tree i'=some e'∧e'.nd.kind=1∧e'.nd.shut=false∧e'.nd.links=1:=fun j hj h8=>by
  obtain ⟨i',e',h1,h2,h3,h4,h5⟩:=h.wr j h8
  refine ⟨i',e',h1,?_,h3,h4,h5⟩
  have hne:i'≠i:=fun e9=>hj (h.dis j k i (e9 ▸ h1) hi)
  rw [ht1,Tr.find_upd (f:=Tr.shutE u) (fun _=>rfl),h2]
  simp only [Option.map_some]
  rw [if_neg hne]
 refine ⟨s1,s2,?_,?_,?_,hok2,?_,fun j hj=>?_,fun a b c ha hb=>?_,fun j hj hj10=>?_⟩
 ·show (no (closeFile s (k:Nat) u).1,(closeFile s (k:Nat) u).2)=_
  rw [hc]
 ·show (no (closeFile s1 (k:Nat) 0).1,(closeFile s1 (k:Nat) 0).2)=_
  unfold closeFile
  rw [hus1]
 ·have hp:paths (opn 1 (gpath m) 0 0 [])=([gname m],[],0):=by
   show (if asks1 1 then ((Pa.split 8 (gpath m)).1,[],(Pa.split 8 (gpath m)).2) else _)=_
   rw [if_pos (by decide),hsplit]
  unfold do_
  rw [hp]
  show create s1 [gname m]=_
  exact hcr
 ·rw [hs2,hmake]
  show (Tr.put _ _ _ _).length=_
  unfold Tr.put
  rw [Tr.upd_length,Tr.insE_length,hlen1]
  omega
 ·by_cases hjk:j=k
  ·subst hjk
   exact ⟨_,_,hf2k,hfnew,rfl,rfl,rfl⟩
  ·obtain ⟨i',e',h1,h2,h3,h4,h5⟩:=hold j hjk hj
   exact ⟨i',e',(hf2o j hjk).trans h1,hfind i' e' h2 h3,h3,h4,h5⟩
 ·have hnew:∀ j,j≠k→s2.fds[j]?≠some (.w (Tr.free s1.tree)):=fun j hj h9=>by
   have h8:j<8:=by
    have:=(List.getElem?_eq_some_iff.1 h9).1
    rw [hok2.fds] at this
    exact this
   obtain ⟨i',e',h1,h2,_⟩:=hold j hj h8
   rw [hf2o j hj,h1] at h9
   injection h9 with h9
   injection h9 with h9
   obtain ⟨h4,h5⟩:=Tr.find_some h2
   exact hfr e' h4 (h5.trans h9)
  by_cases hak:a=k
  ·by_cases hbk:b=k
   ·omega
   ·subst hak
    rw [hf2k] at ha
    injection ha with ha
    rw [← ha] at hb
    exact absurd hb (hnew b hbk)
  ·by_cases hbk:b=k
   ·subst hbk
    rw [hf2k] at hb
    injection hb with hb
    rw [← hb] at ha
    exact absurd ha (hnew a hak)
   ·rw [hf2o a hak] at ha
    rw [hf2o b hbk] at hb
    exact h.dis a b c ha hb
 ·have hri:Tr.Rise (Tr.kids s1.tree 0):=by
   rw [Tr.kids_of hr0]
   exact (hok1.tree.each r0 (Tr.find_some hr0).1).rise
  have hins:Tr.kids (Tr.insE s1.tree (Tr.fresh (Tr.free s1.tree) 1)) 0=Tr.kids s1.tree 0:=by
   unfold Tr.kids
   rw [Tr.find_insE hok1.tree.ris (fun e he=>hfr e he),if_neg (show ¬ (0:Int)=(Tr.fresh (Tr.free s1.tree) 1).nd.id from Ne.symm hfr0)]
  have hsome:(Tr.find (Tr.insE s1.tree (Tr.fresh (Tr.free s1.tree) 1)) 0).isSome=true:=by
   rw [Tr.find_insE hok1.tree.ris (fun e he=>hfr e he),if_neg (show ¬ (0:Int)=(Tr.fresh (Tr.free s1.tree) 1).nd.id from Ne.symm hfr0),hr0]
   rfl
  rw [hs2,hmake]
  show Tr.get (Tr.kids (Tr.put _ _ _ _) 0) _=none
  rw [Tr.kids_put _ _ _ _ _ hsome,if_pos rfl,hins,Tr.get_ins hri _ hget,if_neg,hkids]
  ·exact h.names j (by omega) hj10
  ·have:∀ a,a<10→∀ b,b<10→gname a=gname b→a=b:=by decide
   intro e9
   have:=this j hj10 m hm e9
   omega
def cr:Nat→State
 | 0=>new
 | n+1=>(do_ (cr n) (opn 1 (fpath n) 0 0 [])).2
def crF (n:Nat):List Fd:=(List.range n).map fun (k:Nat)=>Fd.w ((k:Int)+1)
theorem cr_num:∀ n,n<8→(do_ (cr n) (opn 1 (fpath n) 0 0 [])).1=num (n:Nat)
 | 0,_=>rfl
 | 1,_=>rfl
 | 2,_=>rfl
 | 3,_=>rfl
 | 4,_=>rfl
 | 5,_=>rfl
 | 6,_=>rfl
 | 7,_=>rfl
 | n+8,h=>by omega
theorem cr_ok:∀ n,n≤8→Ok (cr n)∧(cr n).snaps.next≤1+n
 | 0,_=>⟨new_ok,by show (1:Int)≤1+0;omega⟩
 | n+1,h=>by
   obtain ⟨h1,h2⟩:=cr_ok n (by omega)
   have h3:=do_next (cr n) (opn 1 (fpath n) 0 0 [])
   refine ⟨do_ok h1 (by omega) _,?_⟩
   show (do_ (cr n) _).2.snaps.next≤_
   omega
theorem cr_fds:(cr 8).fds=crF 8:=rfl
theorem full0:Full 0 (cr 8):=by
 refine ⟨(cr_ok 8 (by decide)).1,rfl,fun j hj=>?_,fun a b i ha hb=>?_,fun j _ hj=>?_⟩
 ·match j,hj with
  | 0,_=>exact ⟨_,_,rfl,rfl,rfl,rfl,rfl⟩
  | 1,_=>exact ⟨_,_,rfl,rfl,rfl,rfl,rfl⟩
  | 2,_=>exact ⟨_,_,rfl,rfl,rfl,rfl,rfl⟩
  | 3,_=>exact ⟨_,_,rfl,rfl,rfl,rfl,rfl⟩
  | 4,_=>exact ⟨_,_,rfl,rfl,rfl,rfl,rfl⟩
  | 5,_=>exact ⟨_,_,rfl,rfl,rfl,rfl,rfl⟩
  | 6,_=>exact ⟨_,_,rfl,rfl,rfl,rfl,rfl⟩
  | 7,_=>exact ⟨_,_,rfl,rfl,rfl,rfl,rfl⟩
  | n+8,h=>omega
 ·rw [cr_fds,crF,List.getElem?_map] at ha hb
  obtain ⟨x,hx,ha⟩:=Option.map_eq_some_iff.1 ha
  obtain ⟨y,hy,hb⟩:=Option.map_eq_some_iff.1 hb
  obtain ⟨h1,h2⟩:=List.getElem?_eq_some_iff.1 hx
  obtain ⟨h3,h4⟩:=List.getElem?_eq_some_iff.1 hy
  rw [List.getElem_range] at h2 h4
  injection ha with ha
  injection hb with hb
  omega
 ·have:∀ j,j<10→Tr.get (Tr.kids (cr 8).tree 0) (gname j)=none:=by
   intro j hj
   match j,hj with
   | 0,_=>rfl
   | 1,_=>rfl
   | 2,_=>rfl
   | 3,_=>rfl
   | 4,_=>rfl
   | 5,_=>rfl
   | 6,_=>rfl
   | 7,_=>rfl
   | 8,_=>rfl
   | 9,_=>rfl
   | n+10,h=>omega
  exact this j hj
theorem Full.least {m:Nat} {s:State} (h:Full m s):least s.fds=none:=by
 unfold St.least
 rw [List.findIdx?_eq_none_iff]
 intro f hf
 obtain ⟨j,hj,rfl⟩:=List.getElem_of_mem hf
 obtain ⟨i,e,h1,_⟩:=h.wr j (by rw [← h.ok.fds];exact hj)
 rw [List.getElem?_eq_getElem hj] at h1
 injection h1 with h1
 rw [h1]
 rfl
theorem Full.busy {m:Nat} {s:State} (h:Full m s):do_ s (opn 1 [47,120] 0 0 [])=(no 25,s)∧do_ s (opn 3 [47,102,97] 0 0 [])=(no 25,s):=by
 constructor
 ·show create s [[120]]=_
  unfold create
  rw [h.least]
 ·show openFile s [[102,97]] 0=_
  have ht:treeAt s 0=some s.tree:=rfl
  unfold openFile
  rw [ht]
  dsimp only
  rw [h.least]
end St
end Go.Proofs.YtbnpgakmhhfjkaaGreatDoor
namespace Go.Proofs.YtbnpgakmhhfjkaaGreatDoor
open Go.RowKit
namespace Wi
theorem emod_of_tmod (n d:Int) (h:0<d):(n.tmod d<0→n % d=n.tmod d+d)∧(¬ n.tmod d<0→n % d=n.tmod d):=by
 have l1:=Int.lt_tmod_of_pos n h
 have l2:=Int.tmod_lt_of_pos n h
 have e:n.tmod d % d=n % d:=by rw [Int.tmod_def,Int.sub_mul_emod_self_left]
 constructor
 ·intro hn
  rw [← e,← Int.add_emod_right]
  exact Int.emod_eq_of_lt (by omega) (by omega)
 ·intro hn
  rw [← e]
  exact Int.emod_eq_of_lt (by omega) (by omega)
def within0 (n:Int) (m:Nat):Nat:=(n % ((m:Int)+1)).toNat
theorem within0_le (n:Int) (m:Nat):within0 n m≤m:=by
 have:=Int.emod_lt_of_pos n (b:=(m:Int)+1) (by omega)
 unfold within0;omega
theorem within0_cast (n:Int) (m:Nat):((within0 n m:Nat):Int)=n % ((m:Int)+1):=by
 have:=Int.emod_nonneg n (b:=(m:Int)+1) (by omega)
 unfold within0;omega
theorem within_any (n:Int) (m:Nat) (w:World) (h2:m≤2000000) (_hn0:-9223372036854775808≤n) (_hn1:n≤9223372036854775807) :
    Calls Tryz.prog 30 #[.int .i64 n,.int .i64 0,.int .i64 m] w fun e w'=>e=.returned (.int .i64 (within0 n m))∧w=w':=by
 have l1:=Int.lt_tmod_of_pos n (b:=(m:Int)+1) (by omega)
 have l2:=Int.tmod_lt_of_pos n (b:=(m:Int)+1) (by omega)
 have em:=emod_of_tmod n ((m:Int)+1) (by omega)
 by_cases hn:n.tmod ((m:Int)+1)<0
 ·have HD:Hid (((within0 n m:Nat):Int)=n.tmod ((m:Int)+1)+m+1):=by
   show _=_
   rw [within0_cast,em.1 hn]
   omega
  clear em
  go_enter Tryz.func30,Tryz.ntmps30
  go_wp2
  go_ret
  exact ⟨ret_num HD.out,rfl⟩
 ·have HD:Hid (((within0 n m:Nat):Int)=n.tmod ((m:Int)+1)):=by
   show _=_
   rw [within0_cast,em.2 hn]
  clear em
  go_enter Tryz.func30,Tryz.ntmps30
  go_wp2
  go_ret
  exact ⟨ret_num HD.out,rfl⟩
end Wi
end Go.Proofs.YtbnpgakmhhfjkaaGreatDoor
namespace Go.Proofs.YtbnpgakmhhfjkaaGreatDoor
open Go.RowKit Rc
open Tr (Nm En T)
namespace Sm
set_option maxRecDepth 100000 in
theorem rune_at:∀ i,i<20→∀ w,(convert 21 9 (.int .i32 ((97+i:Nat):Int))).run Tryz.prog w=.ok (.string (strOf [UInt8.ofNat (97+i)])) w:=by
 intro i hi w
 match i,hi with
 | 0,_=>rfl
 | 1,_=>rfl
 | 2,_=>rfl
 | 3,_=>rfl
 | 4,_=>rfl
 | 5,_=>rfl
 | 6,_=>rfl
 | 7,_=>rfl
 | 8,_=>rfl
 | 9,_=>rfl
 | 10,_=>rfl
 | 11,_=>rfl
 | 12,_=>rfl
 | 13,_=>rfl
 | 14,_=>rfl
 | 15,_=>rfl
 | 16,_=>rfl
 | 17,_=>rfl
 | 18,_=>rfl
 | 19,_=>rfl
 | k+20,h=>exact absurd h (by omega)
theorem open_all {l:List St.Fd} (h:∀ j,j<8→∃ f,l[j]?=some f∧f.isFree=false):∀ j,j≤8→(openTo j l).length=j
 | 0,_=>rfl
 | j+1,hj=>by
   obtain ⟨f,h1,h2⟩:=h j (by omega)
   rw [openTo_next h1,h2,List.length_append,open_all h j (by omega)]
   rfl
theorem full_open {m:Nat} {s:St.State} (h:St.Full m s):(openOf s).length=8 :=
 open_all (fun j hj=>by obtain ⟨i,e,h1,_⟩:=h.wr j hj;exact ⟨_,h1,rfl⟩) 8 (Nat.le_refl _)
theorem SP.openL {w0 w:World} {v:Value} {s:St.State} {Q:Nat→Prop} (h:SP w0 v s Q w) (h8:s.fds.length=8):Calls Tryz.prog 25 #[v] w fun e w'=>∃ X c,e=.returned (.slice X (openOf s).length c)∧Below w.heap.size w w':=by
 obtain ⟨S,h1,_⟩:=h
 obtain ⟨p,tv,sv,qs,B1,B2,D,rfl,h1,_⟩:=h1
 refine (openL_any h1 h8).mono ?_
 rintro e w' ⟨X,c,rfl,hi⟩
 exact ⟨X,c,rfl,hi.2.1⟩
theorem cr_step {i:Nat} (h:i<8):St.do_ (St.cr i) (St.opn 1 (St.fpath i) 0 0 [])=(St.num (i:Nat),St.cr (i+1)):=Prod.ext (St.cr_num i h) rfl
set_option maxHeartbeats 8000000 in
set_option maxRecDepth 100000 in
theorem opens_any (w:World) (n:Int) (bn:-9223372036854775808≤n∧n≤9223372036854775807) (AC:Option Addr) (cls:List Int) (cc:Nat) (hr:RdI w AC cls) (hcc:cls.length≤cc) (hlc:cls.length≤9223372036854775807) (hK:KAt w) :
    Calls Tryz.prog 8 #[.int .i64 n,.slice AC cls.length cc] w fun e w'=>e=.returned (.bool true)∧Below w.heap.size w w':=by
 have HK:=Lib.hid hK
 have HNEW:=Lib.hid (SP.new w)
 have HRC:=Lib.hid hr
 obtain ⟨nl,hnl⟩:∃ x,x=cls.length:=⟨_,rfl⟩
 rw [← hnl] at hcc hlc ⊢
 have HNL:=Lib.hid hnl
 obtain ⟨u,hu⟩:∃ x,x=Wi.within0 n 9:=⟨_,rfl⟩
 have HU:Hid (u≤9):=by show u≤9;rw [hu];exact Wi.within0_le n 9
 have HWN:Hid (∀ W,Calls Tryz.prog 30 #[.int .i64 n,.int .i64 0,.int .i64 9] W fun e w'=>e=.returned (.int .i64 (u:Nat))∧W=w'):=fun W=>by rw [hu];exact Wi.within_any n 9 W (by decide) bn.1 bn.2
 have HUC:Hid (IntKind.u64.wrap (u:Int)=(u:Int)):=by show _=_;have:=HU.out;rw [IntKind.wrap_u64];omega
 clear hr hnl hu hK
 go_enter Tryz.func8,Tryz.ntmps8
 go_wp2_with fail
 refine HNEW.out.mono ?_
 rintro e w1 ⟨p,rfl,HS0⟩
 clear HNEW
 go_upto_block 0 with (fail)
 go_cut [6,7] (fun t6 t7 wx=>∃ (WX:World) (v6 v7:Value),WX=wx∧t6=v6∧t7=v7∧Hid (SP w (.pointer (some ⟨p,0,none⟩)) (St.cr 8) (fun _=>False) WX))
 case first =>
  go_wp2_with fail
  go_loopw [6,7] (fun t6 t7 wr=>∃ (i:Nat) (v7:Value),t6=.int .i64 (i:Nat)∧t7=v7∧i≤8∧Hid (SP w (.pointer (some ⟨p,0,none⟩)) (St.cr i) (fun _=>False) wr)) (fun t6 _ _=>8-(match t6 with|.int _ k=>k.toNat|_=>0))
  case atStart=>exact ⟨0,_,rfl,rfl,by omega,HS0⟩
  case round =>
   obtain ⟨i,v7,rfl,rfl,hi8,HSi⟩:=hrel
   clear HS0
   by_cases hk:i<8
   ·have hi1:(i:Int)<8:=by omega
    obtain ⟨c,hc⟩:∃ c,c=97+i:=⟨_,rfl⟩
    have w1c:IntKind.i64.wrap (97+(i:Int))=(c:Int):=by rw [IntKind.wrap_i64];omega
    have w2c:IntKind.i32.wrap (c:Int)=(c:Int):=by simp [IntKind.wrap,IntKind.bits,IntKind.signed];omega
    have hrr:=rune_at i (by omega) wr
    rw [← hc] at hrr
    have hadd:Op.stringOp .add ⟨#[47,102]⟩ (strOf [UInt8.ofNat c])=pure (.string (strOf (St.fpath i))):=by
     rw [hc]
     exact str_add [47,102] [UInt8.ofNat (97+i)] (by simp)
    have HCR:=Lib.hid (St.cr_ok i hi8)
    have HST:=Lib.hid (cr_step hk)
    have hij:IntKind.i64.wrap ((i:Int)+1)=((i+1:Nat):Int):=by rw [IntKind.wrap_i64];omega
    clear hc hk
    have HM:Hid (Calls Tryz.prog 15 #[(.pointer (some ⟨p,0,none⟩)),.agg #[.int .i64 1,.string (strOf (St.fpath i)),.string { data:=#[] },.int .i64 0,.int .i64 0,.int .i64 0,.int .u64 0,.int .i64 0,.slice none 0 0]] wr (SDoP w (.pointer (some ⟨p,0,none⟩)) (St.cr (i+1)) 0 (i:Nat) (fun _=>False) wr)):=HSi.out.doP (HST.out) HCR.out.1 (St.opn 1 (St.fpath i) 0 0 []) rfl ((fit_small 1 (St.fpath i) [] 0 0 0 0 0 [] (by decide) (show 3≤1000000 by decide) (by decide) (by decide) (by decide) (by decide) (by decide) (by decide) (by decide))) none 0 (by have:=HCR.out.2;omega) (Rd.nil _ _) (KAt.below HK.out HSi.out.low HK.out.pos)
    go_wp2_with fail
    refine HM.out.mono ?_
    rintro e wd1 ⟨RA1,rc1,RB1,rd1,rfl,HS1,HQ1⟩
    clear HM HQ1 HSi w1c w2c hrr hadd
    obtain ⟨Wk1,hW⟩:∃ W,W=wd1.alloc (.cells #[.int .i64 0,.int .i64 (i:Nat),.slice RA1 0 rc1,.slice RB1 0 rd1,.int .i64 0,.int .i64 0,.int .i64 0,.int .i64 0,.int .u64 0,.bool false] 33):=⟨_,rfl⟩
    obtain ⟨gk1,hg⟩:∃ g,g=wd1.heap.size:=⟨_,rfl⟩
    have HXnk1:Hid (Blk Wk1 gk1 33 [.int .i64 0,.int .i64 (i:Nat),.slice RA1 0 rc1,.slice RB1 0 rd1,.int .i64 0,.int .i64 0,.int .i64 0,.int .i64 0,.int .u64 0,.bool false]):=by show Blk _ _ _ _;rw [hW,hg];exact Blk.new wd1 _ _
    have hbn:Below wd1.heap.size wd1 Wk1:=by rw [hW];exact below_new wd1 _
    have HSk1:Hid (SP w (.pointer (some ⟨p,0,none⟩)) _ (fun b=>b=gk1∨(fun _=>False) b) Wk1):=HS1.out.made hbn gk1 (Nat.le_of_eq hg.symm) HXnk1.out.lt
    clear hbn HS1 
    go_upto_region 8 with (fail)
    rw [← hW,← hg]
    clear hW hg
    have x0_0:=HXnk1.out.cell 0
    have x0_1:=HXnk1.out.cell 1
    go_wp2_with fail
    go_roundw
    case rel=>exact ⟨i+1,_,by go_num,rfl,by omega,HSk1.out.less fun _ h=>h.elim⟩
    case measure=>simp;omega
   ·obtain rfl:i=8:=by omega
    go_wp2_with fail
    go_meet
    case rel=>exact ⟨_,_,_,rfl,rfl,rfl,HSi⟩
 case rest =>
 obtain ⟨WX,v6,v7,hWX,rfl,rfl,HS8⟩:=hcut
 subst hWX
 clear HS0
 have HFU:Hid (St.Full 0 (St.cr 8)):=St.full0
 have HNX8:Hid ((St.cr 8).snaps.next≤9):=by have:=(St.cr_ok 8 (by omega)).2;show _≤_;omega
 obtain ⟨s8,hs8⟩:∃ x,x=St.cr 8:=⟨_,rfl⟩
 rw [← hs8] at HFU HNX8 HS8
 clear hs8
 have HBZ:=Lib.hid HFU.out.busy
 have HO8:Hid (St.Ok s8):=HFU.out.ok
 have HM:Hid (Calls Tryz.prog 15 #[(.pointer (some ⟨p,0,none⟩)),.agg #[.int .i64 1,.string { data:=#[47,120] },.string { data:=#[] },.int .i64 0,.int .i64 0,.int .i64 0,.int .u64 0,.int .i64 0,.slice none 0 0]] WX (SDoP w (.pointer (some ⟨p,0,none⟩)) s8 25 0 (fun _=>False) WX)):=HS8.out.doP (HBZ.out.1) HO8.out (St.opn 1 [47,120] 0 0 []) rfl ((fit_small 1 [47,120] [] 0 0 0 0 0 [] (by decide) (by decide) (by decide) (by decide) (by decide) (by decide) (by decide) (by decide) (by decide))) none 0 (by have:=HNX8.out;omega) (Rd.nil _ _) (KAt.below HK.out HS8.out.low HK.out.pos)
 go_wp2_with fail
 refine HM.out.mono ?_
 rintro e wd21 ⟨RA21,rc21,RB21,rd21,rfl,HS21,HQ21⟩
 clear HM HQ21 HS8 
 have hfd:∀ W:World,(Instr.field 33 (.agg #[.int .i64 25,.int .i64 0,.slice RA21 0 rc21,.slice RB21 0 rd21,.int .i64 0,.int .i64 0,.int .i64 0,.int .i64 0,.int .u64 0,.bool false]) 0).run Tryz.prog W=.ok (.int .i64 25) W:=fun _=>by kernel_rfl
 have HM:Hid (Calls Tryz.prog 15 #[(.pointer (some ⟨p,0,none⟩)),.agg #[.int .i64 3,.string { data:=#[47,102,97] },.string { data:=#[] },.int .i64 0,.int .i64 0,.int .i64 0,.int .u64 0,.int .i64 0,.slice none 0 0]] wd21 (SDoP w (.pointer (some ⟨p,0,none⟩)) s8 25 0 (fun _=>False) wd21)):=HS21.out.doP (HBZ.out.2) HO8.out (St.opn 3 [47,102,97] 0 0 []) rfl ((fit_small 3 [47,102,97] [] 0 0 0 0 0 [] (by decide) (by decide) (by decide) (by decide) (by decide) (by decide) (by decide) (by decide) (by decide))) none 0 (by have:=HNX8.out;omega) (Rd.nil _ _) (KAt.below HK.out HS21.out.low HK.out.pos)
 go_wp2_with fail
 refine HM.out.mono ?_
 rintro e wd22 ⟨RA22,rc22,RB22,rd22,rfl,HS22,HQ22⟩
 clear HM HQ22 HS21 hfd
 have hfd:∀ W:World,(Instr.field 33 (.agg #[.int .i64 25,.int .i64 0,.slice RA22 0 rc22,.slice RB22 0 rd22,.int .i64 0,.int .i64 0,.int .i64 0,.int .i64 0,.int .u64 0,.bool false]) 0).run Tryz.prog W=.ok (.int .i64 25) W:=fun _=>by kernel_rfl
 have hop:=SP.openL HS22.out HO8.out.fds
 rw [full_open HFU.out] at hop
 have HOP:=Lib.hid hop
 clear hop
 go_wp2_with fail
 refine HOP.out.mono ?_
 rintro e w9 ⟨X9,c9,rfl,hb9⟩
 have HS9:Hid (SP w (.pointer (some ⟨p,0,none⟩)) s8 (fun _=>False) w9):=HS22.out.later hb9
 clear hb9 HOP HS22 hfd HBZ HO8
 go_wp2_with fail
 go_loopw [8,9,10,11] (fun t8 t9 t10 t11 wr=>∃ (m:Nat) (st:St.State) (v9 v10 v11:Value),t8=.int .i64 (m:Nat)∧t9=v9∧t10=v10∧t11=v11∧m≤10∧m≤nl∧Hid (St.Full m st)∧Hid (st.snaps.next≤9+3*(m:Int))∧Hid (SP w (.pointer (some ⟨p,0,none⟩)) st (fun _=>False) wr)) (fun t8 _ _ _ _=>10-(match t8 with|.int _ k=>k.toNat|_=>0))
 case atStart=>exact ⟨0,s8,_,_,_,rfl,rfl,rfl,rfl,by omega,by omega,HFU,HNX8.out,HS9⟩
 case round =>
  obtain ⟨m,st,v9,v10,v11,rfl,rfl,rfl,rfl,hm10,hmn,HF,HNX,HSm⟩:=hrel
  clear HS9 HFU HNX8
  by_cases hlt:m<nl
  ·by_cases h10:m<10
   ·have hi1:(m:Int)<(nl:Int):=by omega
    have hi2:(m:Int)<10:=by omega
    obtain ⟨x,hx⟩:∃ x,cls[m]?=some x:=⟨_,List.getElem?_eq_getElem (by rw [← HNL.out];exact hlt)⟩
    obtain ⟨hxb,b,off,rfl,hbl,hcell⟩:=HRC.out m x hx
    have cl0:wr.cell? ⟨b,off+m,none⟩=some (.int .i64 x):=(HSm.out.low.cell (p:=⟨b,off+m,none⟩) hbl).trans hcell
    obtain ⟨k,hk⟩:∃ k,k=Wi.within0 x 7:=⟨_,rfl⟩
    have hk8:k<8:=by have:=Wi.within0_le x 7;omega
    have HWK:Hid (∀ W,Calls Tryz.prog 30 #[.int .i64 x,.int .i64 0,.int .i64 7] W fun e w'=>e=.returned (.int .i64 (k:Nat))∧W=w'):=fun W=>by rw [hk];exact Wi.within_any x 7 W (by decide) hxb.1 hxb.2
    obtain ⟨st1,st2,e1,e2,e3,hF2⟩:=HF.out.next h10 k hk8 u (by have:=HU.out;omega)
    have HE1:=Lib.hid e1
    have HE2:=Lib.hid e2
    have HE3:=Lib.hid e3
    have HF2:=Lib.hid hF2
    have HOm:Hid (St.Ok st):=HF.out.ok
    have HN1:Hid (st1.snaps.next≤10+3*(m:Int)):=by have:=St.do_next st (St.opn 6 [] (k:Nat) u []);rw [HE1.out] at this;change st1.snaps.next≤_ at this;have h9:st.snaps.next≤9+3*(m:Int):=HNX.out;show st1.snaps.next≤10+3*(m:Int);omega
    have HN2:Hid (st2.snaps.next≤11+3*(m:Int)):=by have:=St.do_next st1 (St.opn 1 (St.gpath m) 0 0 []);rw [HE3.out] at this;change st2.snaps.next≤_ at this;have h9:st1.snaps.next≤10+3*(m:Int):=HN1.out;show st2.snaps.next≤11+3*(m:Int);omega
    have HO1:Hid (St.Ok st1):=ok_next HOm.out (by have:=HNX.out;omega) HE1.out
    have HK8:=Lib.hid hk8
    clear hk hk8 e1 e2 e3 hF2 hx hxb hbl hcell
    go_wp2_with fail
    refine (HWK.out wr).mono ?_
    rintro e _ ⟨rfl,rfl⟩
    clear cl0 HWK
    go_wp2_with fail
    refine (HWN.out wr).mono ?_
    rintro e _ ⟨rfl,rfl⟩
    have huc:=HUC.out
    have HM:Hid (Calls Tryz.prog 15 #[(.pointer (some ⟨p,0,none⟩)),.agg #[.int .i64 6,.string { data:=#[] },.string { data:=#[] },.int .i64 (k:Nat),.int .i64 0,.int .i64 0,.int .u64 (u:Nat),.int .i64 0,.slice none 0 0]] wr (SDoP w (.pointer (some ⟨p,0,none⟩)) st1 0 0 (fun _=>False) wr)):=HSm.out.doP (HE1.out) HOm.out (St.opn 6 [] (k:Nat) u []) rfl ((fit_small 6 [] [] (k:Nat) 0 0 u 0 [] (by decide) (by decide) (by decide) (by have:=HK8.out;omega) (by decide) (by decide) (by have:=HU.out;omega) (by decide) (by decide))) none 0 (by have:=HNX.out;omega) (Rd.nil _ _) (KAt.below HK.out HSm.out.low HK.out.pos)
    go_wp2_with fail
    refine HM.out.mono ?_
    rintro e wd41 ⟨RA41,rc41,RB41,rd41,rfl,HS41,HQ41⟩
    clear HM HQ41 HSm huc
    obtain ⟨Wk41,hW⟩:∃ W,W=wd41.alloc (.cells #[.int .i64 0,.int .i64 0,.slice RA41 0 rc41,.slice RB41 0 rd41,.int .i64 0,.int .i64 0,.int .i64 0,.int .i64 0,.int .u64 0,.bool false] 33):=⟨_,rfl⟩
    obtain ⟨gk41,hg⟩:∃ g,g=wd41.heap.size:=⟨_,rfl⟩
    have HXnk41:Hid (Blk Wk41 gk41 33 [.int .i64 0,.int .i64 0,.slice RA41 0 rc41,.slice RB41 0 rd41,.int .i64 0,.int .i64 0,.int .i64 0,.int .i64 0,.int .u64 0,.bool false]):=by show Blk _ _ _ _;rw [hW,hg];exact Blk.new wd41 _ _
    have hbn:Below wd41.heap.size wd41 Wk41:=by rw [hW];exact below_new wd41 _
    have HSk41:Hid (SP w (.pointer (some ⟨p,0,none⟩)) _ (fun b=>b=gk41∨(fun _=>False) b) Wk41):=HS41.out.made hbn gk41 (Nat.le_of_eq hg.symm) HXnk41.out.lt
    clear hbn HS41 
    go_upto_region 17 with (fail)
    rw [← hW,← hg]
    clear hW hg
    have x0_0:=HXnk41.out.cell 0
    have HM:Hid (Calls Tryz.prog 15 #[(.pointer (some ⟨p,0,none⟩)),.agg #[.int .i64 6,.string { data:=#[] },.string { data:=#[] },.int .i64 (k:Nat),.int .i64 0,.int .i64 0,.int .u64 0,.int .i64 0,.slice none 0 0]] Wk41 (SDoP w (.pointer (some ⟨p,0,none⟩)) st1 26 0 (fun b=>b=gk41∨(fun _=>False) b) Wk41)):=HSk41.out.doP (HE2.out) HO1.out (St.opn 6 [] (k:Nat) 0 []) rfl ((fit_small 6 [] [] (k:Nat) 0 0 0 0 [] (by decide) (by decide) (by decide) (by have:=HK8.out;omega) (by decide) (by decide) (by decide) (by decide) (by decide))) none 0 (by have:=HN1.out;omega) (Rd.nil _ _) (KAt.below HK.out HSk41.out.low HK.out.pos)
    go_wp2_with fail
    refine HM.out.mono ?_
    rintro e wd42 ⟨RA42,rc42,RB42,rd42,rfl,HS42,HQ42⟩
    have HX0_42:Hid (Blk wd42 gk41 33 [.int .i64 0,.int .i64 0,.slice RA41 0 rc41,.slice RB41 0 rd41,.int .i64 0,.int .i64 0,.int .i64 0,.int .i64 0,.int .u64 0,.bool false]):=(HQ42.out gk41 (.inl rfl)).trans HXnk41.out
    clear HM HQ42 HSk41 HXnk41 x0_0
    have hfd:∀ W:World,(Instr.field 33 (.agg #[.int .i64 26,.int .i64 0,.slice RA42 0 rc42,.slice RB42 0 rd42,.int .i64 0,.int .i64 0,.int .i64 0,.int .i64 0,.int .u64 0,.bool false]) 0).run Tryz.prog W=.ok (.int .i64 26) W:=fun _=>by kernel_rfl
    obtain ⟨c,hc⟩:∃ c,c=97+m:=⟨_,rfl⟩
    have w1c:IntKind.i64.wrap (97+(m:Int))=(c:Int):=by rw [IntKind.wrap_i64];omega
    have w2c:IntKind.i32.wrap (c:Int)=(c:Int):=by simp [IntKind.wrap,IntKind.bits,IntKind.signed];omega
    have hrr:=rune_at m (by omega) wd42
    rw [← hc] at hrr
    have hadd:Op.stringOp .add ⟨#[47,103]⟩ (strOf [UInt8.ofNat c])=pure (.string (strOf (St.gpath m))):=by
     rw [hc]
     exact str_add [47,103] [UInt8.ofNat (97+m)] (by simp)
    clear hc
    have HM:Hid (Calls Tryz.prog 15 #[(.pointer (some ⟨p,0,none⟩)),.agg #[.int .i64 1,.string (strOf (St.gpath m)),.string { data:=#[] },.int .i64 0,.int .i64 0,.int .i64 0,.int .u64 0,.int .i64 0,.slice none 0 0]] wd42 (SDoP w (.pointer (some ⟨p,0,none⟩)) st2 0 (k:Nat) (fun b=>b=gk41∨(fun _=>False) b) wd42)):=HS42.out.doP (HE3.out) HO1.out (St.opn 1 (St.gpath m) 0 0 []) rfl ((fit_small 1 (St.gpath m) [] 0 0 0 0 0 [] (by decide) (show 3≤1000000 by decide) (by decide) (by decide) (by decide) (by decide) (by decide) (by decide) (by decide))) none 0 (by have:=HN1.out;omega) (Rd.nil _ _) (KAt.below HK.out HS42.out.low HK.out.pos)
    go_wp2_with fail
    refine HM.out.mono ?_
    rintro e wd43 ⟨RA43,rc43,RB43,rd43,rfl,HS43,HQ43⟩
    have HX0_43:Hid (Blk wd43 gk41 33 [.int .i64 0,.int .i64 0,.slice RA41 0 rc41,.slice RB41 0 rd41,.int .i64 0,.int .i64 0,.int .i64 0,.int .i64 0,.int .u64 0,.bool false]):=(HQ43.out gk41 (.inl rfl)).trans HX0_42.out
    clear HM HQ43 HS42 HX0_42 hfd w1c w2c hrr hadd
    have hfd:∀ W:World,(Instr.field 33 (.agg #[.int .i64 0,.int .i64 (k:Nat),.slice RA43 0 rc43,.slice RB43 0 rd43,.int .i64 0,.int .i64 0,.int .i64 0,.int .i64 0,.int .u64 0,.bool false]) 1).run Tryz.prog W=.ok (.int .i64 (k:Nat)) W:=fun _=>by kernel_rfl
    have hij:IntKind.i64.wrap ((m:Int)+1)=((m+1:Nat):Int):=by rw [IntKind.wrap_i64];omega
    go_wp2_with fail
    go_roundw
    case rel=>exact ⟨m+1,st2,_,_,_,by go_num,rfl,rfl,rfl,by omega,by omega,HF2,(show st2.snaps.next≤9+3*((m+1:Nat):Int) by have h9:st2.snaps.next≤11+3*(m:Int):=HN2.out;omega),HS43.out.less fun _ h=>h.elim⟩
    case measure=>simp;omega
   ·obtain rfl:m=10:=by omega
    have hi1:((10:Nat):Int)<(nl:Int):=by omega
    have hop:=SP.openL HSm.out HF.out.ok.fds
    rw [full_open HF.out] at hop
    have HOP:=Lib.hid hop
    clear hop
    go_wp2_with fail
    refine HOP.out.mono ?_
    rintro e wA ⟨X9,c9,rfl,hb9⟩
    have HBA:Hid (Below w.heap.size w wA):=HSm.out.low.trans (hb9.mono HSm.out.low.size)
    clear hb9
    go_wp2_with fail
    refine (known_any wA (KAt.below HK.out HBA.out HK.out.pos)).mono ?_
    rintro e wz ⟨rfl,hbz⟩
    have HBZ:Hid (Below w.heap.size w wz):=HBA.out.trans (hbz.mono HBA.out.size)
    clear hbz
    go_wp2_with fail
    go_ret
    exact ⟨rfl,HBZ.out⟩
  ·obtain rfl:m=nl:=by omega
   have hop:=SP.openL HSm.out HF.out.ok.fds
   rw [full_open HF.out] at hop
   have HOP:=Lib.hid hop
   clear hop
   go_wp2_with fail
   refine HOP.out.mono ?_
   rintro e wA ⟨X9,c9,rfl,hb9⟩
   have HBA:Hid (Below w.heap.size w wA):=HSm.out.low.trans (hb9.mono HSm.out.low.size)
   clear hb9
   go_wp2_with fail
   refine (known_any wA (KAt.below HK.out HBA.out HK.out.pos)).mono ?_
   rintro e wz ⟨rfl,hbz⟩
   have HBZ:Hid (Below w.heap.size w wz):=HBA.out.trans (hbz.mono HBA.out.size)
   clear hbz
   go_wp2_with fail
   go_ret
   exact ⟨rfl,HBZ.out⟩
end Sm
end Go.Proofs.YtbnpgakmhhfjkaaGreatDoor
