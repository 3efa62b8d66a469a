/-
  OWN WORK. StDoF, StDoG, KpPure, StTame, StDo, StNew, StKnown, PtWithin, KpName, BaCut, Ag2
-/
import Derived.Test.YtbnpgakmhhfjkaaGreatDoorZ16
import Derived.Test.YtbnpgakmhhfjkaaGreatDoorZ18
import Derived.Test.YtbnpgakmhhfjkaaGreatDoorZ15
import Derived.Test.YtbnpgakmhhfjkaaGreatDoorZ17
import Derived.Test.YtbnpgakmhhfjkaaGreatDoorZ13
import Derived.Test.YtbnpgakmhhfjkaaGreatDoorZ01
import Derived.Test.YtbnpgakmhhfjkaaGreatDoorZ02
import Derived.Test.YtbnpgakmhhfjkaaGreatDoorZ05
import Derived.OwnWalk
namespace Go.Proofs.YtbnpgakmhhfjkaaGreatDoor
open Go.RowKit Rc
open Tr (Nm En T)
open Tm (tobj)
open Sn (sobj)
open St (alone)
namespace Sm
variable {p:Nat} {tv sv:Value} {qs:List Value} {B1 B2 D:Nat→Prop} {s:St.State} {w w':World}
set_option maxHeartbeats 4000000 in
set_option maxRecDepth 100000 in
theorem do_15 (h:StIn p tv sv qs B1 B2 D s w) (hO:St.Ok s) (o:St.Opn) (hk1:o.kind=15) (A0:Option Addr) (c0:Nat) (h1:o.path.length≤9223372036854775807) (h2:o.dest.length≤9223372036854775807) :
    Calls Tryz.prog 15 #[.pointer (some ⟨p,0,none⟩),opV o (.slice A0 o.data.length c0)] w (DoAns (.pointer (some ⟨p,0,none⟩)) s o (StS p B1 B2 D) w):=by
 have HPA:Hid (∀ W,Calls Tryz.prog 38 #[opV o (.slice A0 o.data.length c0)] W (PAns o W)):=fun W=>paths_any o A0 o.data.length c0 W h1 h2
 have HDO:Hid (St.do_ s o=if (St.paths o).2.2≠0 then (St.no (St.paths o).2.2,s) else (St.no (Sn.forget s.snaps o.snap s.now).1,{ s with snaps:=(Sn.forget s.snaps o.snap s.now).2 })):=by
  show _=_
  unfold St.do_
  rw [hk1]
  rw [if_neg (by decide:¬ (15:Int)=1),if_neg (by decide:¬ (15:Int)=2),if_neg (by decide:¬ (15:Int)=3),if_neg (by decide:¬ (15:Int)=4),if_neg (by decide:¬ (15:Int)=5),if_neg (by decide:¬ (15:Int)=6),if_neg (by decide:¬ (15:Int)=7),if_neg (by decide:¬ (15:Int)=8),if_neg (by decide:¬ (15:Int)=9),if_neg (by decide:¬ (15:Int)=10),if_neg (by decide:¬ (15:Int)=11),if_neg (by decide:¬ (15:Int)=12),if_neg (by decide:¬ (15:Int)=13),if_neg (by decide:¬ (15:Int)=14),if_pos rfl]
 obtain ⟨P,hP⟩:∃ P,P=St.paths o:=⟨_,rfl⟩
 have HPP:Hid (∀ e W W',PAns o W e W'→∃ A c A2 c2,e=.returned (.tuple #[.slice A P.1.length c,.slice A2 P.2.1.length c2,.int .i64 (P.2.2:Nat)])∧Way W' A P.1 c∧Way W' A2 P.2.1 c2∧Below W.heap.size W W'):=fun e W W' hh=>by rw [hP];exact hh
 rw [← hP] at HDO
 obtain ⟨p1,p2,pc⟩:=P
 dsimp only at HPP HDO
 clear hP h1 h2
 obtain ⟨kind,path,dest,fd,at_,n,till,snap,data⟩:=o
 dsimp only at hk1 HDO
 subst hk1
 obtain ⟨tp,rfl⟩:=tobj.ptr h.tr
 obtain ⟨sp,rfl⟩:=sobj.ptr h.sn
 obtain ⟨V0,hV0⟩:∃ V0,V0=w.alloc (.cells #[.int .i64 15,.string (strOf path),.string (strOf dest),.int .i64 fd,.int .i64 at_,.int .i64 n,.int .u64 (till:Nat),.int .i64 snap,.slice A0 data.length c0] 36):=⟨_,rfl⟩
 obtain ⟨go,hgo⟩:∃ go,go=w.heap.size:=⟨_,rfl⟩
 have HOP:Hid (Blk V0 go 36 [.int .i64 15,.string (strOf path),.string (strOf dest),.int .i64 fd,.int .i64 at_,.int .i64 n,.int .u64 (till:Nat),.int .i64 snap,.slice A0 data.length c0]):=by show Blk _ _ _ _;rw [hV0,hgo];exact Blk.new w _ _
 have hbv:Below w.heap.size w V0:=by rw [hV0];exact below_new w _
 obtain ⟨W0,hW0⟩:∃ W0,W0=V0.alloc (.cells #[.int .i64 0,.int .i64 0,.slice none 0 0,.slice none 0 0,.int .i64 0,.int .i64 0,.int .i64 0,.int .i64 0,.int .u64 0,.bool false] 33):=⟨_,rfl⟩
 obtain ⟨g,hg⟩:∃ g,g=V0.heap.size:=⟨_,rfl⟩
 have HZ0:Hid (Blk W0 g 33 [.int .i64 0,.int .i64 0,.slice none 0 0,.slice none 0 0,.int .i64 0,.int .i64 0,.int .i64 0,.int .i64 0,.int .u64 0,.bool false]):=by show Blk _ _ _ _;rw [hW0,hg];exact Blk.new V0 _ _
 have hbw:Below V0.heap.size V0 W0:=by rw [hW0];exact below_new V0 _
 have HB0:Hid (Below w.heap.size w W0):=hbv.trans (hbw.mono hbv.size)
 have HOP0:Hid (Blk W0 go 36 [.int .i64 15,.string (strOf path),.string (strOf dest),.int .i64 fd,.int .i64 at_,.int .i64 n,.int .u64 (till:Nat),.int .i64 snap,.slice A0 data.length c0]):=HOP.out.below hbw HOP.out.lt
 have HGG:Hid (w.heap.size≤g):=by show _≤_;rw [hg];exact hbv.size
 have HNG:Hid (¬ StS p B1 B2 D g):=fun h9=>by
  have:=h.lt h9
  have h8:w.heap.size≤g:=HGG.out
  omega
 have HN0:Hid (Nw p (.pointer (some tp)) (.pointer (some sp)) qs w (StS p B1 B2 D) B1 B2 D s W0):=(Nw.start h).later HB0.out
 have HO:=Lib.hid hO
 clear h hO hbv hbw HOP
 have o0:=HOP0.out.cell 0
 have o1:=HOP0.out.cell 1
 have o2:=HOP0.out.cell 2
 have o3:=HOP0.out.cell 3
 have o4:=HOP0.out.cell 4
 have o5:=HOP0.out.cell 5
 have o6:=HOP0.out.cell 6
 have o7:=HOP0.out.cell 7
 have o8:=HOP0.out.cell 8
 go_enter Tryz.func15,Tryz.ntmps15
 go_upto_region 1 with (fail)
 unfold opV
 dsimp only
 rw [← hV0,← hW0,← hgo,show go+1=g by rw [hg,hV0,World.size_alloc,hgo]]
 clear hV0 hgo hW0 hg
 go_wp2_with fail
 refine (HPA.out W0).mono ?_
 intro e w1 hpa
 obtain ⟨A,c,A2,c2,rfl,hw1,hw2,hb1⟩:=HPP.out _ _ _ hpa
 have HZ1:Hid (Blk w1 g 33 [.int .i64 0,.int .i64 0,.slice none 0 0,.slice none 0 0,.int .i64 0,.int .i64 0,.int .i64 0,.int .i64 0,.int .u64 0,.bool false]):=HZ0.out.below hb1 HZ0.out.lt
 have HN1:Hid (Nw p (.pointer (some tp)) (.pointer (some sp)) qs w (StS p B1 B2 D) B1 B2 D s w1):=HN0.out.later hb1
 have HB1:Hid (Below w.heap.size w w1):=HB0.out.trans (hb1.mono HB0.out.size)
 have HOP1:Hid (Blk w1 go 36 [.int .i64 15,.string (strOf path),.string (strOf dest),.int .i64 fd,.int .i64 at_,.int .i64 n,.int .u64 (till:Nat),.int .i64 snap,.slice A0 data.length c0]):=HOP0.out.below hb1 HOP0.out.lt
 have HW1:=Lib.hid hw1
 have HW2:=Lib.hid hw2
 clear hpa hw1 hw2 hb1 HPA HPP HZ0 HN0 HOP0 HB0 o0 o1 o2 o3 o4 o5 o6 o7 o8
 have o0:=HOP1.out.cell 0
 by_cases hc:pc=0
 rotate_left
 ·have hci:((pc:Int)==0)=false:=by rw [beq_eq_false_iff_ne];omega
  have HQ:Hid (St.do_ s ⟨15,path,dest,fd,at_,n,till,snap,data⟩=(St.no pc,s)):=by show _=_;rw [HDO.out,if_pos hc]
  clear hc HDO
  obtain⟨g0,e0,g1,e1,g2,e2,g3,e3,g4,e4,g5,e5,g6,e6,g7,e7,g8,e8,g9,e9⟩:=cells10 HZ1.out
  go_wp2_with fail
  refine bodyPost_ret (results_blk rfl _ _ g 33 (repL (pc:Nat) 0) _ rfl (set10_blk HZ1.out _ _ _ _ _ _ _ _ _ _) rfl rfl rfl) rfl ?_
  refine DoAns.of_turns (by rw [HQ.out];exact plain_no _) ?_
  rw [HQ.out]
  exact (HN1.out.poke (set10_mod _ _ _ _ _ _ _ _ _ _ _ _) HNG.out HGG.out).done _
 subst hc
 have HQ:Hid (St.do_ s ⟨15,path,dest,fd,at_,n,till,snap,data⟩=(St.no (Sn.forget s.snaps snap s.now).1,{ s with snaps:=(Sn.forget s.snaps snap s.now).2 })):=HDO.out
 clear HDO
 have c1:w1.cell? ⟨p,1,none⟩=some (.pointer (some sp)):=HN1.out.in_.box.cell 1
 have c2:w1.cell? ⟨p,2,none⟩=some (.int .u64 (s.now:Nat)):=HN1.out.in_.box.cell 2
 have o7:=HOP1.out.cell 7
 obtain ⟨re,hre⟩:∃ re,re=(Sn.forget s.snaps snap s.now).1:=⟨_,rfl⟩
 have HRE:=Lib.hid hre
 have hbd:Below w1.heap.size w1 w1.drew:=below_drew w1
 obtain ⟨wd,hwd⟩:∃ wd,wd=w1.drew:=⟨_,rfl⟩
 rw [← hwd] at hbd
 have HND:Hid (Nw p (.pointer (some tp)) (.pointer (some sp)) qs w (StS p B1 B2 D) B1 B2 D s wd):=HN1.out.later hbd
 have HZD:Hid (Blk wd g 33 [.int .i64 0,.int .i64 0,.slice none 0 0,.slice none 0 0,.int .i64 0,.int .i64 0,.int .i64 0,.int .i64 0,.int .u64 0,.bool false]):=HZ1.out.below hbd HZ1.out.lt
 have HAFT:Hid (∀ e w3 x t',Ob.Turns sobj (.pointer (some sp)) t' x B2 wd e w3→e=.returned x∧∃ B2',Hid (Nw p (.pointer (some tp)) (.pointer (some sp)) qs w (StS p B1 B2 D) B1 B2' D { s with snaps:=t' } w3)∧Hid (Blk w3 g 33 [.int .i64 0,.int .i64 0,.slice none 0 0,.slice none 0 0,.int .i64 0,.int .i64 0,.int .i64 0,.int .i64 0,.int .u64 0,.bool false])∧Hid (¬ StS p B1 B2' D g)):=fun e w3 x t' ht=>by
  have hmod:Mod wd w3 B2:=by obtain ⟨_,_,_,h2,_⟩:=ht;exact h2
  obtain ⟨rfl,B2',hn3,hgr⟩:=HND.out.turnS ht
  exact ⟨rfl,B2',hn3,(hmod.block g HZD.out.lt fun h9=>HNG.out (.inr (.inr (.inl h9)))).trans HZD.out,fun h9=>by
   rcases hgr g h9 with h4|h4
   ·exact HNG.out h4
   ·have:=HZD.out.lt
    omega⟩
 have HM:=Lib.hid (Sn.so_forget HND.out.in_.sn HO.out.snaps snap s.now)
 rw [← hre] at HM
 clear hre hbd
 go_upto_region 35 with (fail)
 go_still_tail 10,(by kernel_rfl)
 change wpList _ _ _ _ _ w1.drew
 rw [← hwd]
 clear hwd
 go_wp2_with fail
 refine HM.out.mono ?_
 intro e w2 ht
 obtain ⟨rfl,B2',HN2,HZ2,HNG2⟩:=HAFT.out _ _ _ _ ht
 clear ht HM HAFT o0 o7 c1 c2
 obtain⟨g0,e0,g1,e1,g2,e2,g3,e3,g4,e4,g5,e5,g6,e6,g7,e7,g8,e8,g9,e9⟩:=cells10 HZ2.out
 go_wp2_with fail
 refine bodyPost_ret (results_blk rfl _ _ g 33 (repL (re:Nat) 0) _ rfl (set10_blk HZ2.out _ _ _ _ _ _ _ _ _ _) rfl rfl rfl) rfl ?_
 refine DoAns.of_turns (by rw [HQ.out];exact plain_no _) ?_
 rw [HQ.out,HRE.out]
 exact (HN2.out.poke (set10_mod _ _ _ _ _ _ _ _ _ _ _ _) HNG2.out HGG.out).done _
set_option maxHeartbeats 4000000 in
set_option maxRecDepth 100000 in
theorem do_17 (h:StIn p tv sv qs B1 B2 D s w) (hO:St.Ok s) (o:St.Opn) (hk1:o.kind=17) (A0:Option Addr) (c0:Nat) (h1:o.path.length≤9223372036854775807) (h2:o.dest.length≤9223372036854775807) :
    Calls Tryz.prog 15 #[.pointer (some ⟨p,0,none⟩),opV o (.slice A0 o.data.length c0)] w (DoAns (.pointer (some ⟨p,0,none⟩)) s o (StS p B1 B2 D) w):=by
 have HPA:Hid (∀ W,Calls Tryz.prog 38 #[opV o (.slice A0 o.data.length c0)] W (PAns o W)):=fun W=>paths_any o A0 o.data.length c0 W h1 h2
 have HDO:Hid (St.do_ s o=if (St.paths o).2.2≠0 then (St.no (St.paths o).2.2,s) else (St.no 0,s)):=by
  show _=_
  unfold St.do_
  rw [hk1]
  rw [if_neg (by decide:¬ (17:Int)=1),if_neg (by decide:¬ (17:Int)=2),if_neg (by decide:¬ (17:Int)=3),if_neg (by decide:¬ (17:Int)=4),if_neg (by decide:¬ (17:Int)=5),if_neg (by decide:¬ (17:Int)=6),if_neg (by decide:¬ (17:Int)=7),if_neg (by decide:¬ (17:Int)=8),if_neg (by decide:¬ (17:Int)=9),if_neg (by decide:¬ (17:Int)=10),if_neg (by decide:¬ (17:Int)=11),if_neg (by decide:¬ (17:Int)=12),if_neg (by decide:¬ (17:Int)=13),if_neg (by decide:¬ (17:Int)=14),if_neg (by decide:¬ (17:Int)=15),if_neg (by decide:¬ (17:Int)=16),if_pos rfl]
 obtain ⟨P,hP⟩:∃ P,P=St.paths o:=⟨_,rfl⟩
 have HPP:Hid (∀ e W W',PAns o W e W'→∃ A c A2 c2,e=.returned (.tuple #[.slice A P.1.length c,.slice A2 P.2.1.length c2,.int .i64 (P.2.2:Nat)])∧Way W' A P.1 c∧Way W' A2 P.2.1 c2∧Below W.heap.size W W'):=fun e W W' hh=>by rw [hP];exact hh
 rw [← hP] at HDO
 obtain ⟨p1,p2,pc⟩:=P
 dsimp only at HPP HDO
 clear hP h1 h2
 obtain ⟨kind,path,dest,fd,at_,n,till,snap,data⟩:=o
 dsimp only at hk1 HDO
 subst hk1
 obtain ⟨tp,rfl⟩:=tobj.ptr h.tr
 obtain ⟨sp,rfl⟩:=sobj.ptr h.sn
 obtain ⟨V0,hV0⟩:∃ V0,V0=w.alloc (.cells #[.int .i64 17,.string (strOf path),.string (strOf dest),.int .i64 fd,.int .i64 at_,.int .i64 n,.int .u64 (till:Nat),.int .i64 snap,.slice A0 data.length c0] 36):=⟨_,rfl⟩
 obtain ⟨go,hgo⟩:∃ go,go=w.heap.size:=⟨_,rfl⟩
 have HOP:Hid (Blk V0 go 36 [.int .i64 17,.string (strOf path),.string (strOf dest),.int .i64 fd,.int .i64 at_,.int .i64 n,.int .u64 (till:Nat),.int .i64 snap,.slice A0 data.length c0]):=by show Blk _ _ _ _;rw [hV0,hgo];exact Blk.new w _ _
 have hbv:Below w.heap.size w V0:=by rw [hV0];exact below_new w _
 obtain ⟨W0,hW0⟩:∃ W0,W0=V0.alloc (.cells #[.int .i64 0,.int .i64 0,.slice none 0 0,.slice none 0 0,.int .i64 0,.int .i64 0,.int .i64 0,.int .i64 0,.int .u64 0,.bool false] 33):=⟨_,rfl⟩
 obtain ⟨g,hg⟩:∃ g,g=V0.heap.size:=⟨_,rfl⟩
 have HZ0:Hid (Blk W0 g 33 [.int .i64 0,.int .i64 0,.slice none 0 0,.slice none 0 0,.int .i64 0,.int .i64 0,.int .i64 0,.int .i64 0,.int .u64 0,.bool false]):=by show Blk _ _ _ _;rw [hW0,hg];exact Blk.new V0 _ _
 have hbw:Below V0.heap.size V0 W0:=by rw [hW0];exact below_new V0 _
 have HB0:Hid (Below w.heap.size w W0):=hbv.trans (hbw.mono hbv.size)
 have HOP0:Hid (Blk W0 go 36 [.int .i64 17,.string (strOf path),.string (strOf dest),.int .i64 fd,.int .i64 at_,.int .i64 n,.int .u64 (till:Nat),.int .i64 snap,.slice A0 data.length c0]):=HOP.out.below hbw HOP.out.lt
 have HGG:Hid (w.heap.size≤g):=by show _≤_;rw [hg];exact hbv.size
 have HNG:Hid (¬ StS p B1 B2 D g):=fun h9=>by
  have:=h.lt h9
  have h8:w.heap.size≤g:=HGG.out
  omega
 have HN0:Hid (Nw p (.pointer (some tp)) (.pointer (some sp)) qs w (StS p B1 B2 D) B1 B2 D s W0):=(Nw.start h).later HB0.out
 have HO:=Lib.hid hO
 clear h hO hbv hbw HOP
 have o0:=HOP0.out.cell 0
 have o1:=HOP0.out.cell 1
 have o2:=HOP0.out.cell 2
 have o3:=HOP0.out.cell 3
 have o4:=HOP0.out.cell 4
 have o5:=HOP0.out.cell 5
 have o6:=HOP0.out.cell 6
 have o7:=HOP0.out.cell 7
 have o8:=HOP0.out.cell 8
 go_enter Tryz.func15,Tryz.ntmps15
 go_upto_region 1 with (fail)
 unfold opV
 dsimp only
 rw [← hV0,← hW0,← hgo,show go+1=g by rw [hg,hV0,World.size_alloc,hgo]]
 clear hV0 hgo hW0 hg
 go_wp2_with fail
 refine (HPA.out W0).mono ?_
 intro e w1 hpa
 obtain ⟨A,c,A2,c2,rfl,hw1,hw2,hb1⟩:=HPP.out _ _ _ hpa
 have HZ1:Hid (Blk w1 g 33 [.int .i64 0,.int .i64 0,.slice none 0 0,.slice none 0 0,.int .i64 0,.int .i64 0,.int .i64 0,.int .i64 0,.int .u64 0,.bool false]):=HZ0.out.below hb1 HZ0.out.lt
 have HN1:Hid (Nw p (.pointer (some tp)) (.pointer (some sp)) qs w (StS p B1 B2 D) B1 B2 D s w1):=HN0.out.later hb1
 have HB1:Hid (Below w.heap.size w w1):=HB0.out.trans (hb1.mono HB0.out.size)
 have HOP1:Hid (Blk w1 go 36 [.int .i64 17,.string (strOf path),.string (strOf dest),.int .i64 fd,.int .i64 at_,.int .i64 n,.int .u64 (till:Nat),.int .i64 snap,.slice A0 data.length c0]):=HOP0.out.below hb1 HOP0.out.lt
 have HW1:=Lib.hid hw1
 have HW2:=Lib.hid hw2
 clear hpa hw1 hw2 hb1 HPA HPP HZ0 HN0 HOP0 HB0 o0 o1 o2 o3 o4 o5 o6 o7 o8
 have o0:=HOP1.out.cell 0
 by_cases hc:pc=0
 rotate_left
 ·have hci:((pc:Int)==0)=false:=by rw [beq_eq_false_iff_ne];omega
  have HQ:Hid (St.do_ s ⟨17,path,dest,fd,at_,n,till,snap,data⟩=(St.no pc,s)):=by show _=_;rw [HDO.out,if_pos hc]
  clear hc HDO
  obtain⟨g0,e0,g1,e1,g2,e2,g3,e3,g4,e4,g5,e5,g6,e6,g7,e7,g8,e8,g9,e9⟩:=cells10 HZ1.out
  go_wp2_with fail
  refine bodyPost_ret (results_blk rfl _ _ g 33 (repL (pc:Nat) 0) _ rfl (set10_blk HZ1.out _ _ _ _ _ _ _ _ _ _) rfl rfl rfl) rfl ?_
  refine DoAns.of_turns (by rw [HQ.out];exact plain_no _) ?_
  rw [HQ.out]
  exact (HN1.out.poke (set10_mod _ _ _ _ _ _ _ _ _ _ _ _) HNG.out HGG.out).done _
 subst hc
 have HQ:Hid (St.do_ s ⟨17,path,dest,fd,at_,n,till,snap,data⟩=(St.no 0,s)):=HDO.out
 clear HDO
 obtain⟨g0,e0,g1,e1,g2,e2,g3,e3,g4,e4,g5,e5,g6,e6,g7,e7,g8,e8,g9,e9⟩:=cells10 HZ1.out
 go_wp2_with fail
 refine bodyPost_ret (results_blk rfl _ _ g 33 (repL 0 0) _ rfl (set10_blk HZ1.out _ _ _ _ _ _ _ _ _ _) rfl rfl rfl) rfl ?_
 refine DoAns.of_turns (by rw [HQ.out];exact plain_no _) ?_
 rw [HQ.out]
 exact (HN1.out.poke (set10_mod _ _ _ _ _ _ _ _ _ _ _ _) HNG.out HGG.out).done _
set_option maxHeartbeats 4000000 in
set_option maxRecDepth 100000 in
theorem do_18 (h:StIn p tv sv qs B1 B2 D s w) (hO:St.Ok s) (o:St.Opn) (hk1:¬ (1≤o.kind∧o.kind≤17)) (A0:Option Addr) (c0:Nat) (h1:o.path.length≤9223372036854775807) (h2:o.dest.length≤9223372036854775807) :
    Calls Tryz.prog 15 #[.pointer (some ⟨p,0,none⟩),opV o (.slice A0 o.data.length c0)] w (DoAns (.pointer (some ⟨p,0,none⟩)) s o (StS p B1 B2 D) w):=by
 have HPA:Hid (∀ W,Calls Tryz.prog 38 #[opV o (.slice A0 o.data.length c0)] W (PAns o W)):=fun W=>paths_any o A0 o.data.length c0 W h1 h2
 have HDO:Hid (St.do_ s o=if (St.paths o).2.2≠0 then (St.no (St.paths o).2.2,s) else (St.no 30,s)):=by
  show _=_
  unfold St.do_
  rw [if_neg (by omega:¬ o.kind=1),if_neg (by omega:¬ o.kind=2),if_neg (by omega:¬ o.kind=3),if_neg (by omega:¬ o.kind=4),if_neg (by omega:¬ o.kind=5),if_neg (by omega:¬ o.kind=6),if_neg (by omega:¬ o.kind=7),if_neg (by omega:¬ o.kind=8),if_neg (by omega:¬ o.kind=9),if_neg (by omega:¬ o.kind=10),if_neg (by omega:¬ o.kind=11),if_neg (by omega:¬ o.kind=12),if_neg (by omega:¬ o.kind=13),if_neg (by omega:¬ o.kind=14),if_neg (by omega:¬ o.kind=15),if_neg (by omega:¬ o.kind=16),if_neg (by omega:¬ o.kind=17)]
 obtain ⟨P,hP⟩:∃ P,P=St.paths o:=⟨_,rfl⟩
 have HPP:Hid (∀ e W W',PAns o W e W'→∃ A c A2 c2,e=.returned (.tuple #[.slice A P.1.length c,.slice A2 P.2.1.length c2,.int .i64 (P.2.2:Nat)])∧Way W' A P.1 c∧Way W' A2 P.2.1 c2∧Below W.heap.size W W'):=fun e W W' hh=>by rw [hP];exact hh
 rw [← hP] at HDO
 obtain ⟨p1,p2,pc⟩:=P
 dsimp only at HPP HDO
 clear hP h1 h2
 obtain ⟨kind,path,dest,fd,at_,n,till,snap,data⟩:=o
 dsimp only at hk1 HDO
 obtain ⟨tp,rfl⟩:=tobj.ptr h.tr
 obtain ⟨sp,rfl⟩:=sobj.ptr h.sn
 obtain ⟨V0,hV0⟩:∃ V0,V0=w.alloc (.cells #[.int .i64 kind,.string (strOf path),.string (strOf dest),.int .i64 fd,.int .i64 at_,.int .i64 n,.int .u64 (till:Nat),.int .i64 snap,.slice A0 data.length c0] 36):=⟨_,rfl⟩
 obtain ⟨go,hgo⟩:∃ go,go=w.heap.size:=⟨_,rfl⟩
 have HOP:Hid (Blk V0 go 36 [.int .i64 kind,.string (strOf path),.string (strOf dest),.int .i64 fd,.int .i64 at_,.int .i64 n,.int .u64 (till:Nat),.int .i64 snap,.slice A0 data.length c0]):=by show Blk _ _ _ _;rw [hV0,hgo];exact Blk.new w _ _
 have hbv:Below w.heap.size w V0:=by rw [hV0];exact below_new w _
 obtain ⟨W0,hW0⟩:∃ W0,W0=V0.alloc (.cells #[.int .i64 0,.int .i64 0,.slice none 0 0,.slice none 0 0,.int .i64 0,.int .i64 0,.int .i64 0,.int .i64 0,.int .u64 0,.bool false] 33):=⟨_,rfl⟩
 obtain ⟨g,hg⟩:∃ g,g=V0.heap.size:=⟨_,rfl⟩
 have HZ0:Hid (Blk W0 g 33 [.int .i64 0,.int .i64 0,.slice none 0 0,.slice none 0 0,.int .i64 0,.int .i64 0,.int .i64 0,.int .i64 0,.int .u64 0,.bool false]):=by show Blk _ _ _ _;rw [hW0,hg];exact Blk.new V0 _ _
 have hbw:Below V0.heap.size V0 W0:=by rw [hW0];exact below_new V0 _
 have HB0:Hid (Below w.heap.size w W0):=hbv.trans (hbw.mono hbv.size)
 have HOP0:Hid (Blk W0 go 36 [.int .i64 kind,.string (strOf path),.string (strOf dest),.int .i64 fd,.int .i64 at_,.int .i64 n,.int .u64 (till:Nat),.int .i64 snap,.slice A0 data.length c0]):=HOP.out.below hbw HOP.out.lt
 have HGG:Hid (w.heap.size≤g):=by show _≤_;rw [hg];exact hbv.size
 have HNG:Hid (¬ StS p B1 B2 D g):=fun h9=>by
  have:=h.lt h9
  have h8:w.heap.size≤g:=HGG.out
  omega
 have HN0:Hid (Nw p (.pointer (some tp)) (.pointer (some sp)) qs w (StS p B1 B2 D) B1 B2 D s W0):=(Nw.start h).later HB0.out
 have HO:=Lib.hid hO
 clear h hO hbv hbw HOP
 have o0:=HOP0.out.cell 0
 have o1:=HOP0.out.cell 1
 have o2:=HOP0.out.cell 2
 have o3:=HOP0.out.cell 3
 have o4:=HOP0.out.cell 4
 have o5:=HOP0.out.cell 5
 have o6:=HOP0.out.cell 6
 have o7:=HOP0.out.cell 7
 have o8:=HOP0.out.cell 8
 go_enter Tryz.func15,Tryz.ntmps15
 go_upto_region 1 with (fail)
 unfold opV
 dsimp only
 rw [← hV0,← hW0,← hgo,show go+1=g by rw [hg,hV0,World.size_alloc,hgo]]
 clear hV0 hgo hW0 hg
 go_wp2_with fail
 refine (HPA.out W0).mono ?_
 intro e w1 hpa
 obtain ⟨A,c,A2,c2,rfl,hw1,hw2,hb1⟩:=HPP.out _ _ _ hpa
 have HZ1:Hid (Blk w1 g 33 [.int .i64 0,.int .i64 0,.slice none 0 0,.slice none 0 0,.int .i64 0,.int .i64 0,.int .i64 0,.int .i64 0,.int .u64 0,.bool false]):=HZ0.out.below hb1 HZ0.out.lt
 have HN1:Hid (Nw p (.pointer (some tp)) (.pointer (some sp)) qs w (StS p B1 B2 D) B1 B2 D s w1):=HN0.out.later hb1
 have HB1:Hid (Below w.heap.size w w1):=HB0.out.trans (hb1.mono HB0.out.size)
 have HOP1:Hid (Blk w1 go 36 [.int .i64 kind,.string (strOf path),.string (strOf dest),.int .i64 fd,.int .i64 at_,.int .i64 n,.int .u64 (till:Nat),.int .i64 snap,.slice A0 data.length c0]):=HOP0.out.below hb1 HOP0.out.lt
 have HW1:=Lib.hid hw1
 have HW2:=Lib.hid hw2
 clear hpa hw1 hw2 hb1 HPA HPP HZ0 HN0 HOP0 HB0 o0 o1 o2 o3 o4 o5 o6 o7 o8
 have o0:=HOP1.out.cell 0
 by_cases hc:pc=0
 rotate_left
 ·have hci:((pc:Int)==0)=false:=by rw [beq_eq_false_iff_ne];omega
  have HQ:Hid (St.do_ s ⟨kind,path,dest,fd,at_,n,till,snap,data⟩=(St.no pc,s)):=by show _=_;rw [HDO.out,if_pos hc]
  clear hc HDO
  obtain⟨g0,e0,g1,e1,g2,e2,g3,e3,g4,e4,g5,e5,g6,e6,g7,e7,g8,e8,g9,e9⟩:=cells10 HZ1.out
  go_wp2_with fail
  refine bodyPost_ret (results_blk rfl _ _ g 33 (repL (pc:Nat) 0) _ rfl (set10_blk HZ1.out _ _ _ _ _ _ _ _ _ _) rfl rfl rfl) rfl ?_
  refine DoAns.of_turns (by rw [HQ.out];exact plain_no _) ?_
  rw [HQ.out]
  exact (HN1.out.poke (set10_mod _ _ _ _ _ _ _ _ _ _ _ _) HNG.out HGG.out).done _
 subst hc
 have HQ:Hid (St.do_ s ⟨kind,path,dest,fd,at_,n,till,snap,data⟩=(St.no 30,s)):=HDO.out
 clear HDO
 have b1:(kind==1)=false:=by rw [beq_eq_false_iff_ne];omega
 have b2:(kind==2)=false:=by rw [beq_eq_false_iff_ne];omega
 have b3:(kind==3)=false:=by rw [beq_eq_false_iff_ne];omega
 have b4:(kind==4)=false:=by rw [beq_eq_false_iff_ne];omega
 have b5:(kind==5)=false:=by rw [beq_eq_false_iff_ne];omega
 have b6:(kind==6)=false:=by rw [beq_eq_false_iff_ne];omega
 have b7:(kind==7)=false:=by rw [beq_eq_false_iff_ne];omega
 have b8:(kind==8)=false:=by rw [beq_eq_false_iff_ne];omega
 have b9:(kind==9)=false:=by rw [beq_eq_false_iff_ne];omega
 have b10:(kind==10)=false:=by rw [beq_eq_false_iff_ne];omega
 have b11:(kind==11)=false:=by rw [beq_eq_false_iff_ne];omega
 have b12:(kind==12)=false:=by rw [beq_eq_false_iff_ne];omega
 have b13:(kind==13)=false:=by rw [beq_eq_false_iff_ne];omega
 have b14:(kind==14)=false:=by rw [beq_eq_false_iff_ne];omega
 have b15:(kind==15)=false:=by rw [beq_eq_false_iff_ne];omega
 have b16:(kind==16)=false:=by rw [beq_eq_false_iff_ne];omega
 have b17:(kind==17)=false:=by rw [beq_eq_false_iff_ne];omega
 clear hk1
 obtain⟨g0,e0,g1,e1,g2,e2,g3,e3,g4,e4,g5,e5,g6,e6,g7,e7,g8,e8,g9,e9⟩:=cells10 HZ1.out
 go_wp2_with fail
 refine bodyPost_ret (results_blk rfl _ _ g 33 (repL 30 0) _ rfl (set10_blk HZ1.out _ _ _ _ _ _ _ _ _ _) rfl rfl rfl) rfl ?_
 refine DoAns.of_turns (by rw [HQ.out];exact plain_no _) ?_
 rw [HQ.out]
 exact (HN1.out.poke (set10_mod _ _ _ _ _ _ _ _ _ _ _ _) HNG.out HGG.out).done _
end Sm
end Go.Proofs.YtbnpgakmhhfjkaaGreatDoor
namespace Go.Proofs.YtbnpgakmhhfjkaaGreatDoor
open Go.RowKit Rc
open Tr (Nm En T)
open Tm (tobj)
open Sn (sobj)
open St (alone)
namespace Sm
variable {p:Nat} {tv sv:Value} {qs:List Value} {B1 B2 D:Nat→Prop} {s:St.State} {w w':World}
theorem tick_is (now u:Nat):Ck.nextOf (now:Nat) (u:Nat)=((St.tick now u:Nat):Int):=by
 unfold Ck.nextOf St.tick
 repeat' split
 all_goals omega
set_option maxHeartbeats 4000000 in
set_option maxRecDepth 100000 in
theorem do_16 (h:StIn p tv sv qs B1 B2 D s w) (hO:St.Ok s) (o:St.Opn) (hk1:o.kind=16) (A0:Option Addr) (c0:Nat) (h1:o.path.length≤9223372036854775807) (h2:o.dest.length≤9223372036854775807) :
    Calls Tryz.prog 15 #[.pointer (some ⟨p,0,none⟩),opV o (.slice A0 o.data.length c0)] w (DoAns (.pointer (some ⟨p,0,none⟩)) s o (StS p B1 B2 D) w):=by
 have HPA:Hid (∀ W,Calls Tryz.prog 38 #[opV o (.slice A0 o.data.length c0)] W (PAns o W)):=fun W=>paths_any o A0 o.data.length c0 W h1 h2
 have HDO:Hid (St.do_ s o=if (St.paths o).2.2≠0 then (St.no (St.paths o).2.2,s) else (St.no 0,{ s with now:=St.tick s.now o.till })):=by
  show _=_
  unfold St.do_
  rw [hk1]
  rw [if_neg (by decide:¬ (16:Int)=1),if_neg (by decide:¬ (16:Int)=2),if_neg (by decide:¬ (16:Int)=3),if_neg (by decide:¬ (16:Int)=4),if_neg (by decide:¬ (16:Int)=5),if_neg (by decide:¬ (16:Int)=6),if_neg (by decide:¬ (16:Int)=7),if_neg (by decide:¬ (16:Int)=8),if_neg (by decide:¬ (16:Int)=9),if_neg (by decide:¬ (16:Int)=10),if_neg (by decide:¬ (16:Int)=11),if_neg (by decide:¬ (16:Int)=12),if_neg (by decide:¬ (16:Int)=13),if_neg (by decide:¬ (16:Int)=14),if_neg (by decide:¬ (16:Int)=15),if_pos rfl]
 obtain ⟨P,hP⟩:∃ P,P=St.paths o:=⟨_,rfl⟩
 have HPP:Hid (∀ e W W',PAns o W e W'→∃ A c A2 c2,e=.returned (.tuple #[.slice A P.1.length c,.slice A2 P.2.1.length c2,.int .i64 (P.2.2:Nat)])∧Way W' A P.1 c∧Way W' A2 P.2.1 c2∧Below W.heap.size W W'):=fun e W W' hh=>by rw [hP];exact hh
 rw [← hP] at HDO
 obtain ⟨p1,p2,pc⟩:=P
 dsimp only at HPP HDO
 clear hP h1 h2
 obtain ⟨kind,path,dest,fd,at_,n,till,snap,data⟩:=o
 dsimp only at hk1 HDO
 subst hk1
 obtain ⟨tp,rfl⟩:=tobj.ptr h.tr
 obtain ⟨sp,rfl⟩:=sobj.ptr h.sn
 obtain ⟨V0,hV0⟩:∃ V0,V0=w.alloc (.cells #[.int .i64 16,.string (strOf path),.string (strOf dest),.int .i64 fd,.int .i64 at_,.int .i64 n,.int .u64 (till:Nat),.int .i64 snap,.slice A0 data.length c0] 36):=⟨_,rfl⟩
 obtain ⟨go,hgo⟩:∃ go,go=w.heap.size:=⟨_,rfl⟩
 have HOP:Hid (Blk V0 go 36 [.int .i64 16,.string (strOf path),.string (strOf dest),.int .i64 fd,.int .i64 at_,.int .i64 n,.int .u64 (till:Nat),.int .i64 snap,.slice A0 data.length c0]):=by show Blk _ _ _ _;rw [hV0,hgo];exact Blk.new w _ _
 have hbv:Below w.heap.size w V0:=by rw [hV0];exact below_new w _
 obtain ⟨W0,hW0⟩:∃ W0,W0=V0.alloc (.cells #[.int .i64 0,.int .i64 0,.slice none 0 0,.slice none 0 0,.int .i64 0,.int .i64 0,.int .i64 0,.int .i64 0,.int .u64 0,.bool false] 33):=⟨_,rfl⟩
 obtain ⟨g,hg⟩:∃ g,g=V0.heap.size:=⟨_,rfl⟩
 have HZ0:Hid (Blk W0 g 33 [.int .i64 0,.int .i64 0,.slice none 0 0,.slice none 0 0,.int .i64 0,.int .i64 0,.int .i64 0,.int .i64 0,.int .u64 0,.bool false]):=by show Blk _ _ _ _;rw [hW0,hg];exact Blk.new V0 _ _
 have hbw:Below V0.heap.size V0 W0:=by rw [hW0];exact below_new V0 _
 have HB0:Hid (Below w.heap.size w W0):=hbv.trans (hbw.mono hbv.size)
 have HOP0:Hid (Blk W0 go 36 [.int .i64 16,.string (strOf path),.string (strOf dest),.int .i64 fd,.int .i64 at_,.int .i64 n,.int .u64 (till:Nat),.int .i64 snap,.slice A0 data.length c0]):=HOP.out.below hbw HOP.out.lt
 have HGG:Hid (w.heap.size≤g):=by show _≤_;rw [hg];exact hbv.size
 have HNG:Hid (¬ StS p B1 B2 D g):=fun h9=>by
  have:=h.lt h9
  have h8:w.heap.size≤g:=HGG.out
  omega
 have HN0:Hid (Nw p (.pointer (some tp)) (.pointer (some sp)) qs w (StS p B1 B2 D) B1 B2 D s W0):=(Nw.start h).later HB0.out
 have HO:=Lib.hid hO
 clear h hO hbv hbw HOP
 have o0:=HOP0.out.cell 0
 have o1:=HOP0.out.cell 1
 have o2:=HOP0.out.cell 2
 have o3:=HOP0.out.cell 3
 have o4:=HOP0.out.cell 4
 have o5:=HOP0.out.cell 5
 have o6:=HOP0.out.cell 6
 have o7:=HOP0.out.cell 7
 have o8:=HOP0.out.cell 8
 go_enter Tryz.func15,Tryz.ntmps15
 go_upto_region 1 with (fail)
 unfold opV
 dsimp only
 rw [← hV0,← hW0,← hgo,show go+1=g by rw [hg,hV0,World.size_alloc,hgo]]
 clear hV0 hgo hW0 hg
 go_wp2_with fail
 refine (HPA.out W0).mono ?_
 intro e w1 hpa
 obtain ⟨A,c,A2,c2,rfl,hw1,hw2,hb1⟩:=HPP.out _ _ _ hpa
 have HZ1:Hid (Blk w1 g 33 [.int .i64 0,.int .i64 0,.slice none 0 0,.slice none 0 0,.int .i64 0,.int .i64 0,.int .i64 0,.int .i64 0,.int .u64 0,.bool false]):=HZ0.out.below hb1 HZ0.out.lt
 have HN1:Hid (Nw p (.pointer (some tp)) (.pointer (some sp)) qs w (StS p B1 B2 D) B1 B2 D s w1):=HN0.out.later hb1
 have HB1:Hid (Below w.heap.size w w1):=HB0.out.trans (hb1.mono HB0.out.size)
 have HOP1:Hid (Blk w1 go 36 [.int .i64 16,.string (strOf path),.string (strOf dest),.int .i64 fd,.int .i64 at_,.int .i64 n,.int .u64 (till:Nat),.int .i64 snap,.slice A0 data.length c0]):=HOP0.out.below hb1 HOP0.out.lt
 have HW1:=Lib.hid hw1
 have HW2:=Lib.hid hw2
 clear hpa hw1 hw2 hb1 HPA HPP HZ0 HN0 HOP0 HB0 o0 o1 o2 o3 o4 o5 o6 o7 o8
 have o0:=HOP1.out.cell 0
 by_cases hc:pc=0
 rotate_left
 ·have hci:((pc:Int)==0)=false:=by rw [beq_eq_false_iff_ne];omega
  have HQ:Hid (St.do_ s ⟨16,path,dest,fd,at_,n,till,snap,data⟩=(St.no pc,s)):=by show _=_;rw [HDO.out,if_pos hc]
  clear hc HDO
  obtain⟨g0,e0,g1,e1,g2,e2,g3,e3,g4,e4,g5,e5,g6,e6,g7,e7,g8,e8,g9,e9⟩:=cells10 HZ1.out
  go_wp2_with fail
  refine bodyPost_ret (results_blk rfl _ _ g 33 (repL (pc:Nat) 0) _ rfl (set10_blk HZ1.out _ _ _ _ _ _ _ _ _ _) rfl rfl rfl) rfl ?_
  refine DoAns.of_turns (by rw [HQ.out];exact plain_no _) ?_
  rw [HQ.out]
  exact (HN1.out.poke (set10_mod _ _ _ _ _ _ _ _ _ _ _ _) HNG.out HGG.out).done _
 subst hc
 have HQ:Hid (St.do_ s ⟨16,path,dest,fd,at_,n,till,snap,data⟩=(St.no 0,{ s with now:=St.tick s.now till })):=HDO.out
 clear HDO
 have c2:w1.cell? ⟨p,2,none⟩=some (.int .u64 (s.now:Nat)):=HN1.out.in_.box.cell 2
 have e2:=HN1.out.in_.box.frozen 2
 have o6:=HOP1.out.cell 6
 have HNX:Hid (∀ W,Calls Tryz.prog 53 #[.int .u64 (s.now:Nat),.int .u64 (till:Nat)] W fun e w'=>e=.returned (.int .u64 ((St.tick s.now till:Nat):Int))∧w'=W):=fun W=>by
  rw [← tick_is]
  exact Ck.next_any W (s.now:Nat) (till:Nat)
 obtain ⟨nw,hnw⟩:∃ nw,nw=St.tick s.now till:=⟨_,rfl⟩
 rw [← hnw] at HNX HQ
 clear hnw
 have HPG:Hid (g≠p):=fun h=>HNG.out (.inl h)
 obtain ⟨WF,hWF⟩:∃ WF,WF=(w1.setCell ⟨p,2,none⟩ (.int .u64 (nw:Nat))).drew:=⟨_,rfl⟩
 have HNT:Hid (Nw p (.pointer (some tp)) (.pointer (some sp)) qs w (StS p B1 B2 D) B1 B2 D { s with now:=nw } WF):=by rw [hWF];exact (HN1.out.now).later (below_drew _)
 have HZT:Hid (Blk WF g 33 [.int .i64 0,.int .i64 0,.slice none 0 0,.slice none 0 0,.int .i64 0,.int .i64 0,.int .i64 0,.int .i64 0,.int .u64 0,.bool false]):=by show Blk _ _ _ _;rw [hWF];exact (HZ1.out.far HPG.out _)
 go_upto_region 37 with (fail)
 go_region_with (go_at_call 53;change Calls _ _ _ w1.drew _;refine (HNX.out _).mono ?_;rintro e _ ⟨rfl,rfl⟩)
 all_goals
  change Exit.inBlock _ _ _ _ (w1.setCell ⟨p,2,none⟩ (.int .u64 (nw:Nat))).drew
  rw [← hWF]
  clear hWF c2 e2 o6 o0
  obtain⟨g0,e0,g1,e1,g2,e2,g3,e3,g4,e4,g5,e5,g6,e6,g7,e7,g8,e8,g9,e9⟩:=cells10 HZT.out
  go_wp2_with fail
  refine bodyPost_ret (results_blk rfl _ _ g 33 (repL 0 0) _ rfl (set10_blk HZT.out _ _ _ _ _ _ _ _ _ _) rfl rfl rfl) rfl ?_
  refine DoAns.of_turns (by rw [HQ.out];exact plain_no _) ?_
  rw [HQ.out]
  exact (HNT.out.poke (set10_mod _ _ _ _ _ _ _ _ _ _ _ _) HNG.out HGG.out).done _
end Sm
end Go.Proofs.YtbnpgakmhhfjkaaGreatDoor
namespace Go.Proofs.YtbnpgakmhhfjkaaGreatDoor
open Go.RowKit
namespace St
def allNames:List Bs:=[[47,97],[47,98],[47,99],[47,97,47,97],[47,97,47,98],[47,98,47,97],[47,98,47,98,47,97],[47],[47,99,47,97],[47,98,47,98],[47,65],[97],[47,97,47,47,98],[47,97,47]]
def name (n:Int):Bs:=allNames.getD (n % 1048577 % 14).toNat []
theorem name_short (n:Int):(name n).length≤6:=by
 unfold name
 rw [List.getD_eq_getElem?_getD]
 cases h:allNames[(n % 1048577 % 14).toNat]? with
 | none=>simp
 | some x =>
   have hx:=List.mem_of_getElem? h
   have:∀ y ∈ allNames,y.length≤6:=by decide
   exact this x hx
def tame (o:Opn):Opn :=
 ⟨o.kind,name (IntKind.i64.wrap ((o.path.length:Nat)+o.at_.tmod 7)),name (IntKind.i64.wrap ((o.dest.length:Nat)+o.n.tmod 7)),o.fd % 4,o.at_ % 51,o.n % 61,o.till % 12,if (o.kind=3∨o.kind=11∨o.kind=12)∧o.snap.tmod 3≠0 then 0 else o.snap % 5,o.data.take 40⟩
structure Fit (o:Opn):Prop where
 kind:-9223372036854775808≤o.kind∧o.kind≤9223372036854775807
 path:o.path.length≤1000000
 dest:o.dest.length≤1000000
 fd:-9223372036854775808≤o.fd∧o.fd≤9223372036854775807
 at_:-9223372036854775808≤o.at_∧o.at_≤9223372036854775807
 n:-9223372036854775808≤o.n∧o.n≤9223372036854775807
 till:o.till<18446744073709551616
 snap:-9223372036854775808≤o.snap∧o.snap≤9223372036854775807
 data:o.data.length≤1000000
theorem tame_fit {o:Opn} (h:-9223372036854775808≤o.kind∧o.kind≤9223372036854775807):Fit (tame o):=by
 refine ⟨h,?_,?_,?_,?_,?_,?_,?_,?_⟩
 ·exact Nat.le_trans (name_short _) (by decide)
 ·exact Nat.le_trans (name_short _) (by decide)
 ·show _≤o.fd % 4∧o.fd % 4≤_;omega
 ·show _≤o.at_ % 51∧o.at_ % 51≤_;omega
 ·show _≤o.n % 61∧o.n % 61≤_;omega
 ·show o.till % 12<_;omega
 ·show _≤(if (o.kind=3∨o.kind=11∨o.kind=12)∧o.snap.tmod 3≠0 then 0 else o.snap % 5)∧(if (o.kind=3∨o.kind=11∨o.kind=12)∧o.snap.tmod 3≠0 then 0 else o.snap % 5)≤_
  split <;> omega
 ·exact Nat.le_trans (List.length_take_le _ _) (by decide)
end St
end Go.Proofs.YtbnpgakmhhfjkaaGreatDoor
namespace Go.Proofs.YtbnpgakmhhfjkaaGreatDoor
open Go.RowKit Rc
open Tr (Nm En T)
open Tm (tobj)
open Sn (sobj)
namespace Sm
variable {p:Nat} {tv sv:Value} {qs:List Value} {B1 B2 D:Nat→Prop} {s:St.State} {w w':World}
theorem do_1 (h:StIn p tv sv qs B1 B2 D s w) (hO:St.Ok s) (o:St.Opn) (hk1:o.kind=1) (A0:Option Addr) (c0:Nat) (h1:o.path.length≤9223372036854775807) (h2:o.dest.length≤9223372036854775807) :
    Calls Tryz.prog 15 #[.pointer (some ⟨p,0,none⟩),opV o (.slice A0 o.data.length c0)] w (DoAns (.pointer (some ⟨p,0,none⟩)) s o (StS p B1 B2 D) w):=by
 refine (do_create h hO o hk1 A0 o.data.length c0 h1 h2).mono fun e w' hh=>DoAns.of_turns ?_ hh
 unfold St.do_
 by_cases h0:(St.paths o).2.2≠0
 ·rw [if_pos h0]
  exact plain_no _
 ·rw [if_neg h0,if_pos hk1]
  exact plain_create _ _
theorem do_any (h:StIn p tv sv qs B1 B2 D s w) (hO:St.Ok s) (o:St.Opn) (hF:St.Fit o) (A0:Option Addr) (c0:Nat) (hr:Rd w A0 o.data) (hs:s.snaps.next<1000000000000000) (hK:KAt w) :
    Calls Tryz.prog 15 #[.pointer (some ⟨p,0,none⟩),opV o (.slice A0 o.data.length c0)] w (DoAns (.pointer (some ⟨p,0,none⟩)) s o (StS p B1 B2 D) w):=by
 have h1:o.path.length≤9223372036854775807:=Nat.le_trans hF.path (by decide)
 have h2:o.dest.length≤9223372036854775807:=Nat.le_trans hF.dest (by decide)
 have hu:o.till≤18446744073709551615:=Nat.le_of_lt_succ hF.till
 by_cases hk:1≤o.kind∧o.kind≤17
 ·have hk9:o.kind=1∨o.kind=2∨o.kind=3∨o.kind=4∨o.kind=5∨o.kind=6∨o.kind=7∨o.kind=8∨o.kind=9∨o.kind=10∨o.kind=11∨o.kind=12∨o.kind=13∨o.kind=14∨o.kind=15∨o.kind=16∨o.kind=17:=by omega
  rcases hk9 with k|k|k|k|k|k|k|k|k|k|k|k|k|k|k|k|k
  ·exact do_1 h hO o k A0 c0 h1 h2
  ·exact do_2 h hO o k A0 c0 h1 h2
  ·exact do_3 h hO o k A0 c0 h1 h2
  ·exact do_4 h hO o k A0 c0 h1 h2 hF.at_ hF.n
  ·exact do_5 h hO o k A0 c0 h1 h2 hr hF.data
  ·exact do_6 h hO o k A0 c0 h1 h2 hu
  ·exact do_7 h hO o k A0 c0 h1 h2
  ·exact do_8 h hO o k A0 c0 h1 h2
  ·exact do_9 h hO o k A0 c0 h1 h2
  ·exact do_10 h hO o k A0 c0 h1 h2
  ·exact do_11 h hO o k A0 c0 h1 h2
  ·exact do_12 h hO o k A0 c0 h1 h2
  ·exact do_13 h hO o k A0 c0 h1 h2 hu
  ·exact do_14 h hO o k A0 c0 h1 h2 hs hK
  ·exact do_15 h hO o k A0 c0 h1 h2
  ·exact do_16 h hO o k A0 c0 h1 h2
  ·exact do_17 h hO o k A0 c0 h1 h2
 ·exact do_18 h hO o hk A0 c0 h1 h2
theorem so_do {v:Value} {S:Nat→Prop} (h:stobj.At v s S w) (hO:St.Ok s) (o:St.Opn) (hF:St.Fit o) (A0:Option Addr) (c0:Nat) (hr:Rd w A0 o.data) (hs:s.snaps.next<1000000000000000) (hK:KAt w) :
    Calls Tryz.prog 15 #[v,opV o (.slice A0 o.data.length c0)] w (DoAns v s o S w):=by
 obtain ⟨p,tv,sv,qs,B1,B2,D,rfl,h,rfl⟩:=h
 exact do_any h hO o hF A0 c0 hr hs hK
theorem so_now {v:Value} {S:Nat→Prop} (h:stobj.At v s S w):Calls Tryz.prog 17 #[v] w fun e w'=>e=.returned (.int .u64 (s.now:Nat))∧w'=w:=by
 obtain ⟨p,tv,sv,qs,B1,B2,D,rfl,h,rfl⟩:=h
 have c2:w.cell? ⟨p,2,none⟩=some (.int .u64 (s.now:Nat)):=h.box.cell 2
 clear h
 go_enter Tryz.func17,Tryz.ntmps17
 go_wp2_with fail
 go_ret
 exact ⟨rfl,rfl⟩
def SP (w0:World) (v:Value) (s:St.State) (Q:Nat→Prop) (w:World):Prop:=∃ S,stobj.At v s S w∧Below w0.heap.size w0 w∧(∀ b,S b→w0.heap.size≤b)∧∀ b,Q b→¬ S b∧b<w.heap.size
variable {w0:World} {v:Value} {Q:Nat→Prop}
theorem SP.low (h:SP w0 v s Q w):Below w0.heap.size w0 w:=by obtain ⟨_,_,h,_⟩:=h;exact h
theorem SP.later (h:SP w0 v s Q w) (hb:Below w.heap.size w w'):SP w0 v s Q w':=by
 obtain ⟨S,h1,h2,h3,h4⟩:=h
 exact ⟨S,stobj.keep h1 hb.size (fun b hB=>hb.block b (stobj.lt h1 b hB)),h2.trans (hb.mono h2.size),h3,fun b hb2=>⟨(h4 b hb2).1,Nat.lt_of_lt_of_le (h4 b hb2).2 hb.size⟩⟩
theorem SP.less {Q2:Nat→Prop} (h:SP w0 v s Q w) (hQ:∀ b,Q2 b→Q b):SP w0 v s Q2 w:=by
 obtain ⟨S,h1,h2,h3,h4⟩:=h
 exact ⟨S,h1,h2,h3,fun b hb=>h4 b (hQ b hb)⟩
theorem SP.made (h:SP w0 v s Q w) (hb:Below w.heap.size w w') (g:Nat) (hg:w.heap.size≤g) (hg2:g<w'.heap.size):SP w0 v s (fun b=>b=g∨Q b) w':=by
 have hs:∀ S,stobj.At v s S w→¬ S g:=fun S h1 h9=>by have:=stobj.lt h1 g h9;omega
 obtain ⟨S,h1,h2,h3,h4⟩:=h
 refine ⟨S,stobj.keep h1 hb.size (fun b hB=>hb.block b (stobj.lt h1 b hB)),h2.trans (hb.mono h2.size),h3,fun b hb2=>?_⟩
 rcases hb2 with rfl|hb2
 ·exact ⟨hs S h1,hg2⟩
 ·exact ⟨(h4 b hb2).1,Nat.lt_of_lt_of_le (h4 b hb2).2 hb.size⟩
theorem SP.poke (h:SP w0 v s Q w) (g:Nat) (hm:Mod w w' (fun b=>b=g)) (hg:Q g) (h0:w0.heap.size≤g):SP w0 v s Q w':=by
 obtain ⟨S,h1,h2,h3,h4⟩:=h
 refine ⟨S,stobj.keep h1 hm.size (fun b hB=>hm.block b (stobj.lt h1 b hB) (fun e=>(h4 g hg).1 (e ▸ hB))),((Mod.of_below h2 (fun b=>b=g)).trans hm).below (fun b hb=>hb ▸ h0),h3,fun b hb=>⟨(h4 b hb).1,Nat.lt_of_lt_of_le (h4 b hb).2 hm.size⟩⟩
def SDo (w0:World) (v:Value) (s:St.State) (o:St.Opn) (Q:Nat→Prop) (w:World) (e:Ending) (w':World):Prop :=
 ∃ A c A2 c2,e=.returned (repV (St.do_ s o).1 (.slice A (St.do_ s o).1.data.length c) (.slice A2 (St.do_ s o).1.names.length c2))∧((St.do_ s o).1.data.length≤c∧(St.do_ s o).1.names.length≤c2)∧Hid (Rd w' A (St.do_ s o).1.data)∧Hid (RdS w' A2 (St.do_ s o).1.names)∧Hid (SP w0 v (St.do_ s o).2 (fun b=>(0<(St.do_ s o).1.data.length∧A.map (·.block)=some b)∨Q b) w')∧Hid (∀ b,Q b→w'.heap[b]?=w.heap[b]?)
theorem SP.do_ (h:SP w0 v s Q w) (hO:St.Ok s) (o:St.Opn) (hF:St.Fit o) (A0:Option Addr) (c0:Nat) (hr:Rd w A0 o.data) (hs:s.snaps.next<1000000000000000) (hK:KAt w) :
    Calls Tryz.prog 15 #[v,opV o (.slice A0 o.data.length c0)] w (SDo w0 v s o Q w):=by
 obtain ⟨S,h1,h2,h3,h4⟩:=h
 refine (so_do h1 hO o hF A0 c0 hr hs hK).mono ?_
 rintro e w' ⟨xd,xs,rfl,⟨⟨A,c,rfl,hc,hrd⟩,⟨A2,c2,rfl,hc2,hrs⟩⟩,S2,k1,k2,k3,k4⟩
 refine ⟨A,c,A2,c2,rfl,⟨hc,hc2⟩,hrd,hrs,⟨S2,k1,((Mod.of_below h2 S).trans k2).below h3,fun b hb=>(k3 b hb).elim (h3 b) (fun h=>Nat.le_trans h2.size h),fun b hb=>?_⟩,fun b hb=>k2.block b (h4 b hb).2 (h4 b hb).1⟩
 rcases hb with ⟨hb0,hb⟩|hb
 ·refine ⟨k4 b hb0 ?_,?_⟩
  ·cases A with
   | none=>simp at hb
   | some a=>exact hb
  ·obtain ⟨b',off,rfl,hlt,_⟩:=hrd hb0
   simp at hb
   omega
 ·refine ⟨fun h9=>?_,Nat.lt_of_lt_of_le (h4 b hb).2 k2.size⟩
  rcases k3 b h9 with h8|h8
  ·exact (h4 b hb).1 h8
  ·have:=(h4 b hb).2
   omega
theorem SP.now (h:SP w0 v s Q w):Calls Tryz.prog 17 #[v] w fun e w'=>e=.returned (.int .u64 (s.now:Nat))∧w'=w:=by
 obtain ⟨S,h1,_⟩:=h
 exact so_now h1
end Sm
end Go.Proofs.YtbnpgakmhhfjkaaGreatDoor
namespace Go.Proofs.YtbnpgakmhhfjkaaGreatDoor
open Go.RowKit Rc
open Tr (Nm En T)
open Tm (tobj)
open Sn (sobj)
namespace Sm
set_option maxHeartbeats 4000000 in
set_option maxRecDepth 100000 in
theorem new_any (w:World):Calls Tryz.prog 13 #[] w fun e w'=>∃ p B,e=.returned (.pointer (some ⟨p,0,none⟩))∧stobj.At (.pointer (some ⟨p,0,none⟩)) St.new B w'∧Below w.heap.size w w'∧∀ b,B b→w.heap.size≤b:=by
 have HT:=Lib.hid (t_new w)
 have HS:=Lib.hid (fun w1=>Sn.so_new w1)
 go_enter Tryz.func13,Tryz.ntmps13
 go_wp2_with fail
 refine HT.out.mono ?_
 rintro e w1 ⟨q,B1,rfl,hT,hb1,hu1⟩
 have HT1:=Lib.hid hT
 have HB1:=Lib.hid hb1
 have HU1:=Lib.hid hu1
 clear hT hb1 hu1 HT
 go_wp2_with fail
 refine (HS.out w1).mono ?_
 rintro e w2 ⟨r,B2,rfl,hS,hb2,hu2⟩
 have HT2:Hid (tobj.At (.pointer (some ⟨q,0,none⟩)) Tr.new B1 w2):=tobj.keep HT1.out hb2.size (fun b hb=>hb2.block b (tobj.lt HT1.out b hb))
 have HS2:=Lib.hid hS
 have HB2:Hid (Below w.heap.size w w2):=HB1.out.trans (hb2.mono HB1.out.size)
 have HU2:Hid (∀ b,B2 b→w1.heap.size≤b):=hu2
 have HB12:=Lib.hid hb2
 clear hS hb2 hu2 HS
 go_wp2_with fail
 go_ret
 have hbn:=below_new w2 (.cells #[.pointer (some ⟨q,0,none⟩),.pointer (some ⟨r,0,none⟩),.int .u64 0,.pointer none,.int .i64 0,.bool false,.pointer none,.int .i64 0,.bool false,.pointer none,.int .i64 0,.bool false,.pointer none,.int .i64 0,.bool false,.pointer none,.int .i64 0,.bool false,.pointer none,.int .i64 0,.bool false,.pointer none,.int .i64 0,.bool false,.pointer none,.int .i64 0,.bool false] 74)
 refine ⟨w2.heap.size,StS w2.heap.size B1 B2 (fun _=>False),rfl,⟨_,_,_,List.replicate 8 (.pointer none),B1,B2,_,rfl,⟨Blk.new w2 _ _,?_,?_,rfl,?_,?_,?_,?_⟩,rfl⟩,HB2.out.trans (hbn.mono HB2.out.size),?_⟩
 ·exact tobj.keep HT2.out hbn.size fun b hb=>hbn.block b (tobj.lt HT2.out b hb)
 ·exact sobj.keep HS2.out hbn.size fun b hb=>hbn.block b (sobj.lt HS2.out b hb)
 ·intro k b q' hk
  have:=List.mem_of_getElem? hk
  simp [St.new] at this
 ·exact fun x hx=>hx.elim
 ·intro x h1 h2
  have:=tobj.lt HT1.out x h1
  have:=HU2.out x h2
  omega
 ·refine ⟨fun h9=>?_,fun h9=>?_⟩
  ·have:=tobj.lt HT2.out _ h9;omega
  ·have:=sobj.lt HS2.out _ h9;omega
 ·intro b hb
  rcases hb with rfl|hb|hb|hb
  ·exact HB2.out.size
  ·exact HU1.out b hb
  ·exact Nat.le_trans HB1.out.size (HU2.out b hb)
  ·exact hb.elim
end Sm
end Go.Proofs.YtbnpgakmhhfjkaaGreatDoor
namespace Go.Proofs.YtbnpgakmhhfjkaaGreatDoor
open Go.RowKit Rc
open Tr (Nm En T)
namespace Sm
variable {s s':St.State} {w w' w0:World} {v:Value} {Q:Nat→Prop}
theorem rd_q {w w':World} {A:Option Addr} {l:Bs} (h:Rd w A l) (hk:∀ b,0<l.length→A.map (·.block)=some b→w'.heap[b]?=w.heap[b]?):Rd w' A l:=by
 intro h0
 obtain ⟨b,off,rfl,hlt,hc⟩:=h h0
 have e:=hk b h0 rfl
 have h9:w'.heap[b]?=some w.heap[b]:=by rw [e];exact Array.getElem?_eq_getElem hlt
 exact ⟨b,off,rfl,(Array.getElem?_eq_some_iff.1 h9).1,fun j y hj=>by
  have:=hc j y hj
  unfold World.cell? at this ⊢
  rw [e]
  exact this⟩
def SDoP (w0:World) (v:Value) (s':St.State) (ri rn:Int) (Q:Nat→Prop) (w:World) (e:Ending) (w':World):Prop :=
 ∃ A c A2 c2,e=.returned (.agg #[.int .i64 ri,.int .i64 rn,.slice A 0 c,.slice A2 0 c2,.int .i64 0,.int .i64 0,.int .i64 0,.int .i64 0,.int .u64 0,.bool false])∧Hid (SP w0 v s' Q w')∧Hid (∀ b,Q b→w'.heap[b]?=w.heap[b]?)
theorem SP.doP (h:SP w0 v s Q w) {o:St.Opn} {re:Nat} {rn:Int} (hd:St.do_ s o=(⟨re,rn,[],[],Nd.zero⟩,s')) (hO:St.Ok s) (o':St.Opn) (ho:o'=o) (hF:St.Fit o) (A0:Option Addr) (c0:Nat) (hs:s.snaps.next<1000000000000000) (hr:Rd w A0 o.data) (hK:KAt w) :
    Calls Tryz.prog 15 #[v,opV o (.slice A0 o.data.length c0)] w (SDoP w0 v s' ((re:Nat):Int) rn Q w):=by
 refine (h.do_ hO o hF A0 c0 hr hs hK).mono ?_
 rintro e w' ⟨A,c,A2,c2,rfl,_,_,_,h1,h2⟩
 rw [hd] at h1 ⊢
 exact ⟨A,c,A2,c2,rfl,h1.out.less (fun b hb=>.inr hb),h2⟩
def SDoG (w0:World) (v:Value) (s':St.State) (r:St.Rep) (Q:Nat→Prop) (w:World) (e:Ending) (w':World):Prop :=
 ∃ A c A2 c2,e=.returned (repV r (.slice A r.data.length c) (.slice A2 r.names.length c2))∧r.data.length≤c∧Hid (Rd w' A r.data)∧Hid (SP w0 v s' (fun b=>(0<r.data.length∧A.map (·.block)=some b)∨Q b) w')∧Hid (∀ b,Q b→w'.heap[b]?=w.heap[b]?)
theorem SP.doG (h:SP w0 v s Q w) {o:St.Opn} {r:St.Rep} (hd:St.do_ s o=(r,s')) (hO:St.Ok s) (o':St.Opn) (ho:o'=o) (hF:St.Fit o) (A0:Option Addr) (c0:Nat) (hs:s.snaps.next<1000000000000000) (hr:Rd w A0 o.data) (hK:KAt w) :
    Calls Tryz.prog 15 #[v,opV o (.slice A0 o.data.length c0)] w (SDoG w0 v s' r Q w):=by
 refine (h.do_ hO o hF A0 c0 hr hs hK).mono ?_
 rintro e w' ⟨A,c,A2,c2,rfl,⟨hc,_⟩,hrd,_,h1,h2⟩
 rw [hd] at h1 hrd hc ⊢
 exact ⟨A,c,A2,c2,rfl,hc,hrd,h1,h2⟩
theorem SP.new (w:World):Calls Tryz.prog 13 #[] w fun e w'=>∃ p,e=.returned (.pointer (some ⟨p,0,none⟩))∧Hid (SP w (.pointer (some ⟨p,0,none⟩)) St.new (fun _=>False) w'):=by
 refine (new_any w).mono ?_
 rintro e w' ⟨p,B,rfl,h1,h2,h3⟩
 exact ⟨p,rfl,B,h1,h2,h3,fun _ h=>h.elim⟩
theorem fit_small (kind:Int) (path dest:Bs) (fd at_ n:Int) (till:Nat) (snap:Int) (data:Bs) (hk:0≤kind∧kind≤1000) (h1:path.length≤1000000) (h2:dest.length≤1000000) (h3:0≤fd∧fd≤1000000) (h4:0≤at_∧at_≤1000000) (h5:0≤n∧n≤1000000) (h6:till<18446744073709551616) (h7:0≤snap∧snap≤1000000) (h8:data.length≤1000000):St.Fit ⟨kind,path,dest,fd,at_,n,till,snap,data⟩ :=
 ⟨⟨by show _≤kind;omega,by show kind≤_;omega⟩,h1,h2,⟨by show _≤fd;omega,by show fd≤_;omega⟩,⟨by show _≤at_;omega,by show at_≤_;omega⟩,⟨by show _≤n;omega,by show n≤_;omega⟩,h6,⟨by show _≤snap;omega,by show snap≤_;omega⟩,h8⟩
theorem fitA:St.Fit St.kA:=fit_small 1 _ _ _ _ _ _ _ _ (by decide) (by decide) (by decide) (by decide) (by decide) (by decide) (by decide) (by decide) (by decide)
theorem fitB:St.Fit St.kB:=fit_small 5 _ _ _ _ _ _ _ _ (by decide) (by decide) (by decide) (by decide) (by decide) (by decide) (by decide) (by decide) (by decide)
theorem fitC:St.Fit St.kC:=fit_small 6 _ _ _ _ _ _ _ _ (by decide) (by decide) (by decide) (by decide) (by decide) (by decide) (by decide) (by decide) (by decide)
theorem fitD:St.Fit St.kD:=fit_small 8 _ _ _ _ _ _ _ _ (by decide) (by decide) (by decide) (by decide) (by decide) (by decide) (by decide) (by decide) (by decide)
theorem ok_next {s s':St.State} {o:St.Opn} {r:St.Rep} (h:St.Ok s) (hn:s.snaps.next<1000000000000000) (hd:St.do_ s o=(r,s')):St.Ok s':=by
 have:=St.do_ok h hn o
 rw [hd] at this
 exact this
theorem ok1:St.Ok ⟨St.fA [] 0 false,Sn.new,0,.w 1 :: List.replicate 7 .free⟩:=ok_next St.new_ok (by decide) St.known_a
theorem ok2:St.Ok ⟨St.fA [120,121,122] 0 false,Sn.new,0,.w 1 :: List.replicate 7 .free⟩:=ok_next ok1 (by decide) St.known_b
theorem ok3:St.Ok ⟨St.fA [120,121,122] 9 true,Sn.new,0,List.replicate 8 .free⟩:=ok_next ok2 (by decide) St.known_c
set_option maxHeartbeats 4000000 in
set_option maxRecDepth 100000 in
theorem known_any (w:World) (hK:KAt w):Calls Tryz.prog 18 #[] w fun e w'=>e=.returned (.bool true)∧Below w.heap.size w w':=by
 have HK:=Lib.hid hK
 have HNEW:=Lib.hid (SP.new w)
 clear hK
 go_enter Tryz.func18,Tryz.ntmps18
 go_wp2_with fail
 refine HNEW.out.mono ?_
 rintro e w1 ⟨p,rfl,HS0⟩
 clear HNEW
 have HM:Hid (Calls Tryz.prog 15 #[(.pointer (some ⟨p,0,none⟩)),.agg #[.int .i64 1,.string { data:=#[47,97] },.string { data:=#[] },.int .i64 0,.int .i64 0,.int .i64 0,.int .u64 0,.int .i64 0,.slice none 0 0]] w1 (SDoP w (.pointer (some ⟨p,0,none⟩)) ⟨St.fA [] 0 false,Sn.new,0,.w 1 :: List.replicate 7 .free⟩ 0 0 (fun _=>False) w1)):=HS0.out.doP (St.known_a) St.new_ok St.kA rfl (fitA) none 0 (by decide) (Rd.nil _ _) (KAt.below HK.out HS0.out.low HK.out.pos)
 go_wp2_with fail
 refine HM.out.mono ?_
 rintro e wd1 ⟨RA1,rc1,RB1,rd1,rfl,HS1,HQ1⟩
 clear HM HQ1 HS0 
 obtain ⟨Wk1,hW⟩:∃ W,W=wd1.alloc (.cells #[.int .i64 0,.int .i64 0,.slice RA1 0 rc1,.slice RB1 0 rd1,.int .i64 0,.int .i64 0,.int .i64 0,.int .i64 0,.int .u64 0,.bool false] 33):=⟨_,rfl⟩
 obtain ⟨gk1,hg⟩:∃ g,g=wd1.heap.size:=⟨_,rfl⟩
 have HXnk1:Hid (Blk Wk1 gk1 33 [.int .i64 0,.int .i64 0,.slice RA1 0 rc1,.slice RB1 0 rd1,.int .i64 0,.int .i64 0,.int .i64 0,.int .i64 0,.int .u64 0,.bool false]):=by show Blk _ _ _ _;rw [hW,hg];exact Blk.new wd1 _ _
 have hbn:Below wd1.heap.size wd1 Wk1:=by rw [hW];exact below_new wd1 _
 have HSk1:Hid (SP w (.pointer (some ⟨p,0,none⟩)) _ (fun b=>b=gk1∨(fun _=>False) b) Wk1):=HS1.out.made hbn gk1 (Nat.le_of_eq hg.symm) HXnk1.out.lt
 clear hbn HS1 
 go_upto_region 5 with (fail)
 rw [← hW,← hg]
 clear hW hg
 have kc:=Lib.run_convert_bytes_const (P:=Tryz.prog) Wk1 23 5 #[.int .u8 120,.int .u8 121,.int .u8 122] 3 3 Tryz.underlying23 Tryz.underlying5
 have HRCb5:Hid (Rd (Wk1.alloc (.cells #[.int .u8 120,.int .u8 121,.int .u8 122] 5 (3,4))) (some ⟨Wk1.heap.size,0,none⟩) [120,121,122]):=rd_cells Wk1 [120,121,122] _ _ _ rfl
 have hbn:Below Wk1.heap.size Wk1 (Wk1.alloc (.cells #[.int .u8 120,.int .u8 121,.int .u8 122] 5 (3,4))):=below_new Wk1 _
 have HX0_b5:Hid (Blk (Wk1.alloc (.cells #[.int .u8 120,.int .u8 121,.int .u8 122] 5 (3,4))) gk1 33 [.int .i64 0,.int .i64 0,.slice RA1 0 rc1,.slice RB1 0 rd1,.int .i64 0,.int .i64 0,.int .i64 0,.int .i64 0,.int .u64 0,.bool false]):=HXnk1.out.below hbn HXnk1.out.lt
 have HSb5:Hid (SP w (.pointer (some ⟨p,0,none⟩)) _ (fun b=>b=gk1∨(fun _=>False) b) (Wk1.alloc (.cells #[.int .u8 120,.int .u8 121,.int .u8 122] 5 (3,4)))):=HSk1.out.later hbn
 clear hbn HSk1 HXnk1
 have HM:Hid (Calls Tryz.prog 15 #[(.pointer (some ⟨p,0,none⟩)),.agg #[.int .i64 5,.string { data:=#[] },.string { data:=#[] },.int .i64 0,.int .i64 0,.int .i64 0,.int .u64 0,.int .i64 0,.slice (some ⟨Wk1.heap.size,0,none⟩) 3 3]] (Wk1.alloc (.cells #[.int .u8 120,.int .u8 121,.int .u8 122] 5 (3,4))) (SDoP w (.pointer (some ⟨p,0,none⟩)) ⟨St.fA [120,121,122] 0 false,Sn.new,0,.w 1 :: List.replicate 7 .free⟩ 0 3 (fun b=>b=gk1∨(fun _=>False) b) (Wk1.alloc (.cells #[.int .u8 120,.int .u8 121,.int .u8 122] 5 (3,4))))):=HSb5.out.doP (St.known_b) ok1 St.kB rfl (fitB) (some ⟨Wk1.heap.size,0,none⟩) 3 (by decide) (HRCb5.out) (KAt.below HK.out HSb5.out.low HK.out.pos)
 go_wp2_with fail
 refine HM.out.mono ?_
 rintro e wd2 ⟨RA2,rc2,RB2,rd2,rfl,HS2,HQ2⟩
 have HX0_2:Hid (Blk wd2 gk1 33 [.int .i64 0,.int .i64 0,.slice RA1 0 rc1,.slice RB1 0 rd1,.int .i64 0,.int .i64 0,.int .i64 0,.int .i64 0,.int .u64 0,.bool false]):=(HQ2.out gk1 (.inl rfl)).trans HX0_b5.out
 clear HM HQ2 HSb5 HX0_b5 kc
 obtain ⟨Wk2,hW⟩:∃ W,W=wd2.alloc (.cells #[.int .i64 0,.int .i64 3,.slice RA2 0 rc2,.slice RB2 0 rd2,.int .i64 0,.int .i64 0,.int .i64 0,.int .i64 0,.int .u64 0,.bool false] 33):=⟨_,rfl⟩
 obtain ⟨gk2,hg⟩:∃ g,g=wd2.heap.size:=⟨_,rfl⟩
 have HXnk2:Hid (Blk Wk2 gk2 33 [.int .i64 0,.int .i64 3,.slice RA2 0 rc2,.slice RB2 0 rd2,.int .i64 0,.int .i64 0,.int .i64 0,.int .i64 0,.int .u64 0,.bool false]):=by show Blk _ _ _ _;rw [hW,hg];exact Blk.new wd2 _ _
 have hbn:Below wd2.heap.size wd2 Wk2:=by rw [hW];exact below_new wd2 _
 have HX0_k2:Hid (Blk Wk2 gk1 33 [.int .i64 0,.int .i64 0,.slice RA1 0 rc1,.slice RB1 0 rd1,.int .i64 0,.int .i64 0,.int .i64 0,.int .i64 0,.int .u64 0,.bool false]):=HX0_2.out.below hbn HX0_2.out.lt
 have HSk2:Hid (SP w (.pointer (some ⟨p,0,none⟩)) _ (fun b=>b=gk2∨(fun b=>b=gk1∨(fun _=>False) b) b) Wk2):=HS2.out.made hbn gk2 (Nat.le_of_eq hg.symm) HXnk2.out.lt
 clear hbn HS2 HX0_2
 go_upto_region 6 with (fail)
 rw [← hW,← hg]
 clear hW hg
 have HM:Hid (Calls Tryz.prog 15 #[(.pointer (some ⟨p,0,none⟩)),.agg #[.int .i64 6,.string { data:=#[] },.string { data:=#[] },.int .i64 0,.int .i64 0,.int .i64 0,.int .u64 9,.int .i64 0,.slice none 0 0]] Wk2 (SDoP w (.pointer (some ⟨p,0,none⟩)) ⟨St.fA [120,121,122] 9 true,Sn.new,0,List.replicate 8 .free⟩ 0 0 (fun b=>b=gk2∨(fun b=>b=gk1∨(fun _=>False) b) b) Wk2)):=HSk2.out.doP (St.known_c) ok2 St.kC rfl (fitC) none 0 (by decide) (Rd.nil _ _) (KAt.below HK.out HSk2.out.low HK.out.pos)
 go_wp2_with fail
 refine HM.out.mono ?_
 rintro e wd3 ⟨RA3,rc3,RB3,rd3,rfl,HS3,HQ3⟩
 have HX0_3:Hid (Blk wd3 gk1 33 [.int .i64 0,.int .i64 0,.slice RA1 0 rc1,.slice RB1 0 rd1,.int .i64 0,.int .i64 0,.int .i64 0,.int .i64 0,.int .u64 0,.bool false]):=(HQ3.out gk1 (.inr (.inl rfl))).trans HX0_k2.out
 have HX1_3:Hid (Blk wd3 gk2 33 [.int .i64 0,.int .i64 3,.slice RA2 0 rc2,.slice RB2 0 rd2,.int .i64 0,.int .i64 0,.int .i64 0,.int .i64 0,.int .u64 0,.bool false]):=(HQ3.out gk2 (.inl rfl)).trans HXnk2.out
 clear HM HQ3 HSk2 HX0_k2 HXnk2
 obtain ⟨Wk3,hW⟩:∃ W,W=wd3.alloc (.cells #[.int .i64 0,.int .i64 0,.slice RA3 0 rc3,.slice RB3 0 rd3,.int .i64 0,.int .i64 0,.int .i64 0,.int .i64 0,.int .u64 0,.bool false] 33):=⟨_,rfl⟩
 obtain ⟨gk3,hg⟩:∃ g,g=wd3.heap.size:=⟨_,rfl⟩
 have HXnk3:Hid (Blk Wk3 gk3 33 [.int .i64 0,.int .i64 0,.slice RA3 0 rc3,.slice RB3 0 rd3,.int .i64 0,.int .i64 0,.int .i64 0,.int .i64 0,.int .u64 0,.bool false]):=by show Blk _ _ _ _;rw [hW,hg];exact Blk.new wd3 _ _
 have hbn:Below wd3.heap.size wd3 Wk3:=by rw [hW];exact below_new wd3 _
 have HX0_k3:Hid (Blk Wk3 gk1 33 [.int .i64 0,.int .i64 0,.slice RA1 0 rc1,.slice RB1 0 rd1,.int .i64 0,.int .i64 0,.int .i64 0,.int .i64 0,.int .u64 0,.bool false]):=HX0_3.out.below hbn HX0_3.out.lt
 have HX1_k3:Hid (Blk Wk3 gk2 33 [.int .i64 0,.int .i64 3,.slice RA2 0 rc2,.slice RB2 0 rd2,.int .i64 0,.int .i64 0,.int .i64 0,.int .i64 0,.int .u64 0,.bool false]):=HX1_3.out.below hbn HX1_3.out.lt
 have HSk3:Hid (SP w (.pointer (some ⟨p,0,none⟩)) _ (fun b=>b=gk3∨(fun b=>b=gk2∨(fun b=>b=gk1∨(fun _=>False) b) b) b) Wk3):=HS3.out.made hbn gk3 (Nat.le_of_eq hg.symm) HXnk3.out.lt
 clear hbn HS3 HX0_3 HX1_3
 go_upto_region 7 with (fail)
 rw [← hW,← hg]
 clear hW hg
 have HM:Hid (Calls Tryz.prog 15 #[(.pointer (some ⟨p,0,none⟩)),.agg #[.int .i64 8,.string { data:=#[47,97] },.string { data:=#[] },.int .i64 0,.int .i64 0,.int .i64 0,.int .u64 0,.int .i64 0,.slice none 0 0]] Wk3 (SDoP w (.pointer (some ⟨p,0,none⟩)) ⟨St.fA [120,121,122] 9 true,Sn.new,0,List.replicate 8 .free⟩ 28 0 (fun b=>b=gk3∨(fun b=>b=gk2∨(fun b=>b=gk1∨(fun _=>False) b) b) b) Wk3)):=HSk3.out.doP (St.known_d) ok3 St.kD rfl (fitD) none 0 (by decide) (Rd.nil _ _) (KAt.below HK.out HSk3.out.low HK.out.pos)
 go_wp2_with fail
 refine HM.out.mono ?_
 rintro e wd4 ⟨RA4,rc4,RB4,rd4,rfl,HS4,HQ4⟩
 have HX0_4:Hid (Blk wd4 gk1 33 [.int .i64 0,.int .i64 0,.slice RA1 0 rc1,.slice RB1 0 rd1,.int .i64 0,.int .i64 0,.int .i64 0,.int .i64 0,.int .u64 0,.bool false]):=(HQ4.out gk1 (.inr (.inr (.inl rfl)))).trans HX0_k3.out
 have HX1_4:Hid (Blk wd4 gk2 33 [.int .i64 0,.int .i64 3,.slice RA2 0 rc2,.slice RB2 0 rd2,.int .i64 0,.int .i64 0,.int .i64 0,.int .i64 0,.int .u64 0,.bool false]):=(HQ4.out gk2 (.inr (.inl rfl))).trans HX1_k3.out
 have HX2_4:Hid (Blk wd4 gk3 33 [.int .i64 0,.int .i64 0,.slice RA3 0 rc3,.slice RB3 0 rd3,.int .i64 0,.int .i64 0,.int .i64 0,.int .i64 0,.int .u64 0,.bool false]):=(HQ4.out gk3 (.inl rfl)).trans HXnk3.out
 clear HM HQ4 HSk3 HX0_k3 HX1_k3 HXnk3
 obtain ⟨Wk4,hW⟩:∃ W,W=wd4.alloc (.cells #[.int .i64 28,.int .i64 0,.slice RA4 0 rc4,.slice RB4 0 rd4,.int .i64 0,.int .i64 0,.int .i64 0,.int .i64 0,.int .u64 0,.bool false] 33):=⟨_,rfl⟩
 obtain ⟨gk4,hg⟩:∃ g,g=wd4.heap.size:=⟨_,rfl⟩
 have HXnk4:Hid (Blk Wk4 gk4 33 [.int .i64 28,.int .i64 0,.slice RA4 0 rc4,.slice RB4 0 rd4,.int .i64 0,.int .i64 0,.int .i64 0,.int .i64 0,.int .u64 0,.bool false]):=by show Blk _ _ _ _;rw [hW,hg];exact Blk.new wd4 _ _
 have hbn:Below wd4.heap.size wd4 Wk4:=by rw [hW];exact below_new wd4 _
 have HX0_k4:Hid (Blk Wk4 gk1 33 [.int .i64 0,.int .i64 0,.slice RA1 0 rc1,.slice RB1 0 rd1,.int .i64 0,.int .i64 0,.int .i64 0,.int .i64 0,.int .u64 0,.bool false]):=HX0_4.out.below hbn HX0_4.out.lt
 have HX1_k4:Hid (Blk Wk4 gk2 33 [.int .i64 0,.int .i64 3,.slice RA2 0 rc2,.slice RB2 0 rd2,.int .i64 0,.int .i64 0,.int .i64 0,.int .i64 0,.int .u64 0,.bool false]):=HX1_4.out.below hbn HX1_4.out.lt
 have HX2_k4:Hid (Blk Wk4 gk3 33 [.int .i64 0,.int .i64 0,.slice RA3 0 rc3,.slice RB3 0 rd3,.int .i64 0,.int .i64 0,.int .i64 0,.int .i64 0,.int .u64 0,.bool false]):=HX2_4.out.below hbn HX2_4.out.lt
 have HSk4:Hid (SP w (.pointer (some ⟨p,0,none⟩)) _ (fun b=>b=gk4∨(fun b=>b=gk3∨(fun b=>b=gk2∨(fun b=>b=gk1∨(fun _=>False) b) b) b) b) Wk4):=HS4.out.made hbn gk4 (Nat.le_of_eq hg.symm) HXnk4.out.lt
 clear hbn HS4 HX0_4 HX1_4 HX2_4
 go_upto_region 8 with (fail)
 rw [← hW,← hg]
 clear hW hg
 have x0_0:=HX0_k4.out.cell 0
 have x0_1:=HX0_k4.out.cell 1
 have x1_0:=HX1_k4.out.cell 0
 have x1_1:=HX1_k4.out.cell 1
 have x2_0:=HX2_k4.out.cell 0
 have x2_1:=HX2_k4.out.cell 1
 have x3_0:=HXnk4.out.cell 0
 have x3_1:=HXnk4.out.cell 1
 go_wp2_with fail
 go_ret
 exact ⟨rfl,SP.low HSk4.out⟩
end Sm
end Go.Proofs.YtbnpgakmhhfjkaaGreatDoor
namespace Go.Proofs.YtbnpgakmhhfjkaaGreatDoor
open Go.RowKit
namespace Wi
theorem emod_of_tmod (n d:Int) (h:0<d):(n.tmod d<0→n % d=n.tmod d+d)∧(¬ n.tmod d<0→n % d=n.tmod d):=by
 have l1:=Int.lt_tmod_of_pos n h
 have l2:=Int.tmod_lt_of_pos n h
 have e:n.tmod d % d=n % d:=by rw [Int.tmod_def,Int.sub_mul_emod_self_left]
 constructor
 ·intro hn
  rw [← e,← Int.add_emod_right]
  exact Int.emod_eq_of_lt (by omega) (by omega)
 ·intro hn
  rw [← e]
  exact Int.emod_eq_of_lt (by omega) (by omega)
def within0 (n:Int) (m:Nat):Nat:=(n % ((m:Int)+1)).toNat
theorem within0_cast (n:Int) (m:Nat):((within0 n m:Nat):Int)=n % ((m:Int)+1):=by
 have:=Int.emod_nonneg n (b:=(m:Int)+1) (by omega)
 unfold within0;omega
theorem within_any (n:Int) (m:Nat) (w:World) (h2:m≤2000000) (_hn0:-9223372036854775808≤n) (_hn1:n≤9223372036854775807) :
    Calls Tryz.prog 30 #[.int .i64 n,.int .i64 0,.int .i64 m] w fun e w'=>e=.returned (.int .i64 (within0 n m))∧w=w':=by
 have l1:=Int.lt_tmod_of_pos n (b:=(m:Int)+1) (by omega)
 have l2:=Int.tmod_lt_of_pos n (b:=(m:Int)+1) (by omega)
 have em:=emod_of_tmod n ((m:Int)+1) (by omega)
 by_cases hn:n.tmod ((m:Int)+1)<0
 ·have HD:Hid (((within0 n m:Nat):Int)=n.tmod ((m:Int)+1)+m+1):=by
   show _=_
   rw [within0_cast,em.1 hn]
   omega
  clear em
  go_enter Tryz.func30,Tryz.ntmps30
  go_wp2
  go_ret
  exact ⟨ret_num HD.out,rfl⟩
 ·have HD:Hid (((within0 n m:Nat):Int)=n.tmod ((m:Int)+1)):=by
   show _=_
   rw [within0_cast,em.2 hn]
  clear em
  go_enter Tryz.func30,Tryz.ntmps30
  go_wp2
  go_ret
  exact ⟨ret_num HD.out,rfl⟩
end Wi
end Go.Proofs.YtbnpgakmhhfjkaaGreatDoor
namespace Go.Proofs.YtbnpgakmhhfjkaaGreatDoor
open Go.RowKit
namespace Kp
set_option maxHeartbeats 2000000 in
set_option maxRecDepth 100000 in
theorem name_any (n:Int) (h0:-9223372036854775808≤n) (h1:n≤9223372036854775807) (w:World):Calls Tryz.prog 54 #[.int .i64 n] w fun e w'=>e=.returned (.string (strOf (St.name n)))∧Below w.heap.size w w':=by
 obtain ⟨k,hk⟩:∃ k,k=Wi.within0 n 1048576 % 14:=⟨_,rfl⟩
 have hk14:k<14:=by omega
 have hnm:St.name n=St.allNames.getD k []:=by
  unfold St.name
  have:=Wi.within0_cast n 1048576
  have e:(n % 1048577 % 14).toNat=k:=by rw [hk];omega
  rw [e]
 obtain ⟨W0,hW0⟩:∃ W0,W0=w.alloc (.cells #[.string { data:=#[47,97] },.string { data:=#[47,98] },.string { data:=#[47,99] },.string { data:=#[47,97,47,97] },.string { data:=#[47,97,47,98] },.string { data:=#[47,98,47,97] },.string { data:=#[47,98,47,98,47,97] },.string { data:=#[47] },.string { data:=#[47,99,47,97] },.string { data:=#[47,98,47,98] },.string { data:=#[47,65] },.string { data:=#[97] },.string { data:=#[47,97,47,47,98] },.string { data:=#[47,97,47] }] 9):=⟨_,rfl⟩
 have c0:W0.cell? ⟨w.heap.size,k,none⟩=some (.string (strOf (St.name n))):=by
  rw [hnm,hW0]
  have hc:∀ j,(w.alloc (.cells #[.string { data:=#[47,97] },.string { data:=#[47,98] },.string { data:=#[47,99] },.string { data:=#[47,97,47,97] },.string { data:=#[47,97,47,98] },.string { data:=#[47,98,47,97] },.string { data:=#[47,98,47,98,47,97] },.string { data:=#[47] },.string { data:=#[47,99,47,97] },.string { data:=#[47,98,47,98] },.string { data:=#[47,65] },.string { data:=#[97] },.string { data:=#[47,97,47,47,98] },.string { data:=#[47,97,47] }] 9)).cell? ⟨w.heap.size,j,none⟩=(#[.string { data:=#[47,97] },.string { data:=#[47,98] },.string { data:=#[47,99] },.string { data:=#[47,97,47,97] },.string { data:=#[47,97,47,98] },.string { data:=#[47,98,47,97] },.string { data:=#[47,98,47,98,47,97] },.string { data:=#[47] },.string { data:=#[47,99,47,97] },.string { data:=#[47,98,47,98] },.string { data:=#[47,65] },.string { data:=#[97] },.string { data:=#[47,97,47,47,98] },.string { data:=#[47,97,47] }]:Array Value)[j]?:=fun j=>by
   unfold World.cell?
   rw [heap_alloc_new]
   rfl
  rw [hc]
  have:k=0∨k=1∨k=2∨k=3∨k=4∨k=5∨k=6∨k=7∨k=8∨k=9∨k=10∨k=11∨k=12∨k=13:=by omega
  clear hnm hk hk14 hc
  rcases this with rfl|rfl|rfl|rfl|rfl|rfl|rfl|rfl|rfl|rfl|rfl|rfl|rfl|rfl
  all_goals rfl
 have hb:Below w.heap.size w W0:=by rw [hW0];exact below_new w _
 have HB:=Lib.hid hb
 have HWI:Hid (∀ W,Calls Tryz.prog 30 #[.int .i64 n,.int .i64 0,.int .i64 1048576] W fun e w'=>e=.returned (.int .i64 (Wi.within0 n 1048576))∧W=w'):=fun W=>Wi.within_any n 1048576 W (by decide) h0 h1
 obtain ⟨q,hq⟩:∃ q,q=Wi.within0 n 1048576:=⟨_,rfl⟩
 rw [← hq] at HWI hk
 have hrm:((q:Int)).tmod 14=(k:Int):=by rw [hk];exact (Int.ofNat_tmod q 14).symm
 have hlt:(k:Int)<14:=by omega
 have hge:(0:Int)≤(k:Int):=by omega
 clear hk hnm hq hb h0 h1
 go_enter Tryz.func54,Tryz.ntmps54
 go_upto_region 2 with (fail)
 rw [← hW0]
 clear hW0
 go_wp2_with fail
 refine (HWI.out W0).mono ?_
 rintro e _ ⟨rfl,rfl⟩
 clear HWI
 go_wp2_with fail
 go_ret
 exact ⟨rfl,HB.out⟩
end Kp
end Go.Proofs.YtbnpgakmhhfjkaaGreatDoor
namespace Go.Proofs.YtbnpgakmhhfjkaaGreatDoor
open Go.RowKit
theorem cut_any (A:Option Addr) (l:List UInt8) (cap n:Nat) (hc:l.length≤cap) (_hn:n≤1000000) (_hl:l.length≤9223372036854775807) (w:World) :
    Calls Tryz.prog 14 #[.slice A l.length cap,.int .i64 n] w fun e w'=>e=.returned (.slice A (l.take n).length cap)∧w=w':=by
 by_cases h:n<l.length
 ·have HD:Hid ((l.take n).length=n):=by show _=_;rw [List.length_take];omega
  have hsl:=fun W=>sl_h W A l.length cap n (by omega)
  go_enter Tryz.func14,Tryz.ntmps14
  go_wp2
  go_ret
  exact ⟨by rw [HD.out];rfl,rfl⟩
 ·have HD:Hid ((l.take n).length=l.length):=by show _=_;rw [List.length_take];omega
  go_enter Tryz.func14,Tryz.ntmps14
  go_wp2
  go_ret
  exact ⟨by rw [HD.out];rfl,rfl⟩
end Go.Proofs.YtbnpgakmhhfjkaaGreatDoor
namespace Go.Proofs.YtbnpgakmhhfjkaaGreatDoor
open Go.RowKit Rc
namespace Ag2
def bx (T:TypeId) (cs:List Value):Rc.Fact:=⟨fun x w S=>∃ g,x=.pointer (some ⟨g,0,none⟩)∧Blk w g T cs∧S g,fun _ _ _ _ h _ hb=>by
 obtain ⟨g,h1,h2,h3⟩:=h
 exact ⟨g,h1,(hb g h3).trans h2,h3⟩⟩
section
variable {F:Nat→Rc.Fact} {cons:List (Nat × Nat)} {E:Nat→(Nat→Value)→Value→Prop} {V:Nat→Value} {S:Nat→Nat→Prop} {j:Nat} {o:Oper} {b:Act} {w:World}
theorem step_alloc (T:TypeId) (cs:List Value) (hF:F j=bx T cs) (hE:∀ v,E j V v) (hg:Rg.Open o V) (hrun:(execOp b.eval o).run Tryz.prog w=.ok (.value (.pointer (some ⟨w.heap.size,0,none⟩))) (w.alloc (.cells cs.toArray T))):Rg.Does1 Tryz.prog o V b w (Rc.Good F cons E V S j w):=by
 refine Rc.step_new (.pointer (some ⟨w.heap.size,0,none⟩)) (w.alloc (.cells cs.toArray T)) (fun k=>k=w.heap.size) (hE _) hg hrun (below_new _ _) ?_ (fun k hk=>⟨by omega,by rw [World.size_alloc];omega⟩)
 rw [hF]
 exact ⟨w.heap.size,rfl,Blk.new w _ _,rfl⟩
theorem step_put (T:TypeId) {n0:Nat} {cs:List Value} (cs':List Value) (x y:Operand) (ho:o.op=.store T x y) (hd:o.dst=none) (hx:b.eval x=V n0) (hy:b.eval y=.agg cs'.toArray) (hF:F j=bx T cs') (hc:(j,n0) ∈ cons) (h0:(bx T cs).holds (V n0) w (S n0)) (hE:E j V (V n0)) (hg:Rg.Open o V)
    (hi:(Tryz.prog.info? T).map (·.size)=some cs'.toArray.size) (hold:cs.toArray.size=cs'.toArray.size) (h1:cs'.toArray.all (·.oneCell')=true):Rg.Does1 Tryz.prog o V b w (Rc.Good F cons E V S j w):=by
 obtain ⟨g,hv,hb,hS⟩:=h0
 refine .of hg fun K hK=>?_
 refine wp_store_row T x y ho g cs'.toArray (hx.trans hv) hy T cs.toArray hb hi hold h1 ?_
 have h9:=hK (V n0) (w.setRow g cs'.toArray) ⟨fun k=>k=g,?_,?_,fun k hk=>⟨.inl ⟨n0,hc,by subst hk;exact hS⟩,?_⟩,hE⟩
 ·rw [hd] at h9 ⊢
  exact h9
 ·exact ⟨rfl,rfl,rfl,by simp [World.setRow],fun k hk hn=>setRow_other w g k _ (fun e=>hn ⟨n0,hc,by subst e;exact hS⟩)⟩
 ·rw [hF]
  exact ⟨g,hv,hb.row cs',rfl⟩
 ·subst hk
  have:=hb.lt
  simpa [World.setRow] using this
end
end Ag2
end Go.Proofs.YtbnpgakmhhfjkaaGreatDoor
