/-
  OWN WORK. StDoC, StDoD, StDoE, StClk
-/
import Derived.Test.YtbnpgakmhhfjkaaGreatDoorO16
import Derived.Test.YtbnpgakmhhfjkaaGreatDoorO15
import Derived.Test.YtbnpgakmhhfjkaaGreatDoorO17
import Derived.Test.YtbnpgakmhhfjkaaGreatDoorO01
import Derived.Lib.Hide
namespace Go.Proofs.YtbnpgakmhhfjkaaGreatDoor
open Go.RowKit Rc
open Tr (Nm En T)
open Tm (tobj)
open Sn (sobj)
open St (alone)
namespace Sm
variable {p:Nat} {tv sv:Value} {qs:List Value} {B1 B2 D:Nat→Prop} {s:St.State} {w w':World}
set_option maxHeartbeats 4000000 in
set_option maxRecDepth 100000 in
theorem do_2 (h:StIn p tv sv qs B1 B2 D s w) (hO:St.Ok s) (o:St.Opn) (hk1:o.kind=2) (A0:Option Addr) (c0:Nat) (h1:o.path.length≤9223372036854775807) (h2:o.dest.length≤9223372036854775807) :
    Calls Tryz.prog 15 #[.pointer (some ⟨p,0,none⟩),opV o (.slice A0 o.data.length c0)] w (DoAns (.pointer (some ⟨p,0,none⟩)) s o (StS p B1 B2 D) w):=by
 have HPA:Hid (∀ W,Calls Tryz.prog 38 #[opV o (.slice A0 o.data.length c0)] W (PAns o W)):=fun W=>paths_any o A0 o.data.length c0 W h1 h2
 have HDO:Hid (St.do_ s o=if (St.paths o).2.2≠0 then (St.no (St.paths o).2.2,s) else (St.no (Tr.make s.tree (St.paths o).1 2).1.2,{ s with tree:=(Tr.make s.tree (St.paths o).1 2).2 })):=by
  show _=_
  unfold St.do_
  rw [hk1]
  rw [if_neg (by decide:¬ (2:Int)=1),if_pos rfl]
 obtain ⟨P,hP⟩:∃ P,P=St.paths o:=⟨_,rfl⟩
 have HPP:Hid (∀ e W W',PAns o W e W'→∃ A c A2 c2,e=.returned (.tuple #[.slice A P.1.length c,.slice A2 P.2.1.length c2,.int .i64 (P.2.2:Nat)])∧Way W' A P.1 c∧Way W' A2 P.2.1 c2∧Below W.heap.size W W'):=fun e W W' hh=>by rw [hP];exact hh
 rw [← hP] at HDO
 obtain ⟨p1,p2,pc⟩:=P
 dsimp only at HPP HDO
 clear hP h1 h2
 obtain ⟨kind,path,dest,fd,at_,n,till,snap,data⟩:=o
 dsimp only at hk1 HDO
 subst hk1
 obtain ⟨tp,rfl⟩:=tobj.ptr h.tr
 obtain ⟨sp,rfl⟩:=sobj.ptr h.sn
 obtain ⟨V0,hV0⟩:∃ V0,V0=w.alloc (.cells #[.int .i64 2,.string (strOf path),.string (strOf dest),.int .i64 fd,.int .i64 at_,.int .i64 n,.int .u64 (till:Nat),.int .i64 snap,.slice A0 data.length c0] 36):=⟨_,rfl⟩
 obtain ⟨go,hgo⟩:∃ go,go=w.heap.size:=⟨_,rfl⟩
 have HOP:Hid (Blk V0 go 36 [.int .i64 2,.string (strOf path),.string (strOf dest),.int .i64 fd,.int .i64 at_,.int .i64 n,.int .u64 (till:Nat),.int .i64 snap,.slice A0 data.length c0]):=by show Blk _ _ _ _;rw [hV0,hgo];exact Blk.new w _ _
 have hbv:Below w.heap.size w V0:=by rw [hV0];exact below_new w _
 obtain ⟨W0,hW0⟩:∃ W0,W0=V0.alloc (.cells #[.int .i64 0,.int .i64 0,.slice none 0 0,.slice none 0 0,.int .i64 0,.int .i64 0,.int .i64 0,.int .i64 0,.int .u64 0,.bool false] 33):=⟨_,rfl⟩
 obtain ⟨g,hg⟩:∃ g,g=V0.heap.size:=⟨_,rfl⟩
 have HZ0:Hid (Blk W0 g 33 [.int .i64 0,.int .i64 0,.slice none 0 0,.slice none 0 0,.int .i64 0,.int .i64 0,.int .i64 0,.int .i64 0,.int .u64 0,.bool false]):=by show Blk _ _ _ _;rw [hW0,hg];exact Blk.new V0 _ _
 have hbw:Below V0.heap.size V0 W0:=by rw [hW0];exact below_new V0 _
 have HB0:Hid (Below w.heap.size w W0):=hbv.trans (hbw.mono hbv.size)
 have HOP0:Hid (Blk W0 go 36 [.int .i64 2,.string (strOf path),.string (strOf dest),.int .i64 fd,.int .i64 at_,.int .i64 n,.int .u64 (till:Nat),.int .i64 snap,.slice A0 data.length c0]):=HOP.out.below hbw HOP.out.lt
 have HGG:Hid (w.heap.size≤g):=by show _≤_;rw [hg];exact hbv.size
 have HNG:Hid (¬ StS p B1 B2 D g):=fun h9=>by
  have:=h.lt h9
  have h8:w.heap.size≤g:=HGG.out
  omega
 have HN0:Hid (Nw p (.pointer (some tp)) (.pointer (some sp)) qs w (StS p B1 B2 D) B1 B2 D s W0):=(Nw.start h).later HB0.out
 have HO:=Lib.hid hO
 clear h hO hbv hbw HOP
 have o0:=HOP0.out.cell 0
 have o1:=HOP0.out.cell 1
 have o2:=HOP0.out.cell 2
 have o3:=HOP0.out.cell 3
 have o4:=HOP0.out.cell 4
 have o5:=HOP0.out.cell 5
 have o6:=HOP0.out.cell 6
 have o7:=HOP0.out.cell 7
 have o8:=HOP0.out.cell 8
 go_enter Tryz.func15,Tryz.ntmps15
 go_upto_region 1 with (fail)
 unfold opV
 dsimp only
 rw [← hV0,← hW0,← hgo,show go+1=g by rw [hg,hV0,World.size_alloc,hgo]]
 clear hV0 hgo hW0 hg
 go_wp2_with fail
 refine (HPA.out W0).mono ?_
 intro e w1 hpa
 obtain ⟨A,c,A2,c2,rfl,hw1,hw2,hb1⟩:=HPP.out _ _ _ hpa
 have HZ1:Hid (Blk w1 g 33 [.int .i64 0,.int .i64 0,.slice none 0 0,.slice none 0 0,.int .i64 0,.int .i64 0,.int .i64 0,.int .i64 0,.int .u64 0,.bool false]):=HZ0.out.below hb1 HZ0.out.lt
 have HN1:Hid (Nw p (.pointer (some tp)) (.pointer (some sp)) qs w (StS p B1 B2 D) B1 B2 D s w1):=HN0.out.later hb1
 have HB1:Hid (Below w.heap.size w w1):=HB0.out.trans (hb1.mono HB0.out.size)
 have HOP1:Hid (Blk w1 go 36 [.int .i64 2,.string (strOf path),.string (strOf dest),.int .i64 fd,.int .i64 at_,.int .i64 n,.int .u64 (till:Nat),.int .i64 snap,.slice A0 data.length c0]):=HOP0.out.below hb1 HOP0.out.lt
 have HW1:=Lib.hid hw1
 have HW2:=Lib.hid hw2
 clear hpa hw1 hw2 hb1 HPA HPP HZ0 HN0 HOP0 HB0 o0 o1 o2 o3 o4 o5 o6 o7 o8
 have o0:=HOP1.out.cell 0
 by_cases hc:pc=0
 rotate_left
 ·have hci:((pc:Int)==0)=false:=by rw [beq_eq_false_iff_ne];omega
  have HQ:Hid (St.do_ s ⟨2,path,dest,fd,at_,n,till,snap,data⟩=(St.no pc,s)):=by show _=_;rw [HDO.out,if_pos hc]
  clear hc HDO
  obtain⟨g0,e0,g1,e1,g2,e2,g3,e3,g4,e4,g5,e5,g6,e6,g7,e7,g8,e8,g9,e9⟩:=cells10 HZ1.out
  go_wp2_with fail
  refine bodyPost_ret (results_blk rfl _ _ g 33 (repL (pc:Nat) 0) _ rfl (set10_blk HZ1.out _ _ _ _ _ _ _ _ _ _) rfl rfl rfl) rfl ?_
  refine DoAns.of_turns (by rw [HQ.out];exact plain_no _) ?_
  rw [HQ.out]
  exact (HN1.out.poke (set10_mod _ _ _ _ _ _ _ _ _ _ _ _) HNG.out HGG.out).done _
 subst hc
 have HQ:Hid (St.do_ s ⟨2,path,dest,fd,at_,n,till,snap,data⟩=(St.no (Tr.make s.tree p1 2).1.2,{ s with tree:=(Tr.make s.tree p1 2).2 })):=HDO.out
 clear HDO
 have c0:w1.cell? ⟨p,0,none⟩=some (.pointer (some tp)):=HN1.out.in_.box.cell 0
 obtain ⟨re,hre⟩:∃ re,re=(Tr.make s.tree p1 2).1.2:=⟨_,rfl⟩
 have HRE:=Lib.hid hre
 have HAFT:Hid (∀ e w3 x t',Ob.Turns tobj (.pointer (some tp)) t' x B1 w1 e w3→e=.returned x∧∃ B1',Hid (Nw p (.pointer (some tp)) (.pointer (some sp)) qs w (StS p B1 B2 D) B1' B2 D { s with tree:=t' } w3)∧Hid (Blk w3 g 33 [.int .i64 0,.int .i64 0,.slice none 0 0,.slice none 0 0,.int .i64 0,.int .i64 0,.int .i64 0,.int .i64 0,.int .u64 0,.bool false])∧Hid (¬ StS p B1' B2 D g)):=fun e w3 x t' ht=>by
  have hmod:Mod w1 w3 B1:=by obtain ⟨_,_,_,h2,_⟩:=ht;exact h2
  obtain ⟨rfl,B1',hn3,hgr⟩:=HN1.out.turnT ht
  exact ⟨rfl,B1',hn3,(hmod.block g HZ1.out.lt fun h9=>HNG.out (.inr (.inl h9))).trans HZ1.out,fun h9=>by
   rcases hgr g h9 with h4|h4
   ·exact HNG.out h4
   ·have:=HZ1.out.lt
    omega⟩
 have HM:=Lib.hid (t_make HN1.out.in_.tr HO.out.tree 2 HW1.out)
 rw [← hre] at HM
 clear hre
 go_wp2_with fail
 refine HM.out.mono ?_
 intro e w2 ht
 obtain ⟨rfl,B1',HN2,HZ2,HNG2⟩:=HAFT.out _ _ _ _ ht
 clear ht HM HAFT o0 c0
 obtain⟨g0,e0,g1,e1,g2,e2,g3,e3,g4,e4,g5,e5,g6,e6,g7,e7,g8,e8,g9,e9⟩:=cells10 HZ2.out
 go_wp2_with fail
 refine bodyPost_ret (results_blk rfl _ _ g 33 (repL (re:Nat) 0) _ rfl (set10_blk HZ2.out _ _ _ _ _ _ _ _ _ _) rfl rfl rfl) rfl ?_
 refine DoAns.of_turns (by rw [HQ.out];exact plain_no _) ?_
 rw [HQ.out,HRE.out]
 exact (HN2.out.poke (set10_mod _ _ _ _ _ _ _ _ _ _ _ _) HNG2.out HGG.out).done _
set_option maxHeartbeats 4000000 in
set_option maxRecDepth 100000 in
theorem do_7 (h:StIn p tv sv qs B1 B2 D s w) (hO:St.Ok s) (o:St.Opn) (hk1:o.kind=7) (A0:Option Addr) (c0:Nat) (h1:o.path.length≤9223372036854775807) (h2:o.dest.length≤9223372036854775807) :
    Calls Tryz.prog 15 #[.pointer (some ⟨p,0,none⟩),opV o (.slice A0 o.data.length c0)] w (DoAns (.pointer (some ⟨p,0,none⟩)) s o (StS p B1 B2 D) w):=by
 have HPA:Hid (∀ W,Calls Tryz.prog 38 #[opV o (.slice A0 o.data.length c0)] W (PAns o W)):=fun W=>paths_any o A0 o.data.length c0 W h1 h2
 have HDO:Hid (St.do_ s o=if (St.paths o).2.2≠0 then (St.no (St.paths o).2.2,s) else (St.no (Tr.link s.tree (St.paths o).1 (St.paths o).2.1).1,{ s with tree:=(Tr.link s.tree (St.paths o).1 (St.paths o).2.1).2 })):=by
  show _=_
  unfold St.do_
  rw [hk1]
  rw [if_neg (by decide:¬ (7:Int)=1),if_neg (by decide:¬ (7:Int)=2),if_neg (by decide:¬ (7:Int)=3),if_neg (by decide:¬ (7:Int)=4),if_neg (by decide:¬ (7:Int)=5),if_neg (by decide:¬ (7:Int)=6),if_pos rfl]
 obtain ⟨P,hP⟩:∃ P,P=St.paths o:=⟨_,rfl⟩
 have HPP:Hid (∀ e W W',PAns o W e W'→∃ A c A2 c2,e=.returned (.tuple #[.slice A P.1.length c,.slice A2 P.2.1.length c2,.int .i64 (P.2.2:Nat)])∧Way W' A P.1 c∧Way W' A2 P.2.1 c2∧Below W.heap.size W W'):=fun e W W' hh=>by rw [hP];exact hh
 rw [← hP] at HDO
 obtain ⟨p1,p2,pc⟩:=P
 dsimp only at HPP HDO
 clear hP h1 h2
 obtain ⟨kind,path,dest,fd,at_,n,till,snap,data⟩:=o
 dsimp only at hk1 HDO
 subst hk1
 obtain ⟨tp,rfl⟩:=tobj.ptr h.tr
 obtain ⟨sp,rfl⟩:=sobj.ptr h.sn
 obtain ⟨V0,hV0⟩:∃ V0,V0=w.alloc (.cells #[.int .i64 7,.string (strOf path),.string (strOf dest),.int .i64 fd,.int .i64 at_,.int .i64 n,.int .u64 (till:Nat),.int .i64 snap,.slice A0 data.length c0] 36):=⟨_,rfl⟩
 obtain ⟨go,hgo⟩:∃ go,go=w.heap.size:=⟨_,rfl⟩
 have HOP:Hid (Blk V0 go 36 [.int .i64 7,.string (strOf path),.string (strOf dest),.int .i64 fd,.int .i64 at_,.int .i64 n,.int .u64 (till:Nat),.int .i64 snap,.slice A0 data.length c0]):=by show Blk _ _ _ _;rw [hV0,hgo];exact Blk.new w _ _
 have hbv:Below w.heap.size w V0:=by rw [hV0];exact below_new w _
 obtain ⟨W0,hW0⟩:∃ W0,W0=V0.alloc (.cells #[.int .i64 0,.int .i64 0,.slice none 0 0,.slice none 0 0,.int .i64 0,.int .i64 0,.int .i64 0,.int .i64 0,.int .u64 0,.bool false] 33):=⟨_,rfl⟩
 obtain ⟨g,hg⟩:∃ g,g=V0.heap.size:=⟨_,rfl⟩
 have HZ0:Hid (Blk W0 g 33 [.int .i64 0,.int .i64 0,.slice none 0 0,.slice none 0 0,.int .i64 0,.int .i64 0,.int .i64 0,.int .i64 0,.int .u64 0,.bool false]):=by show Blk _ _ _ _;rw [hW0,hg];exact Blk.new V0 _ _
 have hbw:Below V0.heap.size V0 W0:=by rw [hW0];exact below_new V0 _
 have HB0:Hid (Below w.heap.size w W0):=hbv.trans (hbw.mono hbv.size)
 have HOP0:Hid (Blk W0 go 36 [.int .i64 7,.string (strOf path),.string (strOf dest),.int .i64 fd,.int .i64 at_,.int .i64 n,.int .u64 (till:Nat),.int .i64 snap,.slice A0 data.length c0]):=HOP.out.below hbw HOP.out.lt
 have HGG:Hid (w.heap.size≤g):=by show _≤_;rw [hg];exact hbv.size
 have HNG:Hid (¬ StS p B1 B2 D g):=fun h9=>by
  have:=h.lt h9
  have h8:w.heap.size≤g:=HGG.out
  omega
 have HN0:Hid (Nw p (.pointer (some tp)) (.pointer (some sp)) qs w (StS p B1 B2 D) B1 B2 D s W0):=(Nw.start h).later HB0.out
 have HO:=Lib.hid hO
 clear h hO hbv hbw HOP
 have o0:=HOP0.out.cell 0
 have o1:=HOP0.out.cell 1
 have o2:=HOP0.out.cell 2
 have o3:=HOP0.out.cell 3
 have o4:=HOP0.out.cell 4
 have o5:=HOP0.out.cell 5
 have o6:=HOP0.out.cell 6
 have o7:=HOP0.out.cell 7
 have o8:=HOP0.out.cell 8
 go_enter Tryz.func15,Tryz.ntmps15
 go_upto_region 1 with (fail)
 unfold opV
 dsimp only
 rw [← hV0,← hW0,← hgo,show go+1=g by rw [hg,hV0,World.size_alloc,hgo]]
 clear hV0 hgo hW0 hg
 go_wp2_with fail
 refine (HPA.out W0).mono ?_
 intro e w1 hpa
 obtain ⟨A,c,A2,c2,rfl,hw1,hw2,hb1⟩:=HPP.out _ _ _ hpa
 have HZ1:Hid (Blk w1 g 33 [.int .i64 0,.int .i64 0,.slice none 0 0,.slice none 0 0,.int .i64 0,.int .i64 0,.int .i64 0,.int .i64 0,.int .u64 0,.bool false]):=HZ0.out.below hb1 HZ0.out.lt
 have HN1:Hid (Nw p (.pointer (some tp)) (.pointer (some sp)) qs w (StS p B1 B2 D) B1 B2 D s w1):=HN0.out.later hb1
 have HB1:Hid (Below w.heap.size w w1):=HB0.out.trans (hb1.mono HB0.out.size)
 have HOP1:Hid (Blk w1 go 36 [.int .i64 7,.string (strOf path),.string (strOf dest),.int .i64 fd,.int .i64 at_,.int .i64 n,.int .u64 (till:Nat),.int .i64 snap,.slice A0 data.length c0]):=HOP0.out.below hb1 HOP0.out.lt
 have HW1:=Lib.hid hw1
 have HW2:=Lib.hid hw2
 clear hpa hw1 hw2 hb1 HPA HPP HZ0 HN0 HOP0 HB0 o0 o1 o2 o3 o4 o5 o6 o7 o8
 have o0:=HOP1.out.cell 0
 by_cases hc:pc=0
 rotate_left
 ·have hci:((pc:Int)==0)=false:=by rw [beq_eq_false_iff_ne];omega
  have HQ:Hid (St.do_ s ⟨7,path,dest,fd,at_,n,till,snap,data⟩=(St.no pc,s)):=by show _=_;rw [HDO.out,if_pos hc]
  clear hc HDO
  obtain⟨g0,e0,g1,e1,g2,e2,g3,e3,g4,e4,g5,e5,g6,e6,g7,e7,g8,e8,g9,e9⟩:=cells10 HZ1.out
  go_wp2_with fail
  refine bodyPost_ret (results_blk rfl _ _ g 33 (repL (pc:Nat) 0) _ rfl (set10_blk HZ1.out _ _ _ _ _ _ _ _ _ _) rfl rfl rfl) rfl ?_
  refine DoAns.of_turns (by rw [HQ.out];exact plain_no _) ?_
  rw [HQ.out]
  exact (HN1.out.poke (set10_mod _ _ _ _ _ _ _ _ _ _ _ _) HNG.out HGG.out).done _
 subst hc
 have HQ:Hid (St.do_ s ⟨7,path,dest,fd,at_,n,till,snap,data⟩=(St.no (Tr.link s.tree p1 p2).1,{ s with tree:=(Tr.link s.tree p1 p2).2 })):=HDO.out
 clear HDO
 have c0:w1.cell? ⟨p,0,none⟩=some (.pointer (some tp)):=HN1.out.in_.box.cell 0
 obtain ⟨re,hre⟩:∃ re,re=(Tr.link s.tree p1 p2).1:=⟨_,rfl⟩
 have HRE:=Lib.hid hre
 have HAFT:Hid (∀ e w3 x t',Ob.Turns tobj (.pointer (some tp)) t' x B1 w1 e w3→e=.returned x∧∃ B1',Hid (Nw p (.pointer (some tp)) (.pointer (some sp)) qs w (StS p B1 B2 D) B1' B2 D { s with tree:=t' } w3)∧Hid (Blk w3 g 33 [.int .i64 0,.int .i64 0,.slice none 0 0,.slice none 0 0,.int .i64 0,.int .i64 0,.int .i64 0,.int .i64 0,.int .u64 0,.bool false])∧Hid (¬ StS p B1' B2 D g)):=fun e w3 x t' ht=>by
  have hmod:Mod w1 w3 B1:=by obtain ⟨_,_,_,h2,_⟩:=ht;exact h2
  obtain ⟨rfl,B1',hn3,hgr⟩:=HN1.out.turnT ht
  exact ⟨rfl,B1',hn3,(hmod.block g HZ1.out.lt fun h9=>HNG.out (.inr (.inl h9))).trans HZ1.out,fun h9=>by
   rcases hgr g h9 with h4|h4
   ·exact HNG.out h4
   ·have:=HZ1.out.lt
    omega⟩
 have HM:=Lib.hid (t_link HN1.out.in_.tr HO.out.tree HW1.out HW2.out)
 rw [← hre] at HM
 clear hre
 go_wp2_with fail
 refine HM.out.mono ?_
 intro e w2 ht
 obtain ⟨rfl,B1',HN2,HZ2,HNG2⟩:=HAFT.out _ _ _ _ ht
 clear ht HM HAFT o0 c0
 obtain⟨g0,e0,g1,e1,g2,e2,g3,e3,g4,e4,g5,e5,g6,e6,g7,e7,g8,e8,g9,e9⟩:=cells10 HZ2.out
 go_wp2_with fail
 refine bodyPost_ret (results_blk rfl _ _ g 33 (repL (re:Nat) 0) _ rfl (set10_blk HZ2.out _ _ _ _ _ _ _ _ _ _) rfl rfl rfl) rfl ?_
 refine DoAns.of_turns (by rw [HQ.out];exact plain_no _) ?_
 rw [HQ.out,HRE.out]
 exact (HN2.out.poke (set10_mod _ _ _ _ _ _ _ _ _ _ _ _) HNG2.out HGG.out).done _
set_option maxHeartbeats 4000000 in
set_option maxRecDepth 100000 in
theorem do_9 (h:StIn p tv sv qs B1 B2 D s w) (hO:St.Ok s) (o:St.Opn) (hk1:o.kind=9) (A0:Option Addr) (c0:Nat) (h1:o.path.length≤9223372036854775807) (h2:o.dest.length≤9223372036854775807) :
    Calls Tryz.prog 15 #[.pointer (some ⟨p,0,none⟩),opV o (.slice A0 o.data.length c0)] w (DoAns (.pointer (some ⟨p,0,none⟩)) s o (StS p B1 B2 D) w):=by
 have HPA:Hid (∀ W,Calls Tryz.prog 38 #[opV o (.slice A0 o.data.length c0)] W (PAns o W)):=fun W=>paths_any o A0 o.data.length c0 W h1 h2
 have HDO:Hid (St.do_ s o=if (St.paths o).2.2≠0 then (St.no (St.paths o).2.2,s) else (St.no (Tr.rmdir s.tree (St.paths o).1).1,{ s with tree:=(Tr.rmdir s.tree (St.paths o).1).2 })):=by
  show _=_
  unfold St.do_
  rw [hk1]
  rw [if_neg (by decide:¬ (9:Int)=1),if_neg (by decide:¬ (9:Int)=2),if_neg (by decide:¬ (9:Int)=3),if_neg (by decide:¬ (9:Int)=4),if_neg (by decide:¬ (9:Int)=5),if_neg (by decide:¬ (9:Int)=6),if_neg (by decide:¬ (9:Int)=7),if_neg (by decide:¬ (9:Int)=8),if_pos rfl]
 obtain ⟨P,hP⟩:∃ P,P=St.paths o:=⟨_,rfl⟩
 have HPP:Hid (∀ e W W',PAns o W e W'→∃ A c A2 c2,e=.returned (.tuple #[.slice A P.1.length c,.slice A2 P.2.1.length c2,.int .i64 (P.2.2:Nat)])∧Way W' A P.1 c∧Way W' A2 P.2.1 c2∧Below W.heap.size W W'):=fun e W W' hh=>by rw [hP];exact hh
 rw [← hP] at HDO
 obtain ⟨p1,p2,pc⟩:=P
 dsimp only at HPP HDO
 clear hP h1 h2
 obtain ⟨kind,path,dest,fd,at_,n,till,snap,data⟩:=o
 dsimp only at hk1 HDO
 subst hk1
 obtain ⟨tp,rfl⟩:=tobj.ptr h.tr
 obtain ⟨sp,rfl⟩:=sobj.ptr h.sn
 obtain ⟨V0,hV0⟩:∃ V0,V0=w.alloc (.cells #[.int .i64 9,.string (strOf path),.string (strOf dest),.int .i64 fd,.int .i64 at_,.int .i64 n,.int .u64 (till:Nat),.int .i64 snap,.slice A0 data.length c0] 36):=⟨_,rfl⟩
 obtain ⟨go,hgo⟩:∃ go,go=w.heap.size:=⟨_,rfl⟩
 have HOP:Hid (Blk V0 go 36 [.int .i64 9,.string (strOf path),.string (strOf dest),.int .i64 fd,.int .i64 at_,.int .i64 n,.int .u64 (till:Nat),.int .i64 snap,.slice A0 data.length c0]):=by show Blk _ _ _ _;rw [hV0,hgo];exact Blk.new w _ _
 have hbv:Below w.heap.size w V0:=by rw [hV0];exact below_new w _
 obtain ⟨W0,hW0⟩:∃ W0,W0=V0.alloc (.cells #[.int .i64 0,.int .i64 0,.slice none 0 0,.slice none 0 0,.int .i64 0,.int .i64 0,.int .i64 0,.int .i64 0,.int .u64 0,.bool false] 33):=⟨_,rfl⟩
 obtain ⟨g,hg⟩:∃ g,g=V0.heap.size:=⟨_,rfl⟩
 have HZ0:Hid (Blk W0 g 33 [.int .i64 0,.int .i64 0,.slice none 0 0,.slice none 0 0,.int .i64 0,.int .i64 0,.int .i64 0,.int .i64 0,.int .u64 0,.bool false]):=by show Blk _ _ _ _;rw [hW0,hg];exact Blk.new V0 _ _
 have hbw:Below V0.heap.size V0 W0:=by rw [hW0];exact below_new V0 _
 have HB0:Hid (Below w.heap.size w W0):=hbv.trans (hbw.mono hbv.size)
 have HOP0:Hid (Blk W0 go 36 [.int .i64 9,.string (strOf path),.string (strOf dest),.int .i64 fd,.int .i64 at_,.int .i64 n,.int .u64 (till:Nat),.int .i64 snap,.slice A0 data.length c0]):=HOP.out.below hbw HOP.out.lt
 have HGG:Hid (w.heap.size≤g):=by show _≤_;rw [hg];exact hbv.size
 have HNG:Hid (¬ StS p B1 B2 D g):=fun h9=>by
  have:=h.lt h9
  have h8:w.heap.size≤g:=HGG.out
  omega
 have HN0:Hid (Nw p (.pointer (some tp)) (.pointer (some sp)) qs w (StS p B1 B2 D) B1 B2 D s W0):=(Nw.start h).later HB0.out
 have HO:=Lib.hid hO
 clear h hO hbv hbw HOP
 have o0:=HOP0.out.cell 0
 have o1:=HOP0.out.cell 1
 have o2:=HOP0.out.cell 2
 have o3:=HOP0.out.cell 3
 have o4:=HOP0.out.cell 4
 have o5:=HOP0.out.cell 5
 have o6:=HOP0.out.cell 6
 have o7:=HOP0.out.cell 7
 have o8:=HOP0.out.cell 8
 go_enter Tryz.func15,Tryz.ntmps15
 go_upto_region 1 with (fail)
 unfold opV
 dsimp only
 rw [← hV0,← hW0,← hgo,show go+1=g by rw [hg,hV0,World.size_alloc,hgo]]
 clear hV0 hgo hW0 hg
 go_wp2_with fail
 refine (HPA.out W0).mono ?_
 intro e w1 hpa
 obtain ⟨A,c,A2,c2,rfl,hw1,hw2,hb1⟩:=HPP.out _ _ _ hpa
 have HZ1:Hid (Blk w1 g 33 [.int .i64 0,.int .i64 0,.slice none 0 0,.slice none 0 0,.int .i64 0,.int .i64 0,.int .i64 0,.int .i64 0,.int .u64 0,.bool false]):=HZ0.out.below hb1 HZ0.out.lt
 have HN1:Hid (Nw p (.pointer (some tp)) (.pointer (some sp)) qs w (StS p B1 B2 D) B1 B2 D s w1):=HN0.out.later hb1
 have HB1:Hid (Below w.heap.size w w1):=HB0.out.trans (hb1.mono HB0.out.size)
 have HOP1:Hid (Blk w1 go 36 [.int .i64 9,.string (strOf path),.string (strOf dest),.int .i64 fd,.int .i64 at_,.int .i64 n,.int .u64 (till:Nat),.int .i64 snap,.slice A0 data.length c0]):=HOP0.out.below hb1 HOP0.out.lt
 have HW1:=Lib.hid hw1
 have HW2:=Lib.hid hw2
 clear hpa hw1 hw2 hb1 HPA HPP HZ0 HN0 HOP0 HB0 o0 o1 o2 o3 o4 o5 o6 o7 o8
 have o0:=HOP1.out.cell 0
 by_cases hc:pc=0
 rotate_left
 ·have hci:((pc:Int)==0)=false:=by rw [beq_eq_false_iff_ne];omega
  have HQ:Hid (St.do_ s ⟨9,path,dest,fd,at_,n,till,snap,data⟩=(St.no pc,s)):=by show _=_;rw [HDO.out,if_pos hc]
  clear hc HDO
  obtain⟨g0,e0,g1,e1,g2,e2,g3,e3,g4,e4,g5,e5,g6,e6,g7,e7,g8,e8,g9,e9⟩:=cells10 HZ1.out
  go_wp2_with fail
  refine bodyPost_ret (results_blk rfl _ _ g 33 (repL (pc:Nat) 0) _ rfl (set10_blk HZ1.out _ _ _ _ _ _ _ _ _ _) rfl rfl rfl) rfl ?_
  refine DoAns.of_turns (by rw [HQ.out];exact plain_no _) ?_
  rw [HQ.out]
  exact (HN1.out.poke (set10_mod _ _ _ _ _ _ _ _ _ _ _ _) HNG.out HGG.out).done _
 subst hc
 have HQ:Hid (St.do_ s ⟨9,path,dest,fd,at_,n,till,snap,data⟩=(St.no (Tr.rmdir s.tree p1).1,{ s with tree:=(Tr.rmdir s.tree p1).2 })):=HDO.out
 clear HDO
 have c0:w1.cell? ⟨p,0,none⟩=some (.pointer (some tp)):=HN1.out.in_.box.cell 0
 obtain ⟨re,hre⟩:∃ re,re=(Tr.rmdir s.tree p1).1:=⟨_,rfl⟩
 have HRE:=Lib.hid hre
 have HAFT:Hid (∀ e w3 x t',Ob.Turns tobj (.pointer (some tp)) t' x B1 w1 e w3→e=.returned x∧∃ B1',Hid (Nw p (.pointer (some tp)) (.pointer (some sp)) qs w (StS p B1 B2 D) B1' B2 D { s with tree:=t' } w3)∧Hid (Blk w3 g 33 [.int .i64 0,.int .i64 0,.slice none 0 0,.slice none 0 0,.int .i64 0,.int .i64 0,.int .i64 0,.int .i64 0,.int .u64 0,.bool false])∧Hid (¬ StS p B1' B2 D g)):=fun e w3 x t' ht=>by
  have hmod:Mod w1 w3 B1:=by obtain ⟨_,_,_,h2,_⟩:=ht;exact h2
  obtain ⟨rfl,B1',hn3,hgr⟩:=HN1.out.turnT ht
  exact ⟨rfl,B1',hn3,(hmod.block g HZ1.out.lt fun h9=>HNG.out (.inr (.inl h9))).trans HZ1.out,fun h9=>by
   rcases hgr g h9 with h4|h4
   ·exact HNG.out h4
   ·have:=HZ1.out.lt
    omega⟩
 have HM:=Lib.hid (t_rmdir HN1.out.in_.tr HO.out.tree HW1.out)
 rw [← hre] at HM
 clear hre
 go_wp2_with fail
 refine HM.out.mono ?_
 intro e w2 ht
 obtain ⟨rfl,B1',HN2,HZ2,HNG2⟩:=HAFT.out _ _ _ _ ht
 clear ht HM HAFT o0 c0
 obtain⟨g0,e0,g1,e1,g2,e2,g3,e3,g4,e4,g5,e5,g6,e6,g7,e7,g8,e8,g9,e9⟩:=cells10 HZ2.out
 go_wp2_with fail
 refine bodyPost_ret (results_blk rfl _ _ g 33 (repL (re:Nat) 0) _ rfl (set10_blk HZ2.out _ _ _ _ _ _ _ _ _ _) rfl rfl rfl) rfl ?_
 refine DoAns.of_turns (by rw [HQ.out];exact plain_no _) ?_
 rw [HQ.out,HRE.out]
 exact (HN2.out.poke (set10_mod _ _ _ _ _ _ _ _ _ _ _ _) HNG2.out HGG.out).done _
set_option maxHeartbeats 4000000 in
set_option maxRecDepth 100000 in
theorem do_10 (h:StIn p tv sv qs B1 B2 D s w) (hO:St.Ok s) (o:St.Opn) (hk1:o.kind=10) (A0:Option Addr) (c0:Nat) (h1:o.path.length≤9223372036854775807) (h2:o.dest.length≤9223372036854775807) :
    Calls Tryz.prog 15 #[.pointer (some ⟨p,0,none⟩),opV o (.slice A0 o.data.length c0)] w (DoAns (.pointer (some ⟨p,0,none⟩)) s o (StS p B1 B2 D) w):=by
 have HPA:Hid (∀ W,Calls Tryz.prog 38 #[opV o (.slice A0 o.data.length c0)] W (PAns o W)):=fun W=>paths_any o A0 o.data.length c0 W h1 h2
 have HDO:Hid (St.do_ s o=if (St.paths o).2.2≠0 then (St.no (St.paths o).2.2,s) else (St.no (Tr.rename s.tree (St.paths o).1 (St.paths o).2.1).1,{ s with tree:=(Tr.rename s.tree (St.paths o).1 (St.paths o).2.1).2 })):=by
  show _=_
  unfold St.do_
  rw [hk1]
  rw [if_neg (by decide:¬ (10:Int)=1),if_neg (by decide:¬ (10:Int)=2),if_neg (by decide:¬ (10:Int)=3),if_neg (by decide:¬ (10:Int)=4),if_neg (by decide:¬ (10:Int)=5),if_neg (by decide:¬ (10:Int)=6),if_neg (by decide:¬ (10:Int)=7),if_neg (by decide:¬ (10:Int)=8),if_neg (by decide:¬ (10:Int)=9),if_pos rfl]
 obtain ⟨P,hP⟩:∃ P,P=St.paths o:=⟨_,rfl⟩
 have HPP:Hid (∀ e W W',PAns o W e W'→∃ A c A2 c2,e=.returned (.tuple #[.slice A P.1.length c,.slice A2 P.2.1.length c2,.int .i64 (P.2.2:Nat)])∧Way W' A P.1 c∧Way W' A2 P.2.1 c2∧Below W.heap.size W W'):=fun e W W' hh=>by rw [hP];exact hh
 rw [← hP] at HDO
 obtain ⟨p1,p2,pc⟩:=P
 dsimp only at HPP HDO
 clear hP h1 h2
 obtain ⟨kind,path,dest,fd,at_,n,till,snap,data⟩:=o
 dsimp only at hk1 HDO
 subst hk1
 obtain ⟨tp,rfl⟩:=tobj.ptr h.tr
 obtain ⟨sp,rfl⟩:=sobj.ptr h.sn
 obtain ⟨V0,hV0⟩:∃ V0,V0=w.alloc (.cells #[.int .i64 10,.string (strOf path),.string (strOf dest),.int .i64 fd,.int .i64 at_,.int .i64 n,.int .u64 (till:Nat),.int .i64 snap,.slice A0 data.length c0] 36):=⟨_,rfl⟩
 obtain ⟨go,hgo⟩:∃ go,go=w.heap.size:=⟨_,rfl⟩
 have HOP:Hid (Blk V0 go 36 [.int .i64 10,.string (strOf path),.string (strOf dest),.int .i64 fd,.int .i64 at_,.int .i64 n,.int .u64 (till:Nat),.int .i64 snap,.slice A0 data.length c0]):=by show Blk _ _ _ _;rw [hV0,hgo];exact Blk.new w _ _
 have hbv:Below w.heap.size w V0:=by rw [hV0];exact below_new w _
 obtain ⟨W0,hW0⟩:∃ W0,W0=V0.alloc (.cells #[.int .i64 0,.int .i64 0,.slice none 0 0,.slice none 0 0,.int .i64 0,.int .i64 0,.int .i64 0,.int .i64 0,.int .u64 0,.bool false] 33):=⟨_,rfl⟩
 obtain ⟨g,hg⟩:∃ g,g=V0.heap.size:=⟨_,rfl⟩
 have HZ0:Hid (Blk W0 g 33 [.int .i64 0,.int .i64 0,.slice none 0 0,.slice none 0 0,.int .i64 0,.int .i64 0,.int .i64 0,.int .i64 0,.int .u64 0,.bool false]):=by show Blk _ _ _ _;rw [hW0,hg];exact Blk.new V0 _ _
 have hbw:Below V0.heap.size V0 W0:=by rw [hW0];exact below_new V0 _
 have HB0:Hid (Below w.heap.size w W0):=hbv.trans (hbw.mono hbv.size)
 have HOP0:Hid (Blk W0 go 36 [.int .i64 10,.string (strOf path),.string (strOf dest),.int .i64 fd,.int .i64 at_,.int .i64 n,.int .u64 (till:Nat),.int .i64 snap,.slice A0 data.length c0]):=HOP.out.below hbw HOP.out.lt
 have HGG:Hid (w.heap.size≤g):=by show _≤_;rw [hg];exact hbv.size
 have HNG:Hid (¬ StS p B1 B2 D g):=fun h9=>by
  have:=h.lt h9
  have h8:w.heap.size≤g:=HGG.out
  omega
 have HN0:Hid (Nw p (.pointer (some tp)) (.pointer (some sp)) qs w (StS p B1 B2 D) B1 B2 D s W0):=(Nw.start h).later HB0.out
 have HO:=Lib.hid hO
 clear h hO hbv hbw HOP
 have o0:=HOP0.out.cell 0
 have o1:=HOP0.out.cell 1
 have o2:=HOP0.out.cell 2
 have o3:=HOP0.out.cell 3
 have o4:=HOP0.out.cell 4
 have o5:=HOP0.out.cell 5
 have o6:=HOP0.out.cell 6
 have o7:=HOP0.out.cell 7
 have o8:=HOP0.out.cell 8
 go_enter Tryz.func15,Tryz.ntmps15
 go_upto_region 1 with (fail)
 unfold opV
 dsimp only
 rw [← hV0,← hW0,← hgo,show go+1=g by rw [hg,hV0,World.size_alloc,hgo]]
 clear hV0 hgo hW0 hg
 go_wp2_with fail
 refine (HPA.out W0).mono ?_
 intro e w1 hpa
 obtain ⟨A,c,A2,c2,rfl,hw1,hw2,hb1⟩:=HPP.out _ _ _ hpa
 have HZ1:Hid (Blk w1 g 33 [.int .i64 0,.int .i64 0,.slice none 0 0,.slice none 0 0,.int .i64 0,.int .i64 0,.int .i64 0,.int .i64 0,.int .u64 0,.bool false]):=HZ0.out.below hb1 HZ0.out.lt
 have HN1:Hid (Nw p (.pointer (some tp)) (.pointer (some sp)) qs w (StS p B1 B2 D) B1 B2 D s w1):=HN0.out.later hb1
 have HB1:Hid (Below w.heap.size w w1):=HB0.out.trans (hb1.mono HB0.out.size)
 have HOP1:Hid (Blk w1 go 36 [.int .i64 10,.string (strOf path),.string (strOf dest),.int .i64 fd,.int .i64 at_,.int .i64 n,.int .u64 (till:Nat),.int .i64 snap,.slice A0 data.length c0]):=HOP0.out.below hb1 HOP0.out.lt
 have HW1:=Lib.hid hw1
 have HW2:=Lib.hid hw2
 clear hpa hw1 hw2 hb1 HPA HPP HZ0 HN0 HOP0 HB0 o0 o1 o2 o3 o4 o5 o6 o7 o8
 have o0:=HOP1.out.cell 0
 by_cases hc:pc=0
 rotate_left
 ·have hci:((pc:Int)==0)=false:=by rw [beq_eq_false_iff_ne];omega
  have HQ:Hid (St.do_ s ⟨10,path,dest,fd,at_,n,till,snap,data⟩=(St.no pc,s)):=by show _=_;rw [HDO.out,if_pos hc]
  clear hc HDO
  obtain⟨g0,e0,g1,e1,g2,e2,g3,e3,g4,e4,g5,e5,g6,e6,g7,e7,g8,e8,g9,e9⟩:=cells10 HZ1.out
  go_wp2_with fail
  refine bodyPost_ret (results_blk rfl _ _ g 33 (repL (pc:Nat) 0) _ rfl (set10_blk HZ1.out _ _ _ _ _ _ _ _ _ _) rfl rfl rfl) rfl ?_
  refine DoAns.of_turns (by rw [HQ.out];exact plain_no _) ?_
  rw [HQ.out]
  exact (HN1.out.poke (set10_mod _ _ _ _ _ _ _ _ _ _ _ _) HNG.out HGG.out).done _
 subst hc
 have HQ:Hid (St.do_ s ⟨10,path,dest,fd,at_,n,till,snap,data⟩=(St.no (Tr.rename s.tree p1 p2).1,{ s with tree:=(Tr.rename s.tree p1 p2).2 })):=HDO.out
 clear HDO
 have c0:w1.cell? ⟨p,0,none⟩=some (.pointer (some tp)):=HN1.out.in_.box.cell 0
 obtain ⟨re,hre⟩:∃ re,re=(Tr.rename s.tree p1 p2).1:=⟨_,rfl⟩
 have HRE:=Lib.hid hre
 have HAFT:Hid (∀ e w3 x t',Ob.Turns tobj (.pointer (some tp)) t' x B1 w1 e w3→e=.returned x∧∃ B1',Hid (Nw p (.pointer (some tp)) (.pointer (some sp)) qs w (StS p B1 B2 D) B1' B2 D { s with tree:=t' } w3)∧Hid (Blk w3 g 33 [.int .i64 0,.int .i64 0,.slice none 0 0,.slice none 0 0,.int .i64 0,.int .i64 0,.int .i64 0,.int .i64 0,.int .u64 0,.bool false])∧Hid (¬ StS p B1' B2 D g)):=fun e w3 x t' ht=>by
  have hmod:Mod w1 w3 B1:=by obtain ⟨_,_,_,h2,_⟩:=ht;exact h2
  obtain ⟨rfl,B1',hn3,hgr⟩:=HN1.out.turnT ht
  exact ⟨rfl,B1',hn3,(hmod.block g HZ1.out.lt fun h9=>HNG.out (.inr (.inl h9))).trans HZ1.out,fun h9=>by
   rcases hgr g h9 with h4|h4
   ·exact HNG.out h4
   ·have:=HZ1.out.lt
    omega⟩
 have HM:=Lib.hid (t_rename HN1.out.in_.tr HO.out.tree HW1.out HW2.out)
 rw [← hre] at HM
 clear hre
 go_wp2_with fail
 refine HM.out.mono ?_
 intro e w2 ht
 obtain ⟨rfl,B1',HN2,HZ2,HNG2⟩:=HAFT.out _ _ _ _ ht
 clear ht HM HAFT o0 c0
 obtain⟨g0,e0,g1,e1,g2,e2,g3,e3,g4,e4,g5,e5,g6,e6,g7,e7,g8,e8,g9,e9⟩:=cells10 HZ2.out
 go_wp2_with fail
 refine bodyPost_ret (results_blk rfl _ _ g 33 (repL (re:Nat) 0) _ rfl (set10_blk HZ2.out _ _ _ _ _ _ _ _ _ _) rfl rfl rfl) rfl ?_
 refine DoAns.of_turns (by rw [HQ.out];exact plain_no _) ?_
 rw [HQ.out,HRE.out]
 exact (HN2.out.poke (set10_mod _ _ _ _ _ _ _ _ _ _ _ _) HNG2.out HGG.out).done _
end Sm
end Go.Proofs.YtbnpgakmhhfjkaaGreatDoor
namespace Go.Proofs.YtbnpgakmhhfjkaaGreatDoor
open Go.RowKit Rc
open Tr (Nm En T)
open Tm (tobj)
open Sn (sobj)
open St (alone)
namespace Sm
variable {p:Nat} {tv sv:Value} {qs:List Value} {B1 B2 D:Nat→Prop} {s:St.State} {w w':World}
set_option maxHeartbeats 4000000 in
set_option maxRecDepth 100000 in
theorem do_6 (h:StIn p tv sv qs B1 B2 D s w) (hO:St.Ok s) (o:St.Opn) (hk1:o.kind=6) (A0:Option Addr) (c0:Nat) (h1:o.path.length≤9223372036854775807) (h2:o.dest.length≤9223372036854775807) (hu:o.till≤18446744073709551615) :
    Calls Tryz.prog 15 #[.pointer (some ⟨p,0,none⟩),opV o (.slice A0 o.data.length c0)] w (DoAns (.pointer (some ⟨p,0,none⟩)) s o (StS p B1 B2 D) w):=by
 have HPA:Hid (∀ W,Calls Tryz.prog 38 #[opV o (.slice A0 o.data.length c0)] W (PAns o W)):=fun W=>paths_any o A0 o.data.length c0 W h1 h2
 have HDO:Hid (St.do_ s o=if (St.paths o).2.2≠0 then (St.no (St.paths o).2.2,s) else (St.no (St.closeFile s o.fd o.till).1,(St.closeFile s o.fd o.till).2)):=by
  show _=_
  unfold St.do_
  rw [hk1]
  rw [if_neg (by decide:¬ (6:Int)=1),if_neg (by decide:¬ (6:Int)=2),if_neg (by decide:¬ (6:Int)=3),if_neg (by decide:¬ (6:Int)=4),if_neg (by decide:¬ (6:Int)=5),if_pos rfl]
 obtain ⟨P,hP⟩:∃ P,P=St.paths o:=⟨_,rfl⟩
 have HPP:Hid (∀ e W W',PAns o W e W'→∃ A c A2 c2,e=.returned (.tuple #[.slice A P.1.length c,.slice A2 P.2.1.length c2,.int .i64 (P.2.2:Nat)])∧Way W' A P.1 c∧Way W' A2 P.2.1 c2∧Below W.heap.size W W'):=fun e W W' hh=>by rw [hP];exact hh
 rw [← hP] at HDO
 obtain ⟨p1,p2,pc⟩:=P
 dsimp only at HPP HDO
 clear hP h1 h2
 obtain ⟨kind,path,dest,fd,at_,n,till,snap,data⟩:=o
 dsimp only at hk1 HDO
 subst hk1
 obtain ⟨tp,rfl⟩:=tobj.ptr h.tr
 obtain ⟨sp,rfl⟩:=sobj.ptr h.sn
 obtain ⟨V0,hV0⟩:∃ V0,V0=w.alloc (.cells #[.int .i64 6,.string (strOf path),.string (strOf dest),.int .i64 fd,.int .i64 at_,.int .i64 n,.int .u64 (till:Nat),.int .i64 snap,.slice A0 data.length c0] 36):=⟨_,rfl⟩
 obtain ⟨go,hgo⟩:∃ go,go=w.heap.size:=⟨_,rfl⟩
 have HOP:Hid (Blk V0 go 36 [.int .i64 6,.string (strOf path),.string (strOf dest),.int .i64 fd,.int .i64 at_,.int .i64 n,.int .u64 (till:Nat),.int .i64 snap,.slice A0 data.length c0]):=by show Blk _ _ _ _;rw [hV0,hgo];exact Blk.new w _ _
 have hbv:Below w.heap.size w V0:=by rw [hV0];exact below_new w _
 obtain ⟨W0,hW0⟩:∃ W0,W0=V0.alloc (.cells #[.int .i64 0,.int .i64 0,.slice none 0 0,.slice none 0 0,.int .i64 0,.int .i64 0,.int .i64 0,.int .i64 0,.int .u64 0,.bool false] 33):=⟨_,rfl⟩
 obtain ⟨g,hg⟩:∃ g,g=V0.heap.size:=⟨_,rfl⟩
 have HZ0:Hid (Blk W0 g 33 [.int .i64 0,.int .i64 0,.slice none 0 0,.slice none 0 0,.int .i64 0,.int .i64 0,.int .i64 0,.int .i64 0,.int .u64 0,.bool false]):=by show Blk _ _ _ _;rw [hW0,hg];exact Blk.new V0 _ _
 have hbw:Below V0.heap.size V0 W0:=by rw [hW0];exact below_new V0 _
 have HB0:Hid (Below w.heap.size w W0):=hbv.trans (hbw.mono hbv.size)
 have HOP0:Hid (Blk W0 go 36 [.int .i64 6,.string (strOf path),.string (strOf dest),.int .i64 fd,.int .i64 at_,.int .i64 n,.int .u64 (till:Nat),.int .i64 snap,.slice A0 data.length c0]):=HOP.out.below hbw HOP.out.lt
 have HGG:Hid (w.heap.size≤g):=by show _≤_;rw [hg];exact hbv.size
 have HNG:Hid (¬ StS p B1 B2 D g):=fun h9=>by
  have:=h.lt h9
  have h8:w.heap.size≤g:=HGG.out
  omega
 have HN0:Hid (Nw p (.pointer (some tp)) (.pointer (some sp)) qs w (StS p B1 B2 D) B1 B2 D s W0):=(Nw.start h).later HB0.out
 have HO:=Lib.hid hO
 have HTU:=Lib.hid hu
 clear hu
 clear h hO hbv hbw HOP
 have o0:=HOP0.out.cell 0
 have o1:=HOP0.out.cell 1
 have o2:=HOP0.out.cell 2
 have o3:=HOP0.out.cell 3
 have o4:=HOP0.out.cell 4
 have o5:=HOP0.out.cell 5
 have o6:=HOP0.out.cell 6
 have o7:=HOP0.out.cell 7
 have o8:=HOP0.out.cell 8
 go_enter Tryz.func15,Tryz.ntmps15
 go_upto_region 1 with (fail)
 unfold opV
 dsimp only
 rw [← hV0,← hW0,← hgo,show go+1=g by rw [hg,hV0,World.size_alloc,hgo]]
 clear hV0 hgo hW0 hg
 go_wp2_with fail
 refine (HPA.out W0).mono ?_
 intro e w1 hpa
 obtain ⟨A,c,A2,c2,rfl,hw1,hw2,hb1⟩:=HPP.out _ _ _ hpa
 have HZ1:Hid (Blk w1 g 33 [.int .i64 0,.int .i64 0,.slice none 0 0,.slice none 0 0,.int .i64 0,.int .i64 0,.int .i64 0,.int .i64 0,.int .u64 0,.bool false]):=HZ0.out.below hb1 HZ0.out.lt
 have HN1:Hid (Nw p (.pointer (some tp)) (.pointer (some sp)) qs w (StS p B1 B2 D) B1 B2 D s w1):=HN0.out.later hb1
 have HB1:Hid (Below w.heap.size w w1):=HB0.out.trans (hb1.mono HB0.out.size)
 have HOP1:Hid (Blk w1 go 36 [.int .i64 6,.string (strOf path),.string (strOf dest),.int .i64 fd,.int .i64 at_,.int .i64 n,.int .u64 (till:Nat),.int .i64 snap,.slice A0 data.length c0]):=HOP0.out.below hb1 HOP0.out.lt
 have HW1:=Lib.hid hw1
 have HW2:=Lib.hid hw2
 clear hpa hw1 hw2 hb1 HPA HPP HZ0 HN0 HOP0 HB0 o0 o1 o2 o3 o4 o5 o6 o7 o8
 have o0:=HOP1.out.cell 0
 by_cases hc:pc=0
 rotate_left
 ·have hci:((pc:Int)==0)=false:=by rw [beq_eq_false_iff_ne];omega
  have HQ:Hid (St.do_ s ⟨6,path,dest,fd,at_,n,till,snap,data⟩=(St.no pc,s)):=by show _=_;rw [HDO.out,if_pos hc]
  clear hc HDO
  obtain⟨g0,e0,g1,e1,g2,e2,g3,e3,g4,e4,g5,e5,g6,e6,g7,e7,g8,e8,g9,e9⟩:=cells10 HZ1.out
  go_wp2_with fail
  refine bodyPost_ret (results_blk rfl _ _ g 33 (repL (pc:Nat) 0) _ rfl (set10_blk HZ1.out _ _ _ _ _ _ _ _ _ _) rfl rfl rfl) rfl ?_
  refine DoAns.of_turns (by rw [HQ.out];exact plain_no _) ?_
  rw [HQ.out]
  exact (HN1.out.poke (set10_mod _ _ _ _ _ _ _ _ _ _ _ _) HNG.out HGG.out).done _
 subst hc
 have HQ:Hid (St.do_ s ⟨6,path,dest,fd,at_,n,till,snap,data⟩=(St.no (St.closeFile s fd till).1,(St.closeFile s fd till).2)):=HDO.out
 clear HDO
 have o3:=HOP1.out.cell 3
 have o6:=HOP1.out.cell 6
 obtain ⟨re,hre⟩:∃ re,re=(St.closeFile s fd till).1:=⟨_,rfl⟩
 have HM:=Lib.hid (close_in HN1.out.in_ HO.out fd till HTU.out)
 rw [← hre] at HM
 have HRE:=Lib.hid hre
 clear hre
 go_wp2_with fail
 refine HM.out.mono ?_
 rintro e w2 ⟨rfl,S2,h21,h22,h23⟩
 have HZ2:Hid (Blk w2 g 33 [.int .i64 0,.int .i64 0,.slice none 0 0,.slice none 0 0,.int .i64 0,.int .i64 0,.int .i64 0,.int .i64 0,.int .u64 0,.bool false]):=(h22.block g HZ1.out.lt HNG.out).trans HZ1.out
 have HEND:Hid (∀ w3,Mod w2 w3 (fun b=>b=g)→Ob.Turns stobj (.pointer (some ⟨p,0,none⟩)) _ (rep0 (re:Nat) 0) (StS p B1 B2 D) w (.returned (rep0 (re:Nat) 0)) w3):=fun w3 hp =>
  on_done h21 HN1.out.mod h22 HN1.out.sub h23 hp (fun h9=>(h23 g h9).elim HNG.out (fun h8=>by have:=HZ1.out.lt;omega)) HGG.out
 clear h21 h22 h23 HM o0 o3 o6
 obtain⟨g0,e0,g1,e1,g2,e2,g3,e3,g4,e4,g5,e5,g6,e6,g7,e7,g8,e8,g9,e9⟩:=cells10 HZ2.out
 go_wp2_with fail
 refine bodyPost_ret (results_blk rfl _ _ g 33 (repL (re:Nat) 0) _ rfl (set10_blk HZ2.out _ _ _ _ _ _ _ _ _ _) rfl rfl rfl) rfl ?_
 refine DoAns.of_turns (by rw [HQ.out];exact plain_no _) ?_
 rw [HQ.out]
 have h91:=HRE.out
 subst h91
 exact HEND.out _ (set10_mod _ _ _ _ _ _ _ _ _ _ _ _)
set_option maxHeartbeats 4000000 in
set_option maxRecDepth 100000 in
theorem do_8 (h:StIn p tv sv qs B1 B2 D s w) (hO:St.Ok s) (o:St.Opn) (hk1:o.kind=8) (A0:Option Addr) (c0:Nat) (h1:o.path.length≤9223372036854775807) (h2:o.dest.length≤9223372036854775807) :
    Calls Tryz.prog 15 #[.pointer (some ⟨p,0,none⟩),opV o (.slice A0 o.data.length c0)] w (DoAns (.pointer (some ⟨p,0,none⟩)) s o (StS p B1 B2 D) w):=by
 have HPA:Hid (∀ W,Calls Tryz.prog 38 #[opV o (.slice A0 o.data.length c0)] W (PAns o W)):=fun W=>paths_any o A0 o.data.length c0 W h1 h2
 have HDO:Hid (St.do_ s o=if (St.paths o).2.2≠0 then (St.no (St.paths o).2.2,s) else (St.no (St.unlink s (St.paths o).1).1,(St.unlink s (St.paths o).1).2)):=by
  show _=_
  unfold St.do_
  rw [hk1]
  rw [if_neg (by decide:¬ (8:Int)=1),if_neg (by decide:¬ (8:Int)=2),if_neg (by decide:¬ (8:Int)=3),if_neg (by decide:¬ (8:Int)=4),if_neg (by decide:¬ (8:Int)=5),if_neg (by decide:¬ (8:Int)=6),if_neg (by decide:¬ (8:Int)=7),if_pos rfl]
 obtain ⟨P,hP⟩:∃ P,P=St.paths o:=⟨_,rfl⟩
 have HPP:Hid (∀ e W W',PAns o W e W'→∃ A c A2 c2,e=.returned (.tuple #[.slice A P.1.length c,.slice A2 P.2.1.length c2,.int .i64 (P.2.2:Nat)])∧Way W' A P.1 c∧Way W' A2 P.2.1 c2∧Below W.heap.size W W'):=fun e W W' hh=>by rw [hP];exact hh
 rw [← hP] at HDO
 obtain ⟨p1,p2,pc⟩:=P
 dsimp only at HPP HDO
 clear hP h1 h2
 obtain ⟨kind,path,dest,fd,at_,n,till,snap,data⟩:=o
 dsimp only at hk1 HDO
 subst hk1
 obtain ⟨tp,rfl⟩:=tobj.ptr h.tr
 obtain ⟨sp,rfl⟩:=sobj.ptr h.sn
 obtain ⟨V0,hV0⟩:∃ V0,V0=w.alloc (.cells #[.int .i64 8,.string (strOf path),.string (strOf dest),.int .i64 fd,.int .i64 at_,.int .i64 n,.int .u64 (till:Nat),.int .i64 snap,.slice A0 data.length c0] 36):=⟨_,rfl⟩
 obtain ⟨go,hgo⟩:∃ go,go=w.heap.size:=⟨_,rfl⟩
 have HOP:Hid (Blk V0 go 36 [.int .i64 8,.string (strOf path),.string (strOf dest),.int .i64 fd,.int .i64 at_,.int .i64 n,.int .u64 (till:Nat),.int .i64 snap,.slice A0 data.length c0]):=by show Blk _ _ _ _;rw [hV0,hgo];exact Blk.new w _ _
 have hbv:Below w.heap.size w V0:=by rw [hV0];exact below_new w _
 obtain ⟨W0,hW0⟩:∃ W0,W0=V0.alloc (.cells #[.int .i64 0,.int .i64 0,.slice none 0 0,.slice none 0 0,.int .i64 0,.int .i64 0,.int .i64 0,.int .i64 0,.int .u64 0,.bool false] 33):=⟨_,rfl⟩
 obtain ⟨g,hg⟩:∃ g,g=V0.heap.size:=⟨_,rfl⟩
 have HZ0:Hid (Blk W0 g 33 [.int .i64 0,.int .i64 0,.slice none 0 0,.slice none 0 0,.int .i64 0,.int .i64 0,.int .i64 0,.int .i64 0,.int .u64 0,.bool false]):=by show Blk _ _ _ _;rw [hW0,hg];exact Blk.new V0 _ _
 have hbw:Below V0.heap.size V0 W0:=by rw [hW0];exact below_new V0 _
 have HB0:Hid (Below w.heap.size w W0):=hbv.trans (hbw.mono hbv.size)
 have HOP0:Hid (Blk W0 go 36 [.int .i64 8,.string (strOf path),.string (strOf dest),.int .i64 fd,.int .i64 at_,.int .i64 n,.int .u64 (till:Nat),.int .i64 snap,.slice A0 data.length c0]):=HOP.out.below hbw HOP.out.lt
 have HGG:Hid (w.heap.size≤g):=by show _≤_;rw [hg];exact hbv.size
 have HNG:Hid (¬ StS p B1 B2 D g):=fun h9=>by
  have:=h.lt h9
  have h8:w.heap.size≤g:=HGG.out
  omega
 have HN0:Hid (Nw p (.pointer (some tp)) (.pointer (some sp)) qs w (StS p B1 B2 D) B1 B2 D s W0):=(Nw.start h).later HB0.out
 have HO:=Lib.hid hO
 clear h hO hbv hbw HOP
 have o0:=HOP0.out.cell 0
 have o1:=HOP0.out.cell 1
 have o2:=HOP0.out.cell 2
 have o3:=HOP0.out.cell 3
 have o4:=HOP0.out.cell 4
 have o5:=HOP0.out.cell 5
 have o6:=HOP0.out.cell 6
 have o7:=HOP0.out.cell 7
 have o8:=HOP0.out.cell 8
 go_enter Tryz.func15,Tryz.ntmps15
 go_upto_region 1 with (fail)
 unfold opV
 dsimp only
 rw [← hV0,← hW0,← hgo,show go+1=g by rw [hg,hV0,World.size_alloc,hgo]]
 clear hV0 hgo hW0 hg
 go_wp2_with fail
 refine (HPA.out W0).mono ?_
 intro e w1 hpa
 obtain ⟨A,c,A2,c2,rfl,hw1,hw2,hb1⟩:=HPP.out _ _ _ hpa
 have HZ1:Hid (Blk w1 g 33 [.int .i64 0,.int .i64 0,.slice none 0 0,.slice none 0 0,.int .i64 0,.int .i64 0,.int .i64 0,.int .i64 0,.int .u64 0,.bool false]):=HZ0.out.below hb1 HZ0.out.lt
 have HN1:Hid (Nw p (.pointer (some tp)) (.pointer (some sp)) qs w (StS p B1 B2 D) B1 B2 D s w1):=HN0.out.later hb1
 have HB1:Hid (Below w.heap.size w w1):=HB0.out.trans (hb1.mono HB0.out.size)
 have HOP1:Hid (Blk w1 go 36 [.int .i64 8,.string (strOf path),.string (strOf dest),.int .i64 fd,.int .i64 at_,.int .i64 n,.int .u64 (till:Nat),.int .i64 snap,.slice A0 data.length c0]):=HOP0.out.below hb1 HOP0.out.lt
 have HW1:=Lib.hid hw1
 have HW2:=Lib.hid hw2
 clear hpa hw1 hw2 hb1 HPA HPP HZ0 HN0 HOP0 HB0 o0 o1 o2 o3 o4 o5 o6 o7 o8
 have o0:=HOP1.out.cell 0
 by_cases hc:pc=0
 rotate_left
 ·have hci:((pc:Int)==0)=false:=by rw [beq_eq_false_iff_ne];omega
  have HQ:Hid (St.do_ s ⟨8,path,dest,fd,at_,n,till,snap,data⟩=(St.no pc,s)):=by show _=_;rw [HDO.out,if_pos hc]
  clear hc HDO
  obtain⟨g0,e0,g1,e1,g2,e2,g3,e3,g4,e4,g5,e5,g6,e6,g7,e7,g8,e8,g9,e9⟩:=cells10 HZ1.out
  go_wp2_with fail
  refine bodyPost_ret (results_blk rfl _ _ g 33 (repL (pc:Nat) 0) _ rfl (set10_blk HZ1.out _ _ _ _ _ _ _ _ _ _) rfl rfl rfl) rfl ?_
  refine DoAns.of_turns (by rw [HQ.out];exact plain_no _) ?_
  rw [HQ.out]
  exact (HN1.out.poke (set10_mod _ _ _ _ _ _ _ _ _ _ _ _) HNG.out HGG.out).done _
 subst hc
 have HQ:Hid (St.do_ s ⟨8,path,dest,fd,at_,n,till,snap,data⟩=(St.no (St.unlink s p1).1,(St.unlink s p1).2)):=HDO.out
 clear HDO
 obtain ⟨re,hre⟩:∃ re,re=(St.unlink s p1).1:=⟨_,rfl⟩
 have HM:=Lib.hid (unlink_in HN1.out.in_ HO.out HW1.out)
 rw [← hre] at HM
 have HRE:=Lib.hid hre
 clear hre
 go_wp2_with fail
 refine HM.out.mono ?_
 rintro e w2 ⟨rfl,S2,h21,h22,h23⟩
 have HZ2:Hid (Blk w2 g 33 [.int .i64 0,.int .i64 0,.slice none 0 0,.slice none 0 0,.int .i64 0,.int .i64 0,.int .i64 0,.int .i64 0,.int .u64 0,.bool false]):=(h22.block g HZ1.out.lt HNG.out).trans HZ1.out
 have HEND:Hid (∀ w3,Mod w2 w3 (fun b=>b=g)→Ob.Turns stobj (.pointer (some ⟨p,0,none⟩)) _ (rep0 (re:Nat) 0) (StS p B1 B2 D) w (.returned (rep0 (re:Nat) 0)) w3):=fun w3 hp =>
  on_done h21 HN1.out.mod h22 HN1.out.sub h23 hp (fun h9=>(h23 g h9).elim HNG.out (fun h8=>by have:=HZ1.out.lt;omega)) HGG.out
 clear h21 h22 h23 HM o0
 obtain⟨g0,e0,g1,e1,g2,e2,g3,e3,g4,e4,g5,e5,g6,e6,g7,e7,g8,e8,g9,e9⟩:=cells10 HZ2.out
 go_wp2_with fail
 refine bodyPost_ret (results_blk rfl _ _ g 33 (repL (re:Nat) 0) _ rfl (set10_blk HZ2.out _ _ _ _ _ _ _ _ _ _) rfl rfl rfl) rfl ?_
 refine DoAns.of_turns (by rw [HQ.out];exact plain_no _) ?_
 rw [HQ.out]
 have h91:=HRE.out
 subst h91
 exact HEND.out _ (set10_mod _ _ _ _ _ _ _ _ _ _ _ _)
set_option maxHeartbeats 4000000 in
set_option maxRecDepth 100000 in
theorem do_13 (h:StIn p tv sv qs B1 B2 D s w) (hO:St.Ok s) (o:St.Opn) (hk1:o.kind=13) (A0:Option Addr) (c0:Nat) (h1:o.path.length≤9223372036854775807) (h2:o.dest.length≤9223372036854775807) (hu:o.till≤18446744073709551615) :
    Calls Tryz.prog 15 #[.pointer (some ⟨p,0,none⟩),opV o (.slice A0 o.data.length c0)] w (DoAns (.pointer (some ⟨p,0,none⟩)) s o (StS p B1 B2 D) w):=by
 have HPA:Hid (∀ W,Calls Tryz.prog 38 #[opV o (.slice A0 o.data.length c0)] W (PAns o W)):=fun W=>paths_any o A0 o.data.length c0 W h1 h2
 have HDO:Hid (St.do_ s o=if (St.paths o).2.2≠0 then (St.no (St.paths o).2.2,s) else (St.no (St.keep s (St.paths o).1 o.till).1,(St.keep s (St.paths o).1 o.till).2)):=by
  show _=_
  unfold St.do_
  rw [hk1]
  rw [if_neg (by decide:¬ (13:Int)=1),if_neg (by decide:¬ (13:Int)=2),if_neg (by decide:¬ (13:Int)=3),if_neg (by decide:¬ (13:Int)=4),if_neg (by decide:¬ (13:Int)=5),if_neg (by decide:¬ (13:Int)=6),if_neg (by decide:¬ (13:Int)=7),if_neg (by decide:¬ (13:Int)=8),if_neg (by decide:¬ (13:Int)=9),if_neg (by decide:¬ (13:Int)=10),if_neg (by decide:¬ (13:Int)=11),if_neg (by decide:¬ (13:Int)=12),if_pos rfl]
 obtain ⟨P,hP⟩:∃ P,P=St.paths o:=⟨_,rfl⟩
 have HPP:Hid (∀ e W W',PAns o W e W'→∃ A c A2 c2,e=.returned (.tuple #[.slice A P.1.length c,.slice A2 P.2.1.length c2,.int .i64 (P.2.2:Nat)])∧Way W' A P.1 c∧Way W' A2 P.2.1 c2∧Below W.heap.size W W'):=fun e W W' hh=>by rw [hP];exact hh
 rw [← hP] at HDO
 obtain ⟨p1,p2,pc⟩:=P
 dsimp only at HPP HDO
 clear hP h1 h2
 obtain ⟨kind,path,dest,fd,at_,n,till,snap,data⟩:=o
 dsimp only at hk1 HDO
 subst hk1
 obtain ⟨tp,rfl⟩:=tobj.ptr h.tr
 obtain ⟨sp,rfl⟩:=sobj.ptr h.sn
 obtain ⟨V0,hV0⟩:∃ V0,V0=w.alloc (.cells #[.int .i64 13,.string (strOf path),.string (strOf dest),.int .i64 fd,.int .i64 at_,.int .i64 n,.int .u64 (till:Nat),.int .i64 snap,.slice A0 data.length c0] 36):=⟨_,rfl⟩
 obtain ⟨go,hgo⟩:∃ go,go=w.heap.size:=⟨_,rfl⟩
 have HOP:Hid (Blk V0 go 36 [.int .i64 13,.string (strOf path),.string (strOf dest),.int .i64 fd,.int .i64 at_,.int .i64 n,.int .u64 (till:Nat),.int .i64 snap,.slice A0 data.length c0]):=by show Blk _ _ _ _;rw [hV0,hgo];exact Blk.new w _ _
 have hbv:Below w.heap.size w V0:=by rw [hV0];exact below_new w _
 obtain ⟨W0,hW0⟩:∃ W0,W0=V0.alloc (.cells #[.int .i64 0,.int .i64 0,.slice none 0 0,.slice none 0 0,.int .i64 0,.int .i64 0,.int .i64 0,.int .i64 0,.int .u64 0,.bool false] 33):=⟨_,rfl⟩
 obtain ⟨g,hg⟩:∃ g,g=V0.heap.size:=⟨_,rfl⟩
 have HZ0:Hid (Blk W0 g 33 [.int .i64 0,.int .i64 0,.slice none 0 0,.slice none 0 0,.int .i64 0,.int .i64 0,.int .i64 0,.int .i64 0,.int .u64 0,.bool false]):=by show Blk _ _ _ _;rw [hW0,hg];exact Blk.new V0 _ _
 have hbw:Below V0.heap.size V0 W0:=by rw [hW0];exact below_new V0 _
 have HB0:Hid (Below w.heap.size w W0):=hbv.trans (hbw.mono hbv.size)
 have HOP0:Hid (Blk W0 go 36 [.int .i64 13,.string (strOf path),.string (strOf dest),.int .i64 fd,.int .i64 at_,.int .i64 n,.int .u64 (till:Nat),.int .i64 snap,.slice A0 data.length c0]):=HOP.out.below hbw HOP.out.lt
 have HGG:Hid (w.heap.size≤g):=by show _≤_;rw [hg];exact hbv.size
 have HNG:Hid (¬ StS p B1 B2 D g):=fun h9=>by
  have:=h.lt h9
  have h8:w.heap.size≤g:=HGG.out
  omega
 have HN0:Hid (Nw p (.pointer (some tp)) (.pointer (some sp)) qs w (StS p B1 B2 D) B1 B2 D s W0):=(Nw.start h).later HB0.out
 have HO:=Lib.hid hO
 have HTU:=Lib.hid hu
 clear hu
 clear h hO hbv hbw HOP
 have o0:=HOP0.out.cell 0
 have o1:=HOP0.out.cell 1
 have o2:=HOP0.out.cell 2
 have o3:=HOP0.out.cell 3
 have o4:=HOP0.out.cell 4
 have o5:=HOP0.out.cell 5
 have o6:=HOP0.out.cell 6
 have o7:=HOP0.out.cell 7
 have o8:=HOP0.out.cell 8
 go_enter Tryz.func15,Tryz.ntmps15
 go_upto_region 1 with (fail)
 unfold opV
 dsimp only
 rw [← hV0,← hW0,← hgo,show go+1=g by rw [hg,hV0,World.size_alloc,hgo]]
 clear hV0 hgo hW0 hg
 go_wp2_with fail
 refine (HPA.out W0).mono ?_
 intro e w1 hpa
 obtain ⟨A,c,A2,c2,rfl,hw1,hw2,hb1⟩:=HPP.out _ _ _ hpa
 have HZ1:Hid (Blk w1 g 33 [.int .i64 0,.int .i64 0,.slice none 0 0,.slice none 0 0,.int .i64 0,.int .i64 0,.int .i64 0,.int .i64 0,.int .u64 0,.bool false]):=HZ0.out.below hb1 HZ0.out.lt
 have HN1:Hid (Nw p (.pointer (some tp)) (.pointer (some sp)) qs w (StS p B1 B2 D) B1 B2 D s w1):=HN0.out.later hb1
 have HB1:Hid (Below w.heap.size w w1):=HB0.out.trans (hb1.mono HB0.out.size)
 have HOP1:Hid (Blk w1 go 36 [.int .i64 13,.string (strOf path),.string (strOf dest),.int .i64 fd,.int .i64 at_,.int .i64 n,.int .u64 (till:Nat),.int .i64 snap,.slice A0 data.length c0]):=HOP0.out.below hb1 HOP0.out.lt
 have HW1:=Lib.hid hw1
 have HW2:=Lib.hid hw2
 clear hpa hw1 hw2 hb1 HPA HPP HZ0 HN0 HOP0 HB0 o0 o1 o2 o3 o4 o5 o6 o7 o8
 have o0:=HOP1.out.cell 0
 by_cases hc:pc=0
 rotate_left
 ·have hci:((pc:Int)==0)=false:=by rw [beq_eq_false_iff_ne];omega
  have HQ:Hid (St.do_ s ⟨13,path,dest,fd,at_,n,till,snap,data⟩=(St.no pc,s)):=by show _=_;rw [HDO.out,if_pos hc]
  clear hc HDO
  obtain⟨g0,e0,g1,e1,g2,e2,g3,e3,g4,e4,g5,e5,g6,e6,g7,e7,g8,e8,g9,e9⟩:=cells10 HZ1.out
  go_wp2_with fail
  refine bodyPost_ret (results_blk rfl _ _ g 33 (repL (pc:Nat) 0) _ rfl (set10_blk HZ1.out _ _ _ _ _ _ _ _ _ _) rfl rfl rfl) rfl ?_
  refine DoAns.of_turns (by rw [HQ.out];exact plain_no _) ?_
  rw [HQ.out]
  exact (HN1.out.poke (set10_mod _ _ _ _ _ _ _ _ _ _ _ _) HNG.out HGG.out).done _
 subst hc
 have HQ:Hid (St.do_ s ⟨13,path,dest,fd,at_,n,till,snap,data⟩=(St.no (St.keep s p1 till).1,(St.keep s p1 till).2)):=HDO.out
 clear HDO
 have o6:=HOP1.out.cell 6
 obtain ⟨re,hre⟩:∃ re,re=(St.keep s p1 till).1:=⟨_,rfl⟩
 have HM:=Lib.hid (keep_in HN1.out.in_ HO.out HW1.out till HTU.out)
 rw [← hre] at HM
 have HRE:=Lib.hid hre
 clear hre
 go_wp2_with fail
 refine HM.out.mono ?_
 rintro e w2 ⟨rfl,S2,h21,h22,h23⟩
 have HZ2:Hid (Blk w2 g 33 [.int .i64 0,.int .i64 0,.slice none 0 0,.slice none 0 0,.int .i64 0,.int .i64 0,.int .i64 0,.int .i64 0,.int .u64 0,.bool false]):=(h22.block g HZ1.out.lt HNG.out).trans HZ1.out
 have HEND:Hid (∀ w3,Mod w2 w3 (fun b=>b=g)→Ob.Turns stobj (.pointer (some ⟨p,0,none⟩)) _ (rep0 (re:Nat) 0) (StS p B1 B2 D) w (.returned (rep0 (re:Nat) 0)) w3):=fun w3 hp =>
  on_done h21 HN1.out.mod h22 HN1.out.sub h23 hp (fun h9=>(h23 g h9).elim HNG.out (fun h8=>by have:=HZ1.out.lt;omega)) HGG.out
 clear h21 h22 h23 HM o0 o6
 obtain⟨g0,e0,g1,e1,g2,e2,g3,e3,g4,e4,g5,e5,g6,e6,g7,e7,g8,e8,g9,e9⟩:=cells10 HZ2.out
 go_wp2_with fail
 refine bodyPost_ret (results_blk rfl _ _ g 33 (repL (re:Nat) 0) _ rfl (set10_blk HZ2.out _ _ _ _ _ _ _ _ _ _) rfl rfl rfl) rfl ?_
 refine DoAns.of_turns (by rw [HQ.out];exact plain_no _) ?_
 rw [HQ.out]
 have h91:=HRE.out
 subst h91
 exact HEND.out _ (set10_mod _ _ _ _ _ _ _ _ _ _ _ _)
end Sm
end Go.Proofs.YtbnpgakmhhfjkaaGreatDoor
namespace Go.Proofs.YtbnpgakmhhfjkaaGreatDoor
open Go.RowKit Rc
open Tr (Nm En T)
open Tm (tobj)
open Sn (sobj)
open St (alone)
namespace Sm
variable {p:Nat} {tv sv:Value} {qs:List Value} {B1 B2 D:Nat→Prop} {s:St.State} {w w':World}
theorem own_apart {w:World} {base n m size g:Nat} {e t:TypeId} {X:Option Addr} {c:Nat} {xs cs:List Value} (h:w.ownsRow base e size (.slice X n c) m xs) (hb:Blk w g t cs) (hne:t≠e):∀ b,X.map (·.block)=some b→b=g→False:=by
 rintro b hX rfl
 rcases h.2 with ⟨h2,_⟩|⟨g',cap,cur,h3,_,h5,_⟩
 ·injection h2 with h2
  subst h2
  simp at hX
 ·injection h3 with h3
  subst h3
  simp at hX
  subst hX
  have h6:=h5.symm.trans hb
  injection h6 with h6
  injection h6 with _ h6
  exact hne h6.symm
theorem rds_mod {w w':World} {A:Option Addr} {l:List Bs} {S:Nat→Prop} (h:RdS w A l) (hm:Mod w w' S) (hA:0<l.length→∀ b,A.map (·.block)=some b→¬ S b):RdS w' A l:=by
 intro hl
 obtain ⟨b,off,rfl,hlt,hc⟩:=h hl
 exact ⟨b,off,rfl,Nat.lt_of_lt_of_le hlt hm.size,fun j y hj=>by
  have:=hc j y hj
  unfold World.cell? at this ⊢
  rw [hm.block b hlt (hA hl b rfl)]
  exact this⟩
set_option maxHeartbeats 4000000 in
set_option maxRecDepth 100000 in
theorem do_4 (h:StIn p tv sv qs B1 B2 D s w) (hO:St.Ok s) (o:St.Opn) (hk1:o.kind=4) (A0:Option Addr) (c0:Nat) (h1:o.path.length≤9223372036854775807) (h2:o.dest.length≤9223372036854775807) (hat:-9223372036854775808≤o.at_∧o.at_≤9223372036854775807) (hnn:-9223372036854775808≤o.n∧o.n≤9223372036854775807) :
    Calls Tryz.prog 15 #[.pointer (some ⟨p,0,none⟩),opV o (.slice A0 o.data.length c0)] w (DoAns (.pointer (some ⟨p,0,none⟩)) s o (StS p B1 B2 D) w):=by
 have HPA:Hid (∀ W,Calls Tryz.prog 38 #[opV o (.slice A0 o.data.length c0)] W (PAns o W)):=fun W=>paths_any o A0 o.data.length c0 W h1 h2
 have HDO:Hid (St.do_ s o=if (St.paths o).2.2≠0 then (St.no (St.paths o).2.2,s) else (St.readFile s o.fd o.at_ o.n,s)):=by
  show _=_
  unfold St.do_
  rw [hk1]
  rw [if_neg (by decide:¬ (4:Int)=1),if_neg (by decide:¬ (4:Int)=2),if_neg (by decide:¬ (4:Int)=3),if_pos rfl]
 obtain ⟨P,hP⟩:∃ P,P=St.paths o:=⟨_,rfl⟩
 have HPP:Hid (∀ e W W',PAns o W e W'→∃ A c A2 c2,e=.returned (.tuple #[.slice A P.1.length c,.slice A2 P.2.1.length c2,.int .i64 (P.2.2:Nat)])∧Way W' A P.1 c∧Way W' A2 P.2.1 c2∧Below W.heap.size W W'):=fun e W W' hh=>by rw [hP];exact hh
 rw [← hP] at HDO
 obtain ⟨p1,p2,pc⟩:=P
 dsimp only at HPP HDO
 clear hP h1 h2
 obtain ⟨kind,path,dest,fd,at_,n,till,snap,data⟩:=o
 dsimp only at hk1 HDO
 subst hk1
 obtain ⟨tp,rfl⟩:=tobj.ptr h.tr
 obtain ⟨sp,rfl⟩:=sobj.ptr h.sn
 obtain ⟨V0,hV0⟩:∃ V0,V0=w.alloc (.cells #[.int .i64 4,.string (strOf path),.string (strOf dest),.int .i64 fd,.int .i64 at_,.int .i64 n,.int .u64 (till:Nat),.int .i64 snap,.slice A0 data.length c0] 36):=⟨_,rfl⟩
 obtain ⟨go,hgo⟩:∃ go,go=w.heap.size:=⟨_,rfl⟩
 have HOP:Hid (Blk V0 go 36 [.int .i64 4,.string (strOf path),.string (strOf dest),.int .i64 fd,.int .i64 at_,.int .i64 n,.int .u64 (till:Nat),.int .i64 snap,.slice A0 data.length c0]):=by show Blk _ _ _ _;rw [hV0,hgo];exact Blk.new w _ _
 have hbv:Below w.heap.size w V0:=by rw [hV0];exact below_new w _
 obtain ⟨W0,hW0⟩:∃ W0,W0=V0.alloc (.cells #[.int .i64 0,.int .i64 0,.slice none 0 0,.slice none 0 0,.int .i64 0,.int .i64 0,.int .i64 0,.int .i64 0,.int .u64 0,.bool false] 33):=⟨_,rfl⟩
 obtain ⟨g,hg⟩:∃ g,g=V0.heap.size:=⟨_,rfl⟩
 have HZ0:Hid (Blk W0 g 33 [.int .i64 0,.int .i64 0,.slice none 0 0,.slice none 0 0,.int .i64 0,.int .i64 0,.int .i64 0,.int .i64 0,.int .u64 0,.bool false]):=by show Blk _ _ _ _;rw [hW0,hg];exact Blk.new V0 _ _
 have hbw:Below V0.heap.size V0 W0:=by rw [hW0];exact below_new V0 _
 have HB0:Hid (Below w.heap.size w W0):=hbv.trans (hbw.mono hbv.size)
 have HOP0:Hid (Blk W0 go 36 [.int .i64 4,.string (strOf path),.string (strOf dest),.int .i64 fd,.int .i64 at_,.int .i64 n,.int .u64 (till:Nat),.int .i64 snap,.slice A0 data.length c0]):=HOP.out.below hbw HOP.out.lt
 have HGG:Hid (w.heap.size≤g):=by show _≤_;rw [hg];exact hbv.size
 have HNG:Hid (¬ StS p B1 B2 D g):=fun h9=>by
  have:=h.lt h9
  have h8:w.heap.size≤g:=HGG.out
  omega
 have HN0:Hid (Nw p (.pointer (some tp)) (.pointer (some sp)) qs w (StS p B1 B2 D) B1 B2 D s W0):=(Nw.start h).later HB0.out
 have HO:=Lib.hid hO
 have HAI:=Lib.hid hat
 have HNI:=Lib.hid hnn
 clear hat hnn
 clear h hO hbv hbw HOP
 have o0:=HOP0.out.cell 0
 have o1:=HOP0.out.cell 1
 have o2:=HOP0.out.cell 2
 have o3:=HOP0.out.cell 3
 have o4:=HOP0.out.cell 4
 have o5:=HOP0.out.cell 5
 have o6:=HOP0.out.cell 6
 have o7:=HOP0.out.cell 7
 have o8:=HOP0.out.cell 8
 go_enter Tryz.func15,Tryz.ntmps15
 go_upto_region 1 with (fail)
 unfold opV
 dsimp only
 rw [← hV0,← hW0,← hgo,show go+1=g by rw [hg,hV0,World.size_alloc,hgo]]
 clear hV0 hgo hW0 hg
 go_wp2_with fail
 refine (HPA.out W0).mono ?_
 intro e w1 hpa
 obtain ⟨A,c,A2,c2,rfl,hw1,hw2,hb1⟩:=HPP.out _ _ _ hpa
 have HZ1:Hid (Blk w1 g 33 [.int .i64 0,.int .i64 0,.slice none 0 0,.slice none 0 0,.int .i64 0,.int .i64 0,.int .i64 0,.int .i64 0,.int .u64 0,.bool false]):=HZ0.out.below hb1 HZ0.out.lt
 have HN1:Hid (Nw p (.pointer (some tp)) (.pointer (some sp)) qs w (StS p B1 B2 D) B1 B2 D s w1):=HN0.out.later hb1
 have HB1:Hid (Below w.heap.size w w1):=HB0.out.trans (hb1.mono HB0.out.size)
 have HOP1:Hid (Blk w1 go 36 [.int .i64 4,.string (strOf path),.string (strOf dest),.int .i64 fd,.int .i64 at_,.int .i64 n,.int .u64 (till:Nat),.int .i64 snap,.slice A0 data.length c0]):=HOP0.out.below hb1 HOP0.out.lt
 have HW1:=Lib.hid hw1
 have HW2:=Lib.hid hw2
 clear hpa hw1 hw2 hb1 HPA HPP HZ0 HN0 HOP0 HB0 o0 o1 o2 o3 o4 o5 o6 o7 o8
 have o0:=HOP1.out.cell 0
 by_cases hc:pc=0
 rotate_left
 ·have hci:((pc:Int)==0)=false:=by rw [beq_eq_false_iff_ne];omega
  have HQ:Hid (St.do_ s ⟨4,path,dest,fd,at_,n,till,snap,data⟩=(St.no pc,s)):=by show _=_;rw [HDO.out,if_pos hc]
  clear hc HDO
  obtain⟨g0,e0,g1,e1,g2,e2,g3,e3,g4,e4,g5,e5,g6,e6,g7,e7,g8,e8,g9,e9⟩:=cells10 HZ1.out
  go_wp2_with fail
  refine bodyPost_ret (results_blk rfl _ _ g 33 (repL (pc:Nat) 0) _ rfl (set10_blk HZ1.out _ _ _ _ _ _ _ _ _ _) rfl rfl rfl) rfl ?_
  refine DoAns.of_turns (by rw [HQ.out];exact plain_no _) ?_
  rw [HQ.out]
  exact (HN1.out.poke (set10_mod _ _ _ _ _ _ _ _ _ _ _ _) HNG.out HGG.out).done _
 subst hc
 have HQ:Hid (St.do_ s ⟨4,path,dest,fd,at_,n,till,snap,data⟩=(St.readFile s fd at_ n,s)):=HDO.out
 clear HDO
 have o3:=HOP1.out.cell 3
 have o4:=HOP1.out.cell 4
 have o5:=HOP1.out.cell 5
 have HM:=Lib.hid (read_in HN1.out.in_ HO.out fd at_ n HAI.out HNI.out)
 obtain ⟨r,hr⟩:∃ r,r=(St.readFile s fd at_ n):=⟨_,rfl⟩
 rw [← hr] at HM HQ
 have HPU:Hid (r.names=[]∧r.node=Nd.zero):=by
  show r.names=[]∧r.node=Nd.zero
  rw [hr]
  unfold St.readFile;repeat' split
  all_goals exact ⟨rfl,rfl⟩
 clear hr
 obtain ⟨re,rn,rd,rs,rnd⟩:=r
 dsimp only at HM HPU
 obtain ⟨rfl,rfl⟩:rs=[]∧rnd=Nd.zero:=HPU.out
 go_wp2_with fail
 refine HM.out.mono ?_
 rintro e w2 ⟨x,rfl,hown,hb⟩
 obtain ⟨X,cx,rfl,hcx,hrx⟩:=own_form hown
 have HX:Hid (Rd w2 X rd):=hrx
 have HCX:=Lib.hid hcx
 have HXB:Hid (∀ b,(Value.slice X rd.length cx).ownBlock=some b→w1.heap.size≤b):=fun b hb=>(own_lt hown hb).1
 have HXG:Hid (∀ b,X.map (·.block)=some b→b=g→False):=own_apart hown (HZ1.out.below hb HZ1.out.lt) (by decide)
 clear hown hrx hcx
 have HB2:Hid (Below w1.heap.size w1 w2):=hb
 have HZ2:Hid (Blk w2 g 33 [.int .i64 0,.int .i64 0,.slice none 0 0,.slice none 0 0,.int .i64 0,.int .i64 0,.int .i64 0,.int .i64 0,.int .u64 0,.bool false]):=HZ1.out.below hb HZ1.out.lt
 have HN2:Hid (Nw p (.pointer (some tp)) (.pointer (some sp)) qs w (StS p B1 B2 D) B1 B2 D s w2):=HN1.out.later hb
 unfold repD
 clear hb HM o0 o3 o4 o5
 obtain⟨g0,e0,g1,e1,g2,e2,g3,e3,g4,e4,g5,e5,g6,e6,g7,e7,g8,e8,g9,e9⟩:=cells10 HZ2.out
 go_wp2_with fail
 refine bodyPost_ret (results_blk rfl _ _ g 33 [.int .i64 (re:Nat),.int .i64 rn,.slice X rd.length cx,.slice none 0 0,.int .i64 0,.int .i64 0,.int .i64 0,.int .i64 0,.int .u64 0,.bool false] _ rfl (set10_blk HZ2.out _ _ _ _ _ _ _ _ _ _) rfl rfl rfl) rfl ?_
 have hfr:=set10_mod w2 g (.int .i64 (re:Nat)) (.int .i64 rn) (.slice X rd.length cx) (.slice none 0 0) (.int .i64 0) (.int .i64 0) (.int .i64 0) (.int .i64 0) (.int .u64 0) (.bool false)
 have HN3:=HN2.out.poke hfr HNG.out HGG.out
 unfold DoAns
 rw [HQ.out]
 refine ⟨_,_,rfl,⟨⟨X,cx,rfl,HCX.out,HX.out.mod hfr (fun h0 b hb h9=>?_)⟩,⟨none,0,rfl,Nat.le_refl _,RdS.nil _ _⟩⟩,StS p B1 B2 D,⟨p,_,_,qs,B1,B2,D,rfl,HN3.in_,rfl⟩,HN3.mod,HN3.sub,fun b _ hb hS=>?_⟩
 ·exact HXG.out b hb h9
 ·have h8:=HXB.out b hb
  have:=HN1.out.in_.lt hS
  omega
set_option maxHeartbeats 4000000 in
set_option maxRecDepth 100000 in
theorem do_11 (h:StIn p tv sv qs B1 B2 D s w) (hO:St.Ok s) (o:St.Opn) (hk1:o.kind=11) (A0:Option Addr) (c0:Nat) (h1:o.path.length≤9223372036854775807) (h2:o.dest.length≤9223372036854775807) :
    Calls Tryz.prog 15 #[.pointer (some ⟨p,0,none⟩),opV o (.slice A0 o.data.length c0)] w (DoAns (.pointer (some ⟨p,0,none⟩)) s o (StS p B1 B2 D) w):=by
 have HPA:Hid (∀ W,Calls Tryz.prog 38 #[opV o (.slice A0 o.data.length c0)] W (PAns o W)):=fun W=>paths_any o A0 o.data.length c0 W h1 h2
 have HDO:Hid (St.do_ s o=if (St.paths o).2.2≠0 then (St.no (St.paths o).2.2,s) else (St.list s (St.paths o).1 o.snap,s)):=by
  show _=_
  unfold St.do_
  rw [hk1]
  rw [if_neg (by decide:¬ (11:Int)=1),if_neg (by decide:¬ (11:Int)=2),if_neg (by decide:¬ (11:Int)=3),if_neg (by decide:¬ (11:Int)=4),if_neg (by decide:¬ (11:Int)=5),if_neg (by decide:¬ (11:Int)=6),if_neg (by decide:¬ (11:Int)=7),if_neg (by decide:¬ (11:Int)=8),if_neg (by decide:¬ (11:Int)=9),if_neg (by decide:¬ (11:Int)=10),if_pos rfl]
 obtain ⟨P,hP⟩:∃ P,P=St.paths o:=⟨_,rfl⟩
 have HPP:Hid (∀ e W W',PAns o W e W'→∃ A c A2 c2,e=.returned (.tuple #[.slice A P.1.length c,.slice A2 P.2.1.length c2,.int .i64 (P.2.2:Nat)])∧Way W' A P.1 c∧Way W' A2 P.2.1 c2∧Below W.heap.size W W'):=fun e W W' hh=>by rw [hP];exact hh
 rw [← hP] at HDO
 obtain ⟨p1,p2,pc⟩:=P
 dsimp only at HPP HDO
 clear hP h1 h2
 obtain ⟨kind,path,dest,fd,at_,n,till,snap,data⟩:=o
 dsimp only at hk1 HDO
 subst hk1
 obtain ⟨tp,rfl⟩:=tobj.ptr h.tr
 obtain ⟨sp,rfl⟩:=sobj.ptr h.sn
 obtain ⟨V0,hV0⟩:∃ V0,V0=w.alloc (.cells #[.int .i64 11,.string (strOf path),.string (strOf dest),.int .i64 fd,.int .i64 at_,.int .i64 n,.int .u64 (till:Nat),.int .i64 snap,.slice A0 data.length c0] 36):=⟨_,rfl⟩
 obtain ⟨go,hgo⟩:∃ go,go=w.heap.size:=⟨_,rfl⟩
 have HOP:Hid (Blk V0 go 36 [.int .i64 11,.string (strOf path),.string (strOf dest),.int .i64 fd,.int .i64 at_,.int .i64 n,.int .u64 (till:Nat),.int .i64 snap,.slice A0 data.length c0]):=by show Blk _ _ _ _;rw [hV0,hgo];exact Blk.new w _ _
 have hbv:Below w.heap.size w V0:=by rw [hV0];exact below_new w _
 obtain ⟨W0,hW0⟩:∃ W0,W0=V0.alloc (.cells #[.int .i64 0,.int .i64 0,.slice none 0 0,.slice none 0 0,.int .i64 0,.int .i64 0,.int .i64 0,.int .i64 0,.int .u64 0,.bool false] 33):=⟨_,rfl⟩
 obtain ⟨g,hg⟩:∃ g,g=V0.heap.size:=⟨_,rfl⟩
 have HZ0:Hid (Blk W0 g 33 [.int .i64 0,.int .i64 0,.slice none 0 0,.slice none 0 0,.int .i64 0,.int .i64 0,.int .i64 0,.int .i64 0,.int .u64 0,.bool false]):=by show Blk _ _ _ _;rw [hW0,hg];exact Blk.new V0 _ _
 have hbw:Below V0.heap.size V0 W0:=by rw [hW0];exact below_new V0 _
 have HB0:Hid (Below w.heap.size w W0):=hbv.trans (hbw.mono hbv.size)
 have HOP0:Hid (Blk W0 go 36 [.int .i64 11,.string (strOf path),.string (strOf dest),.int .i64 fd,.int .i64 at_,.int .i64 n,.int .u64 (till:Nat),.int .i64 snap,.slice A0 data.length c0]):=HOP.out.below hbw HOP.out.lt
 have HGG:Hid (w.heap.size≤g):=by show _≤_;rw [hg];exact hbv.size
 have HNG:Hid (¬ StS p B1 B2 D g):=fun h9=>by
  have:=h.lt h9
  have h8:w.heap.size≤g:=HGG.out
  omega
 have HN0:Hid (Nw p (.pointer (some tp)) (.pointer (some sp)) qs w (StS p B1 B2 D) B1 B2 D s W0):=(Nw.start h).later HB0.out
 have HO:=Lib.hid hO
 clear h hO hbv hbw HOP
 have o0:=HOP0.out.cell 0
 have o1:=HOP0.out.cell 1
 have o2:=HOP0.out.cell 2
 have o3:=HOP0.out.cell 3
 have o4:=HOP0.out.cell 4
 have o5:=HOP0.out.cell 5
 have o6:=HOP0.out.cell 6
 have o7:=HOP0.out.cell 7
 have o8:=HOP0.out.cell 8
 go_enter Tryz.func15,Tryz.ntmps15
 go_upto_region 1 with (fail)
 unfold opV
 dsimp only
 rw [← hV0,← hW0,← hgo,show go+1=g by rw [hg,hV0,World.size_alloc,hgo]]
 clear hV0 hgo hW0 hg
 go_wp2_with fail
 refine (HPA.out W0).mono ?_
 intro e w1 hpa
 obtain ⟨A,c,A2,c2,rfl,hw1,hw2,hb1⟩:=HPP.out _ _ _ hpa
 have HZ1:Hid (Blk w1 g 33 [.int .i64 0,.int .i64 0,.slice none 0 0,.slice none 0 0,.int .i64 0,.int .i64 0,.int .i64 0,.int .i64 0,.int .u64 0,.bool false]):=HZ0.out.below hb1 HZ0.out.lt
 have HN1:Hid (Nw p (.pointer (some tp)) (.pointer (some sp)) qs w (StS p B1 B2 D) B1 B2 D s w1):=HN0.out.later hb1
 have HB1:Hid (Below w.heap.size w w1):=HB0.out.trans (hb1.mono HB0.out.size)
 have HOP1:Hid (Blk w1 go 36 [.int .i64 11,.string (strOf path),.string (strOf dest),.int .i64 fd,.int .i64 at_,.int .i64 n,.int .u64 (till:Nat),.int .i64 snap,.slice A0 data.length c0]):=HOP0.out.below hb1 HOP0.out.lt
 have HW1:=Lib.hid hw1
 have HW2:=Lib.hid hw2
 clear hpa hw1 hw2 hb1 HPA HPP HZ0 HN0 HOP0 HB0 o0 o1 o2 o3 o4 o5 o6 o7 o8
 have o0:=HOP1.out.cell 0
 by_cases hc:pc=0
 rotate_left
 ·have hci:((pc:Int)==0)=false:=by rw [beq_eq_false_iff_ne];omega
  have HQ:Hid (St.do_ s ⟨11,path,dest,fd,at_,n,till,snap,data⟩=(St.no pc,s)):=by show _=_;rw [HDO.out,if_pos hc]
  clear hc HDO
  obtain⟨g0,e0,g1,e1,g2,e2,g3,e3,g4,e4,g5,e5,g6,e6,g7,e7,g8,e8,g9,e9⟩:=cells10 HZ1.out
  go_wp2_with fail
  refine bodyPost_ret (results_blk rfl _ _ g 33 (repL (pc:Nat) 0) _ rfl (set10_blk HZ1.out _ _ _ _ _ _ _ _ _ _) rfl rfl rfl) rfl ?_
  refine DoAns.of_turns (by rw [HQ.out];exact plain_no _) ?_
  rw [HQ.out]
  exact (HN1.out.poke (set10_mod _ _ _ _ _ _ _ _ _ _ _ _) HNG.out HGG.out).done _
 subst hc
 have HQ:Hid (St.do_ s ⟨11,path,dest,fd,at_,n,till,snap,data⟩=(St.list s p1 snap,s)):=HDO.out
 clear HDO
 have o7:=HOP1.out.cell 7
 have HM:=Lib.hid (list_in HN1.out.in_ HO.out HW1.out snap)
 obtain ⟨r,hr⟩:∃ r,r=(St.list s p1 snap):=⟨_,rfl⟩
 rw [← hr] at HM HQ
 have HPU:Hid (r.data=[]∧r.node=Nd.zero):=by
  show r.data=[]∧r.node=Nd.zero
  rw [hr]
  unfold St.list;repeat' split
  all_goals exact ⟨rfl,rfl⟩
 clear hr
 obtain ⟨re,rn,rd,rs,rnd⟩:=r
 dsimp only at HM HPU
 obtain ⟨rfl,rfl⟩:rd=[]∧rnd=Nd.zero:=HPU.out
 go_wp2_with fail
 refine HM.out.mono ?_
 rintro e w2 ⟨x,rfl,hown,hb⟩
 obtain ⟨X,cx,rfl,hcx,hrx,_⟩:=Tm.SOwn.form hown
 have HX:Hid (RdS w2 X rs):=hrx
 have HCX:=Lib.hid hcx
 have HXG:Hid (∀ b,X.map (·.block)=some b→b=g→False):=own_apart hown (HZ1.out.below hb HZ1.out.lt) (by decide)
 clear hown hrx hcx
 have HB2:Hid (Below w1.heap.size w1 w2):=hb
 have HZ2:Hid (Blk w2 g 33 [.int .i64 0,.int .i64 0,.slice none 0 0,.slice none 0 0,.int .i64 0,.int .i64 0,.int .i64 0,.int .i64 0,.int .u64 0,.bool false]):=HZ1.out.below hb HZ1.out.lt
 have HN2:Hid (Nw p (.pointer (some tp)) (.pointer (some sp)) qs w (StS p B1 B2 D) B1 B2 D s w2):=HN1.out.later hb
 unfold repS
 clear hb HM o0 o7
 obtain⟨g0,e0,g1,e1,g2,e2,g3,e3,g4,e4,g5,e5,g6,e6,g7,e7,g8,e8,g9,e9⟩:=cells10 HZ2.out
 go_wp2_with fail
 refine bodyPost_ret (results_blk rfl _ _ g 33 [.int .i64 (re:Nat),.int .i64 rn,.slice none 0 0,.slice X rs.length cx,.int .i64 0,.int .i64 0,.int .i64 0,.int .i64 0,.int .u64 0,.bool false] _ rfl (set10_blk HZ2.out _ _ _ _ _ _ _ _ _ _) rfl rfl rfl) rfl ?_
 have hfr:=set10_mod w2 g (.int .i64 (re:Nat)) (.int .i64 rn) (.slice none 0 0) (.slice X rs.length cx) (.int .i64 0) (.int .i64 0) (.int .i64 0) (.int .i64 0) (.int .u64 0) (.bool false)
 have HN3:=HN2.out.poke hfr HNG.out HGG.out
 unfold DoAns
 rw [HQ.out]
 refine ⟨_,_,rfl,⟨⟨none,0,rfl,Nat.le_refl _,Rd.nil _ _⟩,⟨X,cx,rfl,HCX.out,rds_mod HX.out hfr (fun h0 b hb h9=>?_)⟩⟩,StS p B1 B2 D,⟨p,_,_,qs,B1,B2,D,rfl,HN3.in_,rfl⟩,HN3.mod,HN3.sub,fun _ h=>absurd h (by simp)⟩
 exact HXG.out b hb h9
set_option maxHeartbeats 4000000 in
set_option maxRecDepth 100000 in
theorem do_12 (h:StIn p tv sv qs B1 B2 D s w) (hO:St.Ok s) (o:St.Opn) (hk1:o.kind=12) (A0:Option Addr) (c0:Nat) (h1:o.path.length≤9223372036854775807) (h2:o.dest.length≤9223372036854775807) :
    Calls Tryz.prog 15 #[.pointer (some ⟨p,0,none⟩),opV o (.slice A0 o.data.length c0)] w (DoAns (.pointer (some ⟨p,0,none⟩)) s o (StS p B1 B2 D) w):=by
 have HPA:Hid (∀ W,Calls Tryz.prog 38 #[opV o (.slice A0 o.data.length c0)] W (PAns o W)):=fun W=>paths_any o A0 o.data.length c0 W h1 h2
 have HDO:Hid (St.do_ s o=if (St.paths o).2.2≠0 then (St.no (St.paths o).2.2,s) else (St.stat s (St.paths o).1 o.snap,s)):=by
  show _=_
  unfold St.do_
  rw [hk1]
  rw [if_neg (by decide:¬ (12:Int)=1),if_neg (by decide:¬ (12:Int)=2),if_neg (by decide:¬ (12:Int)=3),if_neg (by decide:¬ (12:Int)=4),if_neg (by decide:¬ (12:Int)=5),if_neg (by decide:¬ (12:Int)=6),if_neg (by decide:¬ (12:Int)=7),if_neg (by decide:¬ (12:Int)=8),if_neg (by decide:¬ (12:Int)=9),if_neg (by decide:¬ (12:Int)=10),if_neg (by decide:¬ (12:Int)=11),if_pos rfl]
 obtain ⟨P,hP⟩:∃ P,P=St.paths o:=⟨_,rfl⟩
 have HPP:Hid (∀ e W W',PAns o W e W'→∃ A c A2 c2,e=.returned (.tuple #[.slice A P.1.length c,.slice A2 P.2.1.length c2,.int .i64 (P.2.2:Nat)])∧Way W' A P.1 c∧Way W' A2 P.2.1 c2∧Below W.heap.size W W'):=fun e W W' hh=>by rw [hP];exact hh
 rw [← hP] at HDO
 obtain ⟨p1,p2,pc⟩:=P
 dsimp only at HPP HDO
 clear hP h1 h2
 obtain ⟨kind,path,dest,fd,at_,n,till,snap,data⟩:=o
 dsimp only at hk1 HDO
 subst hk1
 obtain ⟨tp,rfl⟩:=tobj.ptr h.tr
 obtain ⟨sp,rfl⟩:=sobj.ptr h.sn
 obtain ⟨V0,hV0⟩:∃ V0,V0=w.alloc (.cells #[.int .i64 12,.string (strOf path),.string (strOf dest),.int .i64 fd,.int .i64 at_,.int .i64 n,.int .u64 (till:Nat),.int .i64 snap,.slice A0 data.length c0] 36):=⟨_,rfl⟩
 obtain ⟨go,hgo⟩:∃ go,go=w.heap.size:=⟨_,rfl⟩
 have HOP:Hid (Blk V0 go 36 [.int .i64 12,.string (strOf path),.string (strOf dest),.int .i64 fd,.int .i64 at_,.int .i64 n,.int .u64 (till:Nat),.int .i64 snap,.slice A0 data.length c0]):=by show Blk _ _ _ _;rw [hV0,hgo];exact Blk.new w _ _
 have hbv:Below w.heap.size w V0:=by rw [hV0];exact below_new w _
 obtain ⟨W0,hW0⟩:∃ W0,W0=V0.alloc (.cells #[.int .i64 0,.int .i64 0,.slice none 0 0,.slice none 0 0,.int .i64 0,.int .i64 0,.int .i64 0,.int .i64 0,.int .u64 0,.bool false] 33):=⟨_,rfl⟩
 obtain ⟨g,hg⟩:∃ g,g=V0.heap.size:=⟨_,rfl⟩
 have HZ0:Hid (Blk W0 g 33 [.int .i64 0,.int .i64 0,.slice none 0 0,.slice none 0 0,.int .i64 0,.int .i64 0,.int .i64 0,.int .i64 0,.int .u64 0,.bool false]):=by show Blk _ _ _ _;rw [hW0,hg];exact Blk.new V0 _ _
 have hbw:Below V0.heap.size V0 W0:=by rw [hW0];exact below_new V0 _
 have HB0:Hid (Below w.heap.size w W0):=hbv.trans (hbw.mono hbv.size)
 have HOP0:Hid (Blk W0 go 36 [.int .i64 12,.string (strOf path),.string (strOf dest),.int .i64 fd,.int .i64 at_,.int .i64 n,.int .u64 (till:Nat),.int .i64 snap,.slice A0 data.length c0]):=HOP.out.below hbw HOP.out.lt
 have HGG:Hid (w.heap.size≤g):=by show _≤_;rw [hg];exact hbv.size
 have HNG:Hid (¬ StS p B1 B2 D g):=fun h9=>by
  have:=h.lt h9
  have h8:w.heap.size≤g:=HGG.out
  omega
 have HN0:Hid (Nw p (.pointer (some tp)) (.pointer (some sp)) qs w (StS p B1 B2 D) B1 B2 D s W0):=(Nw.start h).later HB0.out
 have HO:=Lib.hid hO
 clear h hO hbv hbw HOP
 have o0:=HOP0.out.cell 0
 have o1:=HOP0.out.cell 1
 have o2:=HOP0.out.cell 2
 have o3:=HOP0.out.cell 3
 have o4:=HOP0.out.cell 4
 have o5:=HOP0.out.cell 5
 have o6:=HOP0.out.cell 6
 have o7:=HOP0.out.cell 7
 have o8:=HOP0.out.cell 8
 go_enter Tryz.func15,Tryz.ntmps15
 go_upto_region 1 with (fail)
 unfold opV
 dsimp only
 rw [← hV0,← hW0,← hgo,show go+1=g by rw [hg,hV0,World.size_alloc,hgo]]
 clear hV0 hgo hW0 hg
 go_wp2_with fail
 refine (HPA.out W0).mono ?_
 intro e w1 hpa
 obtain ⟨A,c,A2,c2,rfl,hw1,hw2,hb1⟩:=HPP.out _ _ _ hpa
 have HZ1:Hid (Blk w1 g 33 [.int .i64 0,.int .i64 0,.slice none 0 0,.slice none 0 0,.int .i64 0,.int .i64 0,.int .i64 0,.int .i64 0,.int .u64 0,.bool false]):=HZ0.out.below hb1 HZ0.out.lt
 have HN1:Hid (Nw p (.pointer (some tp)) (.pointer (some sp)) qs w (StS p B1 B2 D) B1 B2 D s w1):=HN0.out.later hb1
 have HB1:Hid (Below w.heap.size w w1):=HB0.out.trans (hb1.mono HB0.out.size)
 have HOP1:Hid (Blk w1 go 36 [.int .i64 12,.string (strOf path),.string (strOf dest),.int .i64 fd,.int .i64 at_,.int .i64 n,.int .u64 (till:Nat),.int .i64 snap,.slice A0 data.length c0]):=HOP0.out.below hb1 HOP0.out.lt
 have HW1:=Lib.hid hw1
 have HW2:=Lib.hid hw2
 clear hpa hw1 hw2 hb1 HPA HPP HZ0 HN0 HOP0 HB0 o0 o1 o2 o3 o4 o5 o6 o7 o8
 have o0:=HOP1.out.cell 0
 by_cases hc:pc=0
 rotate_left
 ·have hci:((pc:Int)==0)=false:=by rw [beq_eq_false_iff_ne];omega
  have HQ:Hid (St.do_ s ⟨12,path,dest,fd,at_,n,till,snap,data⟩=(St.no pc,s)):=by show _=_;rw [HDO.out,if_pos hc]
  clear hc HDO
  obtain⟨g0,e0,g1,e1,g2,e2,g3,e3,g4,e4,g5,e5,g6,e6,g7,e7,g8,e8,g9,e9⟩:=cells10 HZ1.out
  go_wp2_with fail
  refine bodyPost_ret (results_blk rfl _ _ g 33 (repL (pc:Nat) 0) _ rfl (set10_blk HZ1.out _ _ _ _ _ _ _ _ _ _) rfl rfl rfl) rfl ?_
  refine DoAns.of_turns (by rw [HQ.out];exact plain_no _) ?_
  rw [HQ.out]
  exact (HN1.out.poke (set10_mod _ _ _ _ _ _ _ _ _ _ _ _) HNG.out HGG.out).done _
 subst hc
 have HQ:Hid (St.do_ s ⟨12,path,dest,fd,at_,n,till,snap,data⟩=(St.stat s p1 snap,s)):=HDO.out
 clear HDO
 have o7:=HOP1.out.cell 7
 have HM:=Lib.hid (stat_in HN1.out.in_ HO.out HW1.out snap)
 obtain ⟨r,hr⟩:∃ r,r=(St.stat s p1 snap):=⟨_,rfl⟩
 rw [← hr] at HM HQ
 have HPU:Hid (r.data=[]∧r.names=[]∧r.n=0):=by
  show r.data=[]∧r.names=[]∧r.n=0
  rw [hr]
  unfold St.stat;repeat' split
  all_goals exact ⟨rfl,rfl,rfl⟩
 clear hr
 obtain ⟨re,rn,rd,rs,rnd⟩:=r
 dsimp only at HM HPU
 obtain ⟨rfl,rfl,rfl⟩:rd=[]∧rs=[]∧rn=0:=HPU.out
 obtain ⟨n1,n2,n3,n4,n5,n6⟩:=rnd
 go_wp2_with fail
 refine HM.out.mono ?_
 rintro e w2 ⟨rfl,hb⟩
 have HB2:Hid (Below w1.heap.size w1 w2):=hb
 have HZ2:Hid (Blk w2 g 33 [.int .i64 0,.int .i64 0,.slice none 0 0,.slice none 0 0,.int .i64 0,.int .i64 0,.int .i64 0,.int .i64 0,.int .u64 0,.bool false]):=HZ1.out.below hb HZ1.out.lt
 have HN2:Hid (Nw p (.pointer (some tp)) (.pointer (some sp)) qs w (StS p B1 B2 D) B1 B2 D s w2):=HN1.out.later hb
 unfold repN
 clear hb HM o0 o7
 obtain⟨g0,e0,g1,e1,g2,e2,g3,e3,g4,e4,g5,e5,g6,e6,g7,e7,g8,e8,g9,e9⟩:=cells10 HZ2.out
 go_wp2_with fail
 refine bodyPost_ret (results_blk rfl _ _ g 33 [.int .i64 (re:Nat),.int .i64 0,.slice none 0 0,.slice none 0 0,.int .i64 n1,.int .i64 n2,.int .i64 n3,.int .i64 n4,.int .u64 (n5:Nat),.bool n6] _ rfl (set10_blk HZ2.out _ _ _ _ _ _ _ _ _ _) rfl rfl rfl) rfl ?_
 have hfr:=set10_mod w2 g (.int .i64 (re:Nat)) (.int .i64 0) (.slice none 0 0) (.slice none 0 0) (.int .i64 n1) (.int .i64 n2) (.int .i64 n3) (.int .i64 n4) (.int .u64 (n5:Nat)) (.bool n6)
 have HN3:=HN2.out.poke hfr HNG.out HGG.out
 unfold DoAns
 rw [HQ.out]
 refine ⟨_,_,rfl,⟨⟨none,0,rfl,Nat.le_refl _,Rd.nil _ _⟩,⟨none,0,rfl,Nat.le_refl _,RdS.nil _ _⟩⟩,StS p B1 B2 D,⟨p,_,_,qs,B1,B2,D,rfl,HN3.in_,rfl⟩,HN3.mod,HN3.sub,fun _ h=>absurd h (by simp)⟩
end Sm
end Go.Proofs.YtbnpgakmhhfjkaaGreatDoor
namespace Go.Proofs.YtbnpgakmhhfjkaaGreatDoor
open Go.RowKit
namespace Ck
def nextOf (now tick:Int):Int:=if tick≤1099511627776 then (if tick > now then tick else now) else now
theorem right_any (w:World) (t:Int):Calls Tryz.prog 78 #[.int .u64 t] w fun e w'=>e=.returned (.bool (decide (t≤1099511627776)))∧w'=w:=by
 go_enter Tryz.func78,Tryz.ntmps78
 go_wp2
 go_ret
 exact ⟨rfl,rfl⟩
theorem next_any (w:World) (now tick:Int):Calls Tryz.prog 53 #[.int .u64 now,.int .u64 tick] w fun e w'=>e=.returned (.int .u64 (nextOf now tick))∧w'=w:=by
 go_enter Tryz.func53,Tryz.ntmps53
 go_wp2_with fail
 refine (right_any w tick).mono ?_
 rintro e _ ⟨rfl,rfl⟩
 by_cases h:tick≤1099511627776
 ·have e:nextOf now tick=if tick > now then tick else now:=if_pos h
  have E:=Lib.hid e
  rw [decide_eq_true h]
  clear h e
  by_cases h2:now<tick
  ·have hm:max now tick=tick:=by omega
   go_wp2_with fail
   go_ret
   exact ⟨by rw [E.out,if_pos h2];first|rfl|(simp [hm]),rfl⟩
  ·have hm:max now tick=now:=by omega
   go_wp2_with fail
   go_ret
   exact ⟨by rw [E.out,if_neg (by omega)];first|rfl|(simp [hm]),rfl⟩
 ·have e:nextOf now tick=now:=if_neg h
  have E:=Lib.hid e
  rw [decide_eq_false h]
  clear h e
  go_wp2_with fail
  go_ret
  exact ⟨by rw [E.out];rfl,rfl⟩
end Ck
end Go.Proofs.YtbnpgakmhhfjkaaGreatDoor
