/-
  OWN WORK. StWrite, StRead, StList, StStat, StDoB
-/
import Derived.Test.YtbnpgakmhhfjkaaGreatDoorO15
import Derived.Test.YtbnpgakmhhfjkaaGreatDoorO16
namespace Go.Proofs.YtbnpgakmhhfjkaaGreatDoor
open Go.RowKit Rc
open Tr (Nm En T)
open Tm (tobj)
open Sn (sobj)
open St (alone)
namespace Sm
variable {p:Nat} {tv sv:Value} {qs:List Value} {B1 B2 D:Nat→Prop} {s:St.State} {w w':World}
set_option maxHeartbeats 4000000 in
set_option maxRecDepth 100000 in
theorem write_in (h:StIn p tv sv qs B1 B2 D s w) (hO:St.Ok s) (k:Int) (A:Option Addr) (b:Bs) (cap:Nat) (hr:Rd w A b) (hl:b.length≤1000000) :
    Calls Tryz.prog 42 #[.pointer (some ⟨p,0,none⟩),.int .i64 k,.slice A b.length cap] w (Ob.Turns stobj (.pointer (some ⟨p,0,none⟩)) (St.writeFile s k b).2 (rep0 ((St.writeFile s k b).1.err:Nat) (St.writeFile s k b).1.n) (StS p B1 B2 D) w):=by
 obtain ⟨tp,rfl⟩:=tobj.ptr h.tr
 obtain ⟨W0,hW0⟩:∃ W0,W0=w.alloc (.cells #[.int .i64 0,.int .i64 0,.slice none 0 0,.slice none 0 0,.int .i64 0,.int .i64 0,.int .i64 0,.int .i64 0,.int .u64 0,.bool false] 33):=⟨_,rfl⟩
 obtain ⟨g,hg⟩:∃ g,g=w.heap.size:=⟨_,rfl⟩
 have HZ0:Hid (Blk W0 g 33 [.int .i64 0,.int .i64 0,.slice none 0 0,.slice none 0 0,.int .i64 0,.int .i64 0,.int .i64 0,.int .i64 0,.int .u64 0,.bool false]):=by show Blk _ _ _ _;rw [hW0,hg];exact Blk.new w _ _
 have HB0:Hid (Below w.heap.size w W0):=by show Below _ _ _;rw [hW0];exact below_new w _
 have HGG:Hid (g=w.heap.size):=hg
 have HNG:Hid (¬ StS p B1 B2 D g):=fun h9=>by
  have:=h.lt h9
  omega
 have HN0:Hid (Nw p (.pointer (some tp)) sv qs w (StS p B1 B2 D) B1 B2 D s W0):=(Nw.start h).later HB0.out
 have HUS:=Lib.hid (used_any HN0.out.in_ hO.fds k)
 have HR:=Lib.hid hr
 have HO:=Lib.hid hO
 have HWF:Hid (St.writeFile s k b=match St.used s k with
  | some (.w i)=>if 600<b.length then (St.no 3,s) else if (Tr.append s.tree i b).1≠0 then (St.no (Tr.append s.tree i b).1,{ s with tree:=(Tr.append s.tree i b).2 }) else (St.num b.length,{ s with tree:=(Tr.append s.tree i b).2 })
  | _=>(St.no 26,s)):=rfl
 have HLB:Hid (b.length≤1000000):=hl
 obtain ⟨bl,hbl⟩:∃ bl,bl=b.length:=⟨_,rfl⟩
 have HBL:Hid (b.length=bl):=hbl.symm
 have HAP:Hid (∀ W i B t v,tobj.At v t B W→Tr.Good t→Rd W A b→Calls Tryz.prog 99 #[v,.int .i64 i,.slice A bl cap] W (Ob.Turns tobj v (Tr.append t i b).2 (.int .i64 ((Tr.append t i b).1:Nat)) B W)):=fun W i B t v h1 h2 h3=>by
  rw [hbl]
  exact t_append h1 h2 i A b cap h3 (Nat.le_trans hl (by decide))
 rw [← hbl]
 clear h hO hr hl hbl
 go_enter Tryz.func42,Tryz.ntmps42
 go_upto_region 1 with (fail)
 rw [← hW0,← hg]
 clear hW0 hg
 go_wp2_with fail
 refine HUS.out.mono ?_
 rintro e w1 ⟨hb1,hcase⟩
 have HN1:Hid (Nw p (.pointer (some tp)) sv qs w (StS p B1 B2 D) B1 B2 D s w1):=HN0.out.later hb1
 have HZ1:Hid (Blk w1 g 33 [.int .i64 0,.int .i64 0,.slice none 0 0,.slice none 0 0,.int .i64 0,.int .i64 0,.int .i64 0,.int .i64 0,.int .u64 0,.bool false]):=HZ0.out.below hb1 HZ0.out.lt
 have HB1:Hid (Below w.heap.size w w1):=HB0.out.trans (hb1.mono HB0.out.size)
 clear hb1 HUS HN0 HZ0
 rcases hcase with ⟨hu,rfl⟩|⟨i,hu,rfl⟩|⟨d,qq,Bk,hu,rfl,_,_⟩
 ·have HQ:Hid (St.writeFile s k b=(St.no 26,s)):=by show _=_;rw [HWF.out,hu]
  clear hu HWF
  obtain ⟨W2,hW2⟩:∃ W2,W2=w1.alloc (.cells #[.pointer none,.int .i64 0,.bool false] 71):=⟨_,rfl⟩
  obtain ⟨g2,hg2⟩:∃ g2,g2=w1.heap.size:=⟨_,rfl⟩
  have HD2:Hid (Blk W2 g2 71 [.pointer none,.int .i64 0,.bool false]):=by show Blk _ _ _ _;rw [hW2,hg2];exact Blk.new w1 _ _
  have hbn:Below w1.heap.size w1 W2:=by rw [hW2];exact below_new w1 _
  have HN2:Hid (Nw p (.pointer (some tp)) sv qs w (StS p B1 B2 D) B1 B2 D s W2):=HN1.out.later hbn
  have HZ2:Hid (Blk W2 g 33 [.int .i64 0,.int .i64 0,.slice none 0 0,.slice none 0 0,.int .i64 0,.int .i64 0,.int .i64 0,.int .i64 0,.int .u64 0,.bool false]):=HZ1.out.below hbn HZ1.out.lt
  have HB2:Hid (Below w.heap.size w W2):=HB1.out.trans (hbn.mono HB1.out.size)
  clear hbn
  go_upto_region 2 with (fail)
  rw [← hW2,← hg2]
  clear hW2 hg2
  obtain⟨g0,e0,g1,e1,g2,e2,g3,e3,g4,e4,g5,e5,g6,e6,g7,e7,g8,e8,g9,e9⟩:=cells10 HZ2.out
  go_wp2_with fail
  refine bodyPost_ret (results_blk rfl _ _ g 33 (repL 26 0) _ rfl (set10_blk HZ2.out _ _ _ _ _ _ _ _ _ _) rfl rfl rfl) rfl ?_
  rw [HQ.out]
  exact (HN2.out.poke (set10_mod _ _ _ _ _ _ _ _ _ _ _ _) HNG.out (Nat.le_of_eq HGG.out.symm)).done _
 ·have HWF2:Hid (St.writeFile s k b=if 600<b.length then (St.no 3,s) else if (Tr.append s.tree i b).1≠0 then (St.no (Tr.append s.tree i b).1,{ s with tree:=(Tr.append s.tree i b).2 }) else (St.num b.length,{ s with tree:=(Tr.append s.tree i b).2 })):=by show _=_;rw [HWF.out,hu]
  clear hu HWF
  obtain ⟨W2,hW2⟩:∃ W2,W2=w1.alloc (.cells #[.pointer (some tp),.int .i64 i,.bool true] 71):=⟨_,rfl⟩
  obtain ⟨g2,hg2⟩:∃ g2,g2=w1.heap.size:=⟨_,rfl⟩
  have HD2:Hid (Blk W2 g2 71 [.pointer (some tp),.int .i64 i,.bool true]):=by show Blk _ _ _ _;rw [hW2,hg2];exact Blk.new w1 _ _
  have hbn:Below w1.heap.size w1 W2:=by rw [hW2];exact below_new w1 _
  have HN2:Hid (Nw p (.pointer (some tp)) sv qs w (StS p B1 B2 D) B1 B2 D s W2):=HN1.out.later hbn
  have HZ2:Hid (Blk W2 g 33 [.int .i64 0,.int .i64 0,.slice none 0 0,.slice none 0 0,.int .i64 0,.int .i64 0,.int .i64 0,.int .i64 0,.int .u64 0,.bool false]):=HZ1.out.below hbn HZ1.out.lt
  have HB2:Hid (Below w.heap.size w W2):=HB1.out.trans (hbn.mono HB1.out.size)
  clear hbn
  go_upto_region 2 with (fail)
  rw [← hW2,← hg2]
  clear hW2 hg2
  have d0:=HD2.out.cell 0
  have d1:=HD2.out.cell 1
  have d2:=HD2.out.cell 2
  by_cases hlong:600<bl
  ·have HQ:Hid (St.writeFile s k b=(St.no 3,s)):=by show _=_;rw [HWF2.out,if_pos (by rw [HBL.out];exact hlong)]
   have hlong2:(600:Int)<(bl:Int):=by omega
   clear HWF2
   obtain⟨g0,e0,g1,e1,g2,e2,g3,e3,g4,e4,g5,e5,g6,e6,g7,e7,g8,e8,g9,e9⟩:=cells10 HZ2.out
   go_wp2_with fail
   refine bodyPost_ret (results_blk rfl _ _ g 33 (repL 3 0) _ rfl (set10_blk HZ2.out _ _ _ _ _ _ _ _ _ _) rfl rfl rfl) rfl ?_
   rw [HQ.out]
   exact (HN2.out.poke (set10_mod _ _ _ _ _ _ _ _ _ _ _ _) HNG.out (Nat.le_of_eq HGG.out.symm)).done _
  ·have hlong2:¬ (600:Int)<(bl:Int):=by omega
   obtain ⟨ac,hac⟩:∃ ac,ac=(Tr.append s.tree i b).1:=⟨_,rfl⟩
   have HWF3:Hid (St.writeFile s k b=if ac≠0 then (St.no ac,{ s with tree:=(Tr.append s.tree i b).2 }) else (St.num b.length,{ s with tree:=(Tr.append s.tree i b).2 })):=by show _=_;rw [HWF2.out,if_neg (by rw [HBL.out];exact hlong),hac]
   have HM:=Lib.hid (HAP.out W2 i B1 s.tree (.pointer (some tp)) HN2.out.in_.tr HO.out.tree (HR.out.below HB2.out))
   rw [← hac] at HM
   clear HWF2 hac hlong
   go_wp2_with fail
   refine HM.out.mono ?_
   intro e w3 ht
   have hmod:Mod W2 w3 B1:=by obtain ⟨_,_,_,h2,_⟩:=ht;exact h2
   obtain ⟨rfl,B1',hn3,hgr⟩:=HN2.out.turnT ht
   have HN3:=Lib.hid hn3
   have hngB:¬ B1 g:=fun h9=>HNG.out (.inr (.inl h9))
   have HZ3:Hid (Blk w3 g 33 [.int .i64 0,.int .i64 0,.slice none 0 0,.slice none 0 0,.int .i64 0,.int .i64 0,.int .i64 0,.int .i64 0,.int .u64 0,.bool false]):=(hmod.block g HZ2.out.lt hngB).trans HZ2.out
   have HNG3:Hid (¬ StS p B1' B2 D g):=fun h9=>by
    rcases hgr g h9 with h4|h4
    ·exact HNG.out h4
    ·have:=HZ2.out.lt
     omega
   clear ht hmod hn3 hgr hngB HM d0 d1 d2
   by_cases hc:ac=0
   ·subst hc
    have HQ:Hid (St.writeFile s k b=(St.num (bl:Nat),{ s with tree:=(Tr.append s.tree i b).2 })):=by show _=_;rw [← HBL.out];exact HWF3.out
    obtain⟨g0,e0,g1,e1,g2,e2,g3,e3,g4,e4,g5,e5,g6,e6,g7,e7,g8,e8,g9,e9⟩:=cells10 HZ3.out
    go_wp2_with fail
    refine bodyPost_ret (results_blk rfl _ _ g 33 (repL 0 (bl:Nat)) _ rfl (set10_blk HZ3.out _ _ _ _ _ _ _ _ _ _) rfl rfl rfl) rfl ?_
    rw [HQ.out]
    exact (HN3.out.poke (set10_mod _ _ _ _ _ _ _ _ _ _ _ _) HNG3.out (Nat.le_of_eq HGG.out.symm)).done _
   ·have hci:((ac:Int)==0)=false:=by rw [beq_eq_false_iff_ne];omega
    have HQ:Hid (St.writeFile s k b=(St.no ac,{ s with tree:=(Tr.append s.tree i b).2 })):=by show _=_;rw [HWF3.out,if_pos hc]
    clear hc
    obtain⟨g0,e0,g1,e1,g2,e2,g3,e3,g4,e4,g5,e5,g6,e6,g7,e7,g8,e8,g9,e9⟩:=cells10 HZ3.out
    go_wp2_with fail
    refine bodyPost_ret (results_blk rfl _ _ g 33 (repL (ac:Nat) 0) _ rfl (set10_blk HZ3.out _ _ _ _ _ _ _ _ _ _) rfl rfl rfl) rfl ?_
    rw [HQ.out]
    exact (HN3.out.poke (set10_mod _ _ _ _ _ _ _ _ _ _ _ _) HNG3.out (Nat.le_of_eq HGG.out.symm)).done _
 ·have HQ:Hid (St.writeFile s k b=(St.no 26,s)):=by show _=_;rw [HWF.out,hu]
  clear hu HWF
  obtain ⟨W2,hW2⟩:∃ W2,W2=w1.alloc (.cells #[.pointer (some qq),.int .i64 1,.bool false] 71):=⟨_,rfl⟩
  obtain ⟨g2,hg2⟩:∃ g2,g2=w1.heap.size:=⟨_,rfl⟩
  have HD2:Hid (Blk W2 g2 71 [.pointer (some qq),.int .i64 1,.bool false]):=by show Blk _ _ _ _;rw [hW2,hg2];exact Blk.new w1 _ _
  have hbn:Below w1.heap.size w1 W2:=by rw [hW2];exact below_new w1 _
  have HN2:Hid (Nw p (.pointer (some tp)) sv qs w (StS p B1 B2 D) B1 B2 D s W2):=HN1.out.later hbn
  have HZ2:Hid (Blk W2 g 33 [.int .i64 0,.int .i64 0,.slice none 0 0,.slice none 0 0,.int .i64 0,.int .i64 0,.int .i64 0,.int .i64 0,.int .u64 0,.bool false]):=HZ1.out.below hbn HZ1.out.lt
  have HB2:Hid (Below w.heap.size w W2):=HB1.out.trans (hbn.mono HB1.out.size)
  clear hbn
  go_upto_region 2 with (fail)
  rw [← hW2,← hg2]
  clear hW2 hg2
  have d0:=HD2.out.cell 0
  have d1:=HD2.out.cell 1
  have d2:=HD2.out.cell 2
  obtain⟨g0,e0,g1,e1,g2,e2,g3,e3,g4,e4,g5,e5,g6,e6,g7,e7,g8,e8,g9,e9⟩:=cells10 HZ2.out
  go_wp2_with fail
  refine bodyPost_ret (results_blk rfl _ _ g 33 (repL 26 0) _ rfl (set10_blk HZ2.out _ _ _ _ _ _ _ _ _ _) rfl rfl rfl) rfl ?_
  rw [HQ.out]
  exact (HN2.out.poke (set10_mod _ _ _ _ _ _ _ _ _ _ _ _) HNG.out (Nat.le_of_eq HGG.out.symm)).done _
end Sm
end Go.Proofs.YtbnpgakmhhfjkaaGreatDoor
namespace Go.Proofs.YtbnpgakmhhfjkaaGreatDoor
open Go.RowKit Rc
open Tr (Nm En T)
open Tm (tobj)
open Sn (sobj)
open St (alone)
namespace Sm
def repD (e n:Int) (x:Value):Value:=.agg #[.int .i64 e,.int .i64 n,x,.slice none 0 0,.int .i64 0,.int .i64 0,.int .i64 0,.int .i64 0,.int .u64 0,.bool false]
variable {p:Nat} {tv sv:Value} {qs:List Value} {B1 B2 D:Nat→Prop} {s:St.State} {w w':World}
set_option maxHeartbeats 4000000 in
set_option maxRecDepth 100000 in
theorem read_in (h:StIn p tv sv qs B1 B2 D s w) (hO:St.Ok s) (k a n:Int) (ha:-9223372036854775808≤a∧a≤9223372036854775807) (hn:-9223372036854775808≤n∧n≤9223372036854775807) :
    Calls Tryz.prog 41 #[.pointer (some ⟨p,0,none⟩),.int .i64 k,.int .i64 a,.int .i64 n] w fun e w'=>∃ x,e=.returned (repD ((St.readFile s k a n).err:Nat) (St.readFile s k a n).n x)∧w'.ownsRow w.heap.size 5 1 x (St.readFile s k a n).data.length (Lib.byteCells (St.readFile s k a n).data)∧Below w.heap.size w w':=by
 obtain ⟨W0,hW0⟩:∃ W0,W0=w.alloc (.cells #[.int .i64 0,.int .i64 0,.slice none 0 0,.slice none 0 0,.int .i64 0,.int .i64 0,.int .i64 0,.int .i64 0,.int .u64 0,.bool false] 33):=⟨_,rfl⟩
 obtain ⟨g,hg⟩:∃ g,g=w.heap.size:=⟨_,rfl⟩
 have HZ0:Hid (Blk W0 g 33 [.int .i64 0,.int .i64 0,.slice none 0 0,.slice none 0 0,.int .i64 0,.int .i64 0,.int .i64 0,.int .i64 0,.int .u64 0,.bool false]):=by show Blk _ _ _ _;rw [hW0,hg];exact Blk.new w _ _
 have HB0:Hid (Below w.heap.size w W0):=by show Below _ _ _;rw [hW0];exact below_new w _
 have HGG:Hid (g=w.heap.size):=hg
 obtain ⟨tp,rfl⟩:=tobj.ptr h.tr
 have HUS:=Lib.hid (used_any (h.below HB0.out) hO.fds k)
 have HAN:Hid ((-9223372036854775808≤a∧a≤9223372036854775807)∧(-9223372036854775808≤n∧n≤9223372036854775807)):=⟨ha,hn⟩
 have HRF:Hid (St.readFile s k a n=match St.used s k with
  | some (.r b)=>⟨(Tr.read (alone b) 1 a n).2,(Tr.read (alone b) 1 a n).1.length,(Tr.read (alone b) 1 a n).1,[],Nd.zero⟩
  | _=>St.no 26):=rfl
 clear h hO ha hn
 go_enter Tryz.func41,Tryz.ntmps41
 go_upto_region 1 with (fail)
 rw [← hW0,← hg]
 clear hW0 hg
 go_wp2_with fail
 refine HUS.out.mono ?_
 rintro e w1 ⟨hb1,hcase⟩
 have HZ1:Hid (Blk w1 g 33 [.int .i64 0,.int .i64 0,.slice none 0 0,.slice none 0 0,.int .i64 0,.int .i64 0,.int .i64 0,.int .i64 0,.int .u64 0,.bool false]):=HZ0.out.below hb1 HZ0.out.lt
 have HB1:Hid (Below w.heap.size w w1):=HB0.out.trans (hb1.mono HB0.out.size)
 have HB01:=Lib.hid hb1
 clear hb1 HUS HZ0
 rcases hcase with ⟨hu,rfl⟩|⟨i,hu,rfl⟩|⟨d,qq,Bk,hu,rfl,hT,_⟩
 ·have HQ:Hid (St.readFile s k a n=St.no 26):=by show _=_;rw [HRF.out,hu]
  clear hu HRF
  obtain ⟨W2,hW2⟩:∃ W2,W2=w1.alloc (.cells #[.pointer none,.int .i64 0,.bool false] 71):=⟨_,rfl⟩
  obtain ⟨g2,hg2⟩:∃ g2,g2=w1.heap.size:=⟨_,rfl⟩
  have HD2:Hid (Blk W2 g2 71 [.pointer none,.int .i64 0,.bool false]):=by show Blk _ _ _ _;rw [hW2,hg2];exact Blk.new w1 _ _
  have hbn:Below w1.heap.size w1 W2:=by rw [hW2];exact below_new w1 _
  have HZ2:Hid (Blk W2 g 33 [.int .i64 0,.int .i64 0,.slice none 0 0,.slice none 0 0,.int .i64 0,.int .i64 0,.int .i64 0,.int .i64 0,.int .u64 0,.bool false]):=HZ1.out.below hbn HZ1.out.lt
  have HB2:Hid (Below w.heap.size w W2):=HB1.out.trans (hbn.mono HB1.out.size)
  have HBN:=Lib.hid hbn
  clear hbn
  go_upto_region 2 with (fail)
  rw [← hW2,← hg2]
  clear hW2 hg2
  have d0:=HD2.out.cell 0
  have d1:=HD2.out.cell 1
  have d2:=HD2.out.cell 2
  obtain⟨g0,e0,g1,e1,g2,e2,g3,e3,g4,e4,g5,e5,g6,e6,g7,e7,g8,e8,g9,e9⟩:=cells10 HZ2.out
  go_wp2_with fail
  refine bodyPost_ret (results_blk rfl _ _ g 33 (repL 26 0) _ rfl (set10_blk HZ2.out _ _ _ _ _ _ _ _ _ _) rfl rfl rfl) rfl ?_
  rw [HQ.out]
  exact ⟨.slice none 0 0,rfl,⟨rfl,.inl ⟨rfl,rfl⟩⟩,set10_below HB2.out (Nat.le_of_eq HGG.out.symm) _ _ _ _ _ _ _ _ _ _⟩
 ·have HQ:Hid (St.readFile s k a n=St.no 26):=by show _=_;rw [HRF.out,hu]
  clear hu HRF
  obtain ⟨W2,hW2⟩:∃ W2,W2=w1.alloc (.cells #[.pointer (some tp),.int .i64 i,.bool true] 71):=⟨_,rfl⟩
  obtain ⟨g2,hg2⟩:∃ g2,g2=w1.heap.size:=⟨_,rfl⟩
  have HD2:Hid (Blk W2 g2 71 [.pointer (some tp),.int .i64 i,.bool true]):=by show Blk _ _ _ _;rw [hW2,hg2];exact Blk.new w1 _ _
  have hbn:Below w1.heap.size w1 W2:=by rw [hW2];exact below_new w1 _
  have HZ2:Hid (Blk W2 g 33 [.int .i64 0,.int .i64 0,.slice none 0 0,.slice none 0 0,.int .i64 0,.int .i64 0,.int .i64 0,.int .i64 0,.int .u64 0,.bool false]):=HZ1.out.below hbn HZ1.out.lt
  have HB2:Hid (Below w.heap.size w W2):=HB1.out.trans (hbn.mono HB1.out.size)
  have HBN:=Lib.hid hbn
  clear hbn
  go_upto_region 2 with (fail)
  rw [← hW2,← hg2]
  clear hW2 hg2
  have d0:=HD2.out.cell 0
  have d1:=HD2.out.cell 1
  have d2:=HD2.out.cell 2
  obtain⟨g0,e0,g1,e1,g2,e2,g3,e3,g4,e4,g5,e5,g6,e6,g7,e7,g8,e8,g9,e9⟩:=cells10 HZ2.out
  go_wp2_with fail
  refine bodyPost_ret (results_blk rfl _ _ g 33 (repL 26 0) _ rfl (set10_blk HZ2.out _ _ _ _ _ _ _ _ _ _) rfl rfl rfl) rfl ?_
  rw [HQ.out]
  exact ⟨.slice none 0 0,rfl,⟨rfl,.inl ⟨rfl,rfl⟩⟩,set10_below HB2.out (Nat.le_of_eq HGG.out.symm) _ _ _ _ _ _ _ _ _ _⟩
 ·obtain ⟨l,hl⟩:∃ l,l=(Tr.read (alone d) 1 a n).1:=⟨_,rfl⟩
  obtain ⟨rc,hrc⟩:∃ rc,rc=(Tr.read (alone d) 1 a n).2:=⟨_,rfl⟩
  have HQ:Hid (St.readFile s k a n=⟨rc,(l.length:Nat),l,[],Nd.zero⟩):=by show _=_;rw [HRF.out,hu,hl,hrc]
  have hT1:=tobj.keep hT HB01.out.size (fun b hb=>HB01.out.block b (tobj.lt hT b hb))
  have HT1:=Lib.hid hT1
  clear hu HRF hT hT1
  obtain ⟨W2,hW2⟩:∃ W2,W2=w1.alloc (.cells #[.pointer (some qq),.int .i64 1,.bool false] 71):=⟨_,rfl⟩
  obtain ⟨g2,hg2⟩:∃ g2,g2=w1.heap.size:=⟨_,rfl⟩
  have HD2:Hid (Blk W2 g2 71 [.pointer (some qq),.int .i64 1,.bool false]):=by show Blk _ _ _ _;rw [hW2,hg2];exact Blk.new w1 _ _
  have hbn:Below w1.heap.size w1 W2:=by rw [hW2];exact below_new w1 _
  have HZ2:Hid (Blk W2 g 33 [.int .i64 0,.int .i64 0,.slice none 0 0,.slice none 0 0,.int .i64 0,.int .i64 0,.int .i64 0,.int .i64 0,.int .u64 0,.bool false]):=HZ1.out.below hbn HZ1.out.lt
  have HB2:Hid (Below w.heap.size w W2):=HB1.out.trans (hbn.mono HB1.out.size)
  have HBN:=Lib.hid hbn
  clear hbn
  go_upto_region 2 with (fail)
  rw [← hW2,← hg2]
  clear hW2 hg2
  have d0:=HD2.out.cell 0
  have d1:=HD2.out.cell 1
  have d2:=HD2.out.cell 2
  have hbq:Below w1.heap.size w1 W2:=HBN.out
  have HM:=Lib.hid (t_read (tobj.keep HT1.out hbq.size (fun b hb=>hbq.block b (tobj.lt HT1.out b hb))) (St.alone_good d) 1 a n HAN.out.1 HAN.out.2)
  rw [← hl,← hrc] at HM
  clear hl hrc hbq
  go_wp2_with fail
  refine HM.out.mono ?_
  rintro e w3 ⟨x,rfl,hf,hb3⟩
  have HF:=Lib.hid hf
  obtain ⟨X,c,rfl,_,_,hX⟩:=hf.form
  have HX:=Lib.hid hX
  have HZ3:Hid (Blk w3 g 33 [.int .i64 0,.int .i64 0,.slice none 0 0,.slice none 0 0,.int .i64 0,.int .i64 0,.int .i64 0,.int .i64 0,.int .u64 0,.bool false]):=HZ2.out.below hb3 HZ2.out.lt
  have HB3:Hid (Below w.heap.size w w3):=HB2.out.trans (hb3.mono HB2.out.size)
  have HG2:Hid (g<W2.heap.size):=HZ2.out.lt
  obtain ⟨ll,hll⟩:∃ ll,ll=l.length:=⟨_,rfl⟩
  have HLL:Hid (l.length=ll):=hll.symm
  rw [← hll]
  clear hb3 hX hf HM d0 d1 d2 hll
  obtain⟨g0,e0,g1,e1,g2,e2,g3,e3,g4,e4,g5,e5,g6,e6,g7,e7,g8,e8,g9,e9⟩:=cells10 HZ3.out
  go_wp2_with fail
  refine bodyPost_ret (results_blk rfl _ _ g 33 [.int .i64 (rc:Nat),.int .i64 (ll:Nat),.slice X ll c,.slice none 0 0,.int .i64 0,.int .i64 0,.int .i64 0,.int .i64 0,.int .u64 0,.bool false] _ rfl (set10_blk HZ3.out _ _ _ _ _ _ _ _ _ _) rfl rfl rfl) rfl ?_
  rw [HQ.out]
  refine ⟨.slice X ll c,by rw [← HLL.out];rfl,?_,set10_below HB3.out (Nat.le_of_eq HGG.out.symm) _ _ _ _ _ _ _ _ _ _⟩
  show World.ownsRow _ w.heap.size _ 1 _ l.length (Lib.byteCells l)
  have hown:=own_mono HF.out HB2.out.size
  rw [← HLL.out]
  exact Tm.own_keep hown fun b hb=>(set10_mod w3 g _ _ _ _ _ _ _ _ _ _).block b (Tm.own_blk hown hb).2.1 fun e=>by
   have h1:=(Tm.own_blk HF.out hb).1
   have h2:g<W2.heap.size:=HG2.out
   omega
end Sm
end Go.Proofs.YtbnpgakmhhfjkaaGreatDoor
namespace Go.Proofs.YtbnpgakmhhfjkaaGreatDoor
open Go.RowKit Rc
open Tr (Nm En T)
open Tm (tobj)
open Sn (sobj)
open St (alone)
namespace Sm
def repS (e n:Int) (x:Value):Value:=.agg #[.int .i64 e,.int .i64 n,.slice none 0 0,x,.int .i64 0,.int .i64 0,.int .i64 0,.int .i64 0,.int .u64 0,.bool false]
variable {p:Nat} {tv sv:Value} {qs:List Value} {B1 B2 D:Nat→Prop} {s:St.State} {w w':World}
set_option maxHeartbeats 4000000 in
set_option maxRecDepth 100000 in
theorem list_in (h:StIn p tv sv qs B1 B2 D s w) (hO:St.Ok s) {A:Option Addr} {q:List Bs} {cap:Nat} (hq:Way w A q cap) (k:Int) :
    Calls Tryz.prog 48 #[.pointer (some ⟨p,0,none⟩),.slice A q.length cap,.int .i64 k] w fun e w'=>∃ x,e=.returned (repS ((St.list s q k).err:Nat) (St.list s q k).n x)∧w'.ownsRow 0 9 1 x (St.list s q k).names.length (txtCells (St.list s q k).names)∧Below w.heap.size w w':=by
 obtain ⟨W0,hW0⟩:∃ W0,W0=w.alloc (.cells #[.int .i64 0,.int .i64 0,.slice none 0 0,.slice none 0 0,.int .i64 0,.int .i64 0,.int .i64 0,.int .i64 0,.int .u64 0,.bool false] 33):=⟨_,rfl⟩
 obtain ⟨g,hg⟩:∃ g,g=w.heap.size:=⟨_,rfl⟩
 have HZ0:Hid (Blk W0 g 33 [.int .i64 0,.int .i64 0,.slice none 0 0,.slice none 0 0,.int .i64 0,.int .i64 0,.int .i64 0,.int .i64 0,.int .u64 0,.bool false]):=by show Blk _ _ _ _;rw [hW0,hg];exact Blk.new w _ _
 have HB0:Hid (Below w.heap.size w W0):=by show Below _ _ _;rw [hW0];exact below_new w _
 have HGG:Hid (g=w.heap.size):=hg
 have HTA:=Lib.hid (treeAt_any (h.below HB0.out) hO k)
 have HO:=Lib.hid hO
 have HW:=Lib.hid hq
 have HST:Hid (St.list s q k=match St.treeAt s k with
  | none=>St.no 29
  | some t=>if (Tr.look t q).2≠0 then St.no (Tr.look t q).2 else ⟨(Tr.list t (Tr.look t q).1).2,(Tr.list t (Tr.look t q).1).1.length,[],(Tr.list t (Tr.look t q).1).1,Nd.zero⟩):=rfl
 clear h hO hq
 go_enter Tryz.func48,Tryz.ntmps48
 go_upto_region 1 with (fail)
 rw [← hW0,← hg]
 clear hW0 hg
 go_wp2_with fail
 refine HTA.out.mono ?_
 rintro e w1 ⟨hb1,hcase⟩
 have HZ1:Hid (Blk w1 g 33 [.int .i64 0,.int .i64 0,.slice none 0 0,.slice none 0 0,.int .i64 0,.int .i64 0,.int .i64 0,.int .i64 0,.int .u64 0,.bool false]):=HZ0.out.below hb1 HZ0.out.lt
 have HB1:Hid (Below w.heap.size w w1):=HB0.out.trans (hb1.mono HB0.out.size)
 clear hb1 HTA HZ0
 rcases hcase with ⟨t,pp,B,ht,rfl,hT⟩|⟨ht,rfl⟩
 ·have HG:Hid (Tr.Good t):=(St.treeAt_ok HO.out ht).1
  obtain ⟨li,hli⟩:∃ li,li=(Tr.look t q).1:=⟨_,rfl⟩
  obtain ⟨lc,hlc⟩:∃ lc,lc=(Tr.look t q).2:=⟨_,rfl⟩
  have HLK:=Lib.hid (t_look hT HG.out (HW.out.below HB1.out))
  have HT:=Lib.hid hT
  have HS2:Hid (St.list s q k=if lc≠0 then St.no lc else ⟨(Tr.list t li).2,(Tr.list t li).1.length,[],(Tr.list t li).1,Nd.zero⟩):=by show _=_;rw [HST.out,ht,hlc,hli]
  rw [← hli,← hlc] at HLK
  clear ht hT hli hlc HST
  go_wp2_with fail
  refine HLK.out.mono ?_
  rintro e w2 ⟨rfl,hb2⟩
  have HZ2:Hid (Blk w2 g 33 [.int .i64 0,.int .i64 0,.slice none 0 0,.slice none 0 0,.int .i64 0,.int .i64 0,.int .i64 0,.int .i64 0,.int .u64 0,.bool false]):=HZ1.out.below hb2 HZ1.out.lt
  have HB2:Hid (Below w.heap.size w w2):=HB1.out.trans (hb2.mono HB1.out.size)
  have HM:=Lib.hid (t_list (tobj.keep HT.out hb2.size (fun b hb=>hb2.block b (tobj.lt HT.out b hb))) HG.out li)
  clear hb2 HLK
  by_cases hc:lc=0
  ·subst hc
   obtain ⟨l,hl⟩:∃ l,l=(Tr.list t li).1:=⟨_,rfl⟩
   obtain ⟨rc,hrc⟩:∃ rc,rc=(Tr.list t li).2:=⟨_,rfl⟩
   have HQ:Hid (St.list s q k=⟨rc,(l.length:Nat),[],l,Nd.zero⟩):=by show _=_;rw [HS2.out,hl,hrc];rfl
   rw [← hl,← hrc] at HM
   clear hl hrc HS2
   go_wp2_with fail
   refine HM.out.mono ?_
   rintro e w3 ⟨x,rfl,hf⟩
   have HF:=Lib.hid hf
   obtain ⟨X,c,rfl,_,_⟩:=hf.form
   have hb3:Below w2.heap.size w2 w3:=hf.later
   have HZ3:Hid (Blk w3 g 33 [.int .i64 0,.int .i64 0,.slice none 0 0,.slice none 0 0,.int .i64 0,.int .i64 0,.int .i64 0,.int .i64 0,.int .u64 0,.bool false]):=HZ2.out.below hb3 HZ2.out.lt
   have HB3:Hid (Below w.heap.size w w3):=HB2.out.trans (hb3.mono HB2.out.size)
   have HG2:Hid (g<w2.heap.size):=HZ2.out.lt
   obtain ⟨ll,hll⟩:∃ ll,ll=l.length:=⟨_,rfl⟩
   have HLL:Hid (l.length=ll):=hll.symm
   rw [← hll]
   clear hb3 hf HM hll
   obtain⟨g0,e0,g1,e1,g2,e2,g3,e3,g4,e4,g5,e5,g6,e6,g7,e7,g8,e8,g9,e9⟩:=cells10 HZ3.out
   go_wp2_with fail
   refine bodyPost_ret (results_blk rfl _ _ g 33 [.int .i64 (rc:Nat),.int .i64 (ll:Nat),.slice none 0 0,.slice X ll c,.int .i64 0,.int .i64 0,.int .i64 0,.int .i64 0,.int .u64 0,.bool false] _ rfl (set10_blk HZ3.out _ _ _ _ _ _ _ _ _ _) rfl rfl rfl) rfl ?_
   rw [HQ.out]
   refine ⟨.slice X ll c,by rw [← HLL.out];rfl,?_,set10_below HB3.out (Nat.le_of_eq HGG.out.symm) _ _ _ _ _ _ _ _ _ _⟩
   show World.ownsRow _ 0 _ 1 _ l.length (txtCells l)
   have hown:w3.ownsRow w2.heap.size 9 1 (.slice X l.length c) l.length (txtCells l):=HF.out.1
   rw [← HLL.out]
   have hown0:w3.ownsRow 0 9 1 (.slice X l.length c) l.length (txtCells l):=⟨hown.1,hown.2.imp id fun ⟨g9,cap9,cur9,h1,_,h3⟩=>⟨g9,cap9,cur9,h1,Nat.zero_le _,h3⟩⟩
   exact Tm.own_keep hown0 fun b hb=>(set10_mod w3 g _ _ _ _ _ _ _ _ _ _).block b (Tm.own_blk hown hb).2.1 fun e=>by
    have h1:=(Tm.own_blk hown hb).1
    have h2:g<w2.heap.size:=HG2.out
    omega
  ·have hci:((lc:Int)==0)=false:=by rw [beq_eq_false_iff_ne];omega
   have HQ:Hid (St.list s q k=St.no lc):=by show _=_;rw [HS2.out,if_pos hc]
   clear hc HS2 HM
   obtain⟨g0,e0,g1,e1,g2,e2,g3,e3,g4,e4,g5,e5,g6,e6,g7,e7,g8,e8,g9,e9⟩:=cells10 HZ2.out
   go_wp2_with fail
   refine bodyPost_ret (results_blk rfl _ _ g 33 (repL (lc:Nat) 0) _ rfl (set10_blk HZ2.out _ _ _ _ _ _ _ _ _ _) rfl rfl rfl) rfl ?_
   rw [HQ.out]
   exact ⟨.slice none 0 0,rfl,⟨rfl,.inl ⟨rfl,rfl⟩⟩,set10_below HB2.out (Nat.le_of_eq HGG.out.symm) _ _ _ _ _ _ _ _ _ _⟩
 ·have HQ:Hid (St.list s q k=St.no 29):=by show _=_;rw [HST.out,ht]
  clear ht HST
  obtain⟨g0,e0,g1,e1,g2,e2,g3,e3,g4,e4,g5,e5,g6,e6,g7,e7,g8,e8,g9,e9⟩:=cells10 HZ1.out
  go_wp2_with fail
  refine bodyPost_ret (results_blk rfl _ _ g 33 (repL 29 0) _ rfl (set10_blk HZ1.out _ _ _ _ _ _ _ _ _ _) rfl rfl rfl) rfl ?_
  rw [HQ.out]
  exact ⟨.slice none 0 0,rfl,⟨rfl,.inl ⟨rfl,rfl⟩⟩,set10_below HB1.out (Nat.le_of_eq HGG.out.symm) _ _ _ _ _ _ _ _ _ _⟩
end Sm
end Go.Proofs.YtbnpgakmhhfjkaaGreatDoor
namespace Go.Proofs.YtbnpgakmhhfjkaaGreatDoor
open Go.RowKit Rc
open Tr (Nm En T)
open Tm (tobj)
open Sn (sobj)
open St (alone)
namespace Sm
def repN (e:Int) (n:Nd):Value:=.agg #[.int .i64 e,.int .i64 0,.slice none 0 0,.slice none 0 0,.int .i64 n.id,.int .i64 n.kind,.int .i64 n.links,.int .i64 n.size,.int .u64 (n.till:Nat),.bool n.shut]
variable {p:Nat} {tv sv:Value} {qs:List Value} {B1 B2 D:Nat→Prop} {s:St.State} {w w':World}
set_option maxHeartbeats 4000000 in
set_option maxRecDepth 100000 in
theorem stat_in (h:StIn p tv sv qs B1 B2 D s w) (hO:St.Ok s) {A:Option Addr} {q:List Bs} {cap:Nat} (hq:Way w A q cap) (k:Int) :
    Calls Tryz.prog 49 #[.pointer (some ⟨p,0,none⟩),.slice A q.length cap,.int .i64 k] w fun e w'=>e=.returned (repN ((St.stat s q k).err:Nat) (St.stat s q k).node)∧Below w.heap.size w w':=by
 obtain ⟨W0,hW0⟩:∃ W0,W0=w.alloc (.cells #[.int .i64 0,.int .i64 0,.slice none 0 0,.slice none 0 0,.int .i64 0,.int .i64 0,.int .i64 0,.int .i64 0,.int .u64 0,.bool false] 33):=⟨_,rfl⟩
 obtain ⟨g,hg⟩:∃ g,g=w.heap.size:=⟨_,rfl⟩
 have HZ0:Hid (Blk W0 g 33 [.int .i64 0,.int .i64 0,.slice none 0 0,.slice none 0 0,.int .i64 0,.int .i64 0,.int .i64 0,.int .i64 0,.int .u64 0,.bool false]):=by show Blk _ _ _ _;rw [hW0,hg];exact Blk.new w _ _
 have HB0:Hid (Below w.heap.size w W0):=by show Below _ _ _;rw [hW0];exact below_new w _
 have HGG:Hid (g=w.heap.size):=hg
 have HTA:=Lib.hid (treeAt_any (h.below HB0.out) hO k)
 have HO:=Lib.hid hO
 have HW:=Lib.hid hq
 have HST:Hid (St.stat s q k=match St.treeAt s k with
  | none=>St.no 29
  | some t=>⟨(St.lookN t q).2,0,[],[],(St.lookN t q).1⟩):=rfl
 clear h hO hq
 go_enter Tryz.func49,Tryz.ntmps49
 go_upto_region 1 with (fail)
 rw [← hW0,← hg]
 clear hW0 hg
 go_wp2_with fail
 refine HTA.out.mono ?_
 rintro e w1 ⟨hb1,hcase⟩
 have HZ1:Hid (Blk w1 g 33 [.int .i64 0,.int .i64 0,.slice none 0 0,.slice none 0 0,.int .i64 0,.int .i64 0,.int .i64 0,.int .i64 0,.int .u64 0,.bool false]):=HZ0.out.below hb1 HZ0.out.lt
 have HB1:Hid (Below w.heap.size w w1):=HB0.out.trans (hb1.mono HB0.out.size)
 clear hb1 HTA HZ0
 rcases hcase with ⟨t,pp,B,ht,rfl,hT⟩|⟨ht,rfl⟩
 ·have HG:Hid (Tr.Good t):=(St.treeAt_ok HO.out ht).1
  obtain ⟨nd,hnd⟩:∃ nd,nd=(St.lookN t q).1:=⟨_,rfl⟩
  obtain ⟨lc,hlc⟩:∃ lc,lc=(St.lookN t q).2:=⟨_,rfl⟩
  have hLK:=look_any hT HG.out (HW.out.below HB1.out)
  rw [← hnd,← hlc] at hLK
  obtain ⟨n1,n2,n3,n4,n5,n6⟩:=nd
  have HLK:Hid (Calls Tryz.prog 96 #[.pointer (some pp),.slice A q.length cap] w1 fun e w'=>e=.returned (.tuple #[.agg #[.int .i64 n1,.int .i64 n2,.int .i64 n3,.int .i64 n4,.int .u64 (n5:Nat),.bool n6],.int .i64 (lc:Nat)])∧Below w1.heap.size w1 w'):=hLK
  have HQ:Hid (St.stat s q k=⟨lc,0,[],[],⟨n1,n2,n3,n4,n5,n6⟩⟩):=by show _=_;rw [HST.out,ht,hnd,hlc]
  clear ht hT hnd hlc hLK HST
  go_wp2_with fail
  refine HLK.out.mono ?_
  rintro e w2 ⟨rfl,hb2⟩
  have HZ2:Hid (Blk w2 g 33 [.int .i64 0,.int .i64 0,.slice none 0 0,.slice none 0 0,.int .i64 0,.int .i64 0,.int .i64 0,.int .i64 0,.int .u64 0,.bool false]):=HZ1.out.below hb2 HZ1.out.lt
  have HB2:Hid (Below w.heap.size w w2):=HB1.out.trans (hb2.mono HB1.out.size)
  obtain ⟨W3,hW3⟩:∃ W3,W3=w2.alloc (.cells #[.int .i64 n1,.int .i64 n2,.int .i64 n3,.int .i64 n4,.int .u64 (n5:Nat),.bool n6] 31):=⟨_,rfl⟩
  obtain ⟨g2,hg2⟩:∃ g2,g2=w2.heap.size:=⟨_,rfl⟩
  have HD3:Hid (Blk W3 g2 31 [.int .i64 n1,.int .i64 n2,.int .i64 n3,.int .i64 n4,.int .u64 (n5:Nat),.bool n6]):=by show Blk _ _ _ _;rw [hW3,hg2];exact Blk.new w2 _ _
  have hbn:Below w2.heap.size w2 W3:=by rw [hW3];exact below_new w2 _
  have HZ3:Hid (Blk W3 g 33 [.int .i64 0,.int .i64 0,.slice none 0 0,.slice none 0 0,.int .i64 0,.int .i64 0,.int .i64 0,.int .i64 0,.int .u64 0,.bool false]):=HZ2.out.below hbn HZ2.out.lt
  have HB3:Hid (Below w.heap.size w W3):=HB2.out.trans (hbn.mono HB2.out.size)
  clear hb2 hbn HLK
  go_upto_region 5 with (fail)
  rw [← hW3,← hg2]
  clear hW3 hg2
  have d0:=HD3.out.cell 0
  have d1:=HD3.out.cell 1
  have d2:=HD3.out.cell 2
  have d3:=HD3.out.cell 3
  have d4:=HD3.out.cell 4
  have d5:=HD3.out.cell 5
  obtain⟨g0,e0,g1,e1,g2,e2,g3,e3,g4,e4,g5,e5,g6,e6,g7,e7,g8,e8,g9,e9⟩:=cells10 HZ3.out
  go_wp2_with fail
  refine bodyPost_ret (results_blk rfl _ _ g 33 [.int .i64 (lc:Nat),.int .i64 0,.slice none 0 0,.slice none 0 0,.int .i64 n1,.int .i64 n2,.int .i64 n3,.int .i64 n4,.int .u64 (n5:Nat),.bool n6] _ rfl (set10_blk HZ3.out _ _ _ _ _ _ _ _ _ _) rfl rfl rfl) rfl ?_
  rw [HQ.out]
  exact ⟨rfl,set10_below HB3.out (Nat.le_of_eq HGG.out.symm) _ _ _ _ _ _ _ _ _ _⟩
 ·have HQ:Hid (St.stat s q k=St.no 29):=by show _=_;rw [HST.out,ht]
  clear ht HST
  obtain⟨g0,e0,g1,e1,g2,e2,g3,e3,g4,e4,g5,e5,g6,e6,g7,e7,g8,e8,g9,e9⟩:=cells10 HZ1.out
  go_wp2_with fail
  refine bodyPost_ret (results_blk rfl _ _ g 33 (repL 29 0) _ rfl (set10_blk HZ1.out _ _ _ _ _ _ _ _ _ _) rfl rfl rfl) rfl ?_
  rw [HQ.out]
  exact ⟨rfl,set10_below HB1.out (Nat.le_of_eq HGG.out.symm) _ _ _ _ _ _ _ _ _ _⟩
end Sm
end Go.Proofs.YtbnpgakmhhfjkaaGreatDoor
namespace Go.Proofs.YtbnpgakmhhfjkaaGreatDoor
open Go.RowKit Rc
open Tr (Nm En T)
open Tm (tobj)
open Sn (sobj)
open St (alone)
namespace Sm
variable {p:Nat} {tv sv:Value} {qs:List Value} {B1 B2 D:Nat→Prop} {s:St.State} {w w':World}
set_option maxHeartbeats 4000000 in
set_option maxRecDepth 100000 in
theorem do_3 (h:StIn p tv sv qs B1 B2 D s w) (hO:St.Ok s) (o:St.Opn) (hk1:o.kind=3) (A0:Option Addr) (c0:Nat) (h1:o.path.length≤9223372036854775807) (h2:o.dest.length≤9223372036854775807) :
    Calls Tryz.prog 15 #[.pointer (some ⟨p,0,none⟩),opV o (.slice A0 o.data.length c0)] w (DoAns (.pointer (some ⟨p,0,none⟩)) s o (StS p B1 B2 D) w):=by
 have HPA:Hid (∀ W,Calls Tryz.prog 38 #[opV o (.slice A0 o.data.length c0)] W (PAns o W)):=fun W=>paths_any o A0 o.data.length c0 W h1 h2
 have HDO:Hid (St.do_ s o=if (St.paths o).2.2≠0 then (St.no (St.paths o).2.2,s) else St.openFile s (St.paths o).1 o.snap):=by
  show _=_
  unfold St.do_
  rw [hk1]
  rw [if_neg (by decide:¬ (3:Int)=1),if_neg (by decide:¬ (3:Int)=2),if_pos rfl]
 obtain ⟨P,hP⟩:∃ P,P=St.paths o:=⟨_,rfl⟩
 have HPP:Hid (∀ e W W',PAns o W e W'→∃ A c A2 c2,e=.returned (.tuple #[.slice A P.1.length c,.slice A2 P.2.1.length c2,.int .i64 (P.2.2:Nat)])∧Way W' A P.1 c∧Way W' A2 P.2.1 c2∧Below W.heap.size W W'):=fun e W W' hh=>by rw [hP];exact hh
 rw [← hP] at HDO
 obtain ⟨p1,p2,pc⟩:=P
 dsimp only at HPP HDO
 clear hP h1 h2
 obtain ⟨kind,path,dest,fd,at_,n,till,snap,data⟩:=o
 dsimp only at hk1 HDO
 subst hk1
 obtain ⟨tp,rfl⟩:=tobj.ptr h.tr
 obtain ⟨sp,rfl⟩:=sobj.ptr h.sn
 obtain ⟨V0,hV0⟩:∃ V0,V0=w.alloc (.cells #[.int .i64 3,.string (strOf path),.string (strOf dest),.int .i64 fd,.int .i64 at_,.int .i64 n,.int .u64 (till:Nat),.int .i64 snap,.slice A0 data.length c0] 36):=⟨_,rfl⟩
 obtain ⟨go,hgo⟩:∃ go,go=w.heap.size:=⟨_,rfl⟩
 have HOP:Hid (Blk V0 go 36 [.int .i64 3,.string (strOf path),.string (strOf dest),.int .i64 fd,.int .i64 at_,.int .i64 n,.int .u64 (till:Nat),.int .i64 snap,.slice A0 data.length c0]):=by show Blk _ _ _ _;rw [hV0,hgo];exact Blk.new w _ _
 have hbv:Below w.heap.size w V0:=by rw [hV0];exact below_new w _
 obtain ⟨W0,hW0⟩:∃ W0,W0=V0.alloc (.cells #[.int .i64 0,.int .i64 0,.slice none 0 0,.slice none 0 0,.int .i64 0,.int .i64 0,.int .i64 0,.int .i64 0,.int .u64 0,.bool false] 33):=⟨_,rfl⟩
 obtain ⟨g,hg⟩:∃ g,g=V0.heap.size:=⟨_,rfl⟩
 have HZ0:Hid (Blk W0 g 33 [.int .i64 0,.int .i64 0,.slice none 0 0,.slice none 0 0,.int .i64 0,.int .i64 0,.int .i64 0,.int .i64 0,.int .u64 0,.bool false]):=by show Blk _ _ _ _;rw [hW0,hg];exact Blk.new V0 _ _
 have hbw:Below V0.heap.size V0 W0:=by rw [hW0];exact below_new V0 _
 have HB0:Hid (Below w.heap.size w W0):=hbv.trans (hbw.mono hbv.size)
 have HOP0:Hid (Blk W0 go 36 [.int .i64 3,.string (strOf path),.string (strOf dest),.int .i64 fd,.int .i64 at_,.int .i64 n,.int .u64 (till:Nat),.int .i64 snap,.slice A0 data.length c0]):=HOP.out.below hbw HOP.out.lt
 have HGG:Hid (w.heap.size≤g):=by show _≤_;rw [hg];exact hbv.size
 have HNG:Hid (¬ StS p B1 B2 D g):=fun h9=>by
  have:=h.lt h9
  have h8:w.heap.size≤g:=HGG.out
  omega
 have HN0:Hid (Nw p (.pointer (some tp)) (.pointer (some sp)) qs w (StS p B1 B2 D) B1 B2 D s W0):=(Nw.start h).later HB0.out
 have HO:=Lib.hid hO
 clear h hO hbv hbw HOP
 have o0:=HOP0.out.cell 0
 have o1:=HOP0.out.cell 1
 have o2:=HOP0.out.cell 2
 have o3:=HOP0.out.cell 3
 have o4:=HOP0.out.cell 4
 have o5:=HOP0.out.cell 5
 have o6:=HOP0.out.cell 6
 have o7:=HOP0.out.cell 7
 have o8:=HOP0.out.cell 8
 go_enter Tryz.func15,Tryz.ntmps15
 go_upto_region 1 with (fail)
 unfold opV
 dsimp only
 rw [← hV0,← hW0,← hgo,show go+1=g by rw [hg,hV0,World.size_alloc,hgo]]
 clear hV0 hgo hW0 hg
 go_wp2_with fail
 refine (HPA.out W0).mono ?_
 intro e w1 hpa
 obtain ⟨A,c,A2,c2,rfl,hw1,hw2,hb1⟩:=HPP.out _ _ _ hpa
 have HZ1:Hid (Blk w1 g 33 [.int .i64 0,.int .i64 0,.slice none 0 0,.slice none 0 0,.int .i64 0,.int .i64 0,.int .i64 0,.int .i64 0,.int .u64 0,.bool false]):=HZ0.out.below hb1 HZ0.out.lt
 have HN1:Hid (Nw p (.pointer (some tp)) (.pointer (some sp)) qs w (StS p B1 B2 D) B1 B2 D s w1):=HN0.out.later hb1
 have HB1:Hid (Below w.heap.size w w1):=HB0.out.trans (hb1.mono HB0.out.size)
 have HOP1:Hid (Blk w1 go 36 [.int .i64 3,.string (strOf path),.string (strOf dest),.int .i64 fd,.int .i64 at_,.int .i64 n,.int .u64 (till:Nat),.int .i64 snap,.slice A0 data.length c0]):=HOP0.out.below hb1 HOP0.out.lt
 have HW1:=Lib.hid hw1
 have HW2:=Lib.hid hw2
 clear hpa hw1 hw2 hb1 HPA HPP HZ0 HN0 HOP0 HB0 o0 o1 o2 o3 o4 o5 o6 o7 o8
 have o0:=HOP1.out.cell 0
 by_cases hc:pc=0
 rotate_left
 ·have hci:((pc:Int)==0)=false:=by rw [beq_eq_false_iff_ne];omega
  have HQ:Hid (St.do_ s ⟨3,path,dest,fd,at_,n,till,snap,data⟩=(St.no pc,s)):=by show _=_;rw [HDO.out,if_pos hc]
  clear hc HDO
  obtain⟨g0,e0,g1,e1,g2,e2,g3,e3,g4,e4,g5,e5,g6,e6,g7,e7,g8,e8,g9,e9⟩:=cells10 HZ1.out
  go_wp2_with fail
  refine bodyPost_ret (results_blk rfl _ _ g 33 (repL (pc:Nat) 0) _ rfl (set10_blk HZ1.out _ _ _ _ _ _ _ _ _ _) rfl rfl rfl) rfl ?_
  refine DoAns.of_turns (by rw [HQ.out];exact plain_no _) ?_
  rw [HQ.out]
  exact (HN1.out.poke (set10_mod _ _ _ _ _ _ _ _ _ _ _ _) HNG.out HGG.out).done _
 subst hc
 have HQ:Hid (St.do_ s ⟨3,path,dest,fd,at_,n,till,snap,data⟩=St.openFile s p1 snap):=HDO.out
 clear HDO
 have o7:=HOP1.out.cell 7
 have HM:=Lib.hid (open_in HN1.out.in_ HO.out HW1.out snap)
 obtain ⟨re,hre⟩:∃ re,re=((St.openFile s p1 snap).1).err:=⟨_,rfl⟩
 obtain ⟨rn,hrn⟩:∃ rn,rn=((St.openFile s p1 snap).1).n:=⟨_,rfl⟩
 have HRE:Hid (re=((St.openFile s p1 snap).1).err∧rn=((St.openFile s p1 snap).1).n):=⟨hre,hrn⟩
 rw [← hre,← hrn] at HM
 clear hre hrn
 go_wp2_with fail
 refine HM.out.mono ?_
 rintro e w2 ⟨rfl,S2,h21,h22,h23⟩
 have HZ2:Hid (Blk w2 g 33 [.int .i64 0,.int .i64 0,.slice none 0 0,.slice none 0 0,.int .i64 0,.int .i64 0,.int .i64 0,.int .i64 0,.int .u64 0,.bool false]):=(h22.block g HZ1.out.lt HNG.out).trans HZ1.out
 have HEND:Hid (∀ w3,Mod w2 w3 (fun b=>b=g)→Ob.Turns stobj (.pointer (some ⟨p,0,none⟩)) _ (rep0 (re:Nat) rn) (StS p B1 B2 D) w (.returned (rep0 (re:Nat) rn)) w3):=fun w3 hp =>
  on_done h21 HN1.out.mod h22 HN1.out.sub h23 hp (fun h9=>(h23 g h9).elim HNG.out (fun h8=>by have:=HZ1.out.lt;omega)) HGG.out
 unfold rep0
 clear h21 h22 h23 HM o0 o7
 obtain⟨g0,e0,g1,e1,g2,e2,g3,e3,g4,e4,g5,e5,g6,e6,g7,e7,g8,e8,g9,e9⟩:=cells10 HZ2.out
 go_wp2_with fail
 refine bodyPost_ret (results_blk rfl _ _ g 33 (repL (re:Nat) rn) _ rfl (set10_blk HZ2.out _ _ _ _ _ _ _ _ _ _) rfl rfl rfl) rfl ?_
 refine DoAns.of_turns (by rw [HQ.out];exact plain_open _ _ _) ?_
 rw [HQ.out]
 obtain ⟨h91,h92⟩:=HRE.out
 subst h91 h92
 exact HEND.out _ (set10_mod _ _ _ _ _ _ _ _ _ _ _ _)
set_option maxHeartbeats 4000000 in
set_option maxRecDepth 100000 in
theorem do_5 (h:StIn p tv sv qs B1 B2 D s w) (hO:St.Ok s) (o:St.Opn) (hk1:o.kind=5) (A0:Option Addr) (c0:Nat) (h1:o.path.length≤9223372036854775807) (h2:o.dest.length≤9223372036854775807) (hr:Rd w A0 o.data) (hl:o.data.length≤1000000) :
    Calls Tryz.prog 15 #[.pointer (some ⟨p,0,none⟩),opV o (.slice A0 o.data.length c0)] w (DoAns (.pointer (some ⟨p,0,none⟩)) s o (StS p B1 B2 D) w):=by
 have HPA:Hid (∀ W,Calls Tryz.prog 38 #[opV o (.slice A0 o.data.length c0)] W (PAns o W)):=fun W=>paths_any o A0 o.data.length c0 W h1 h2
 have HDO:Hid (St.do_ s o=if (St.paths o).2.2≠0 then (St.no (St.paths o).2.2,s) else St.writeFile s o.fd o.data):=by
  show _=_
  unfold St.do_
  rw [hk1]
  rw [if_neg (by decide:¬ (5:Int)=1),if_neg (by decide:¬ (5:Int)=2),if_neg (by decide:¬ (5:Int)=3),if_neg (by decide:¬ (5:Int)=4),if_pos rfl]
 obtain ⟨P,hP⟩:∃ P,P=St.paths o:=⟨_,rfl⟩
 have HPP:Hid (∀ e W W',PAns o W e W'→∃ A c A2 c2,e=.returned (.tuple #[.slice A P.1.length c,.slice A2 P.2.1.length c2,.int .i64 (P.2.2:Nat)])∧Way W' A P.1 c∧Way W' A2 P.2.1 c2∧Below W.heap.size W W'):=fun e W W' hh=>by rw [hP];exact hh
 rw [← hP] at HDO
 obtain ⟨p1,p2,pc⟩:=P
 dsimp only at HPP HDO
 clear hP h1 h2
 obtain ⟨kind,path,dest,fd,at_,n,till,snap,data⟩:=o
 dsimp only at hk1 HDO
 subst hk1
 obtain ⟨tp,rfl⟩:=tobj.ptr h.tr
 obtain ⟨sp,rfl⟩:=sobj.ptr h.sn
 obtain ⟨V0,hV0⟩:∃ V0,V0=w.alloc (.cells #[.int .i64 5,.string (strOf path),.string (strOf dest),.int .i64 fd,.int .i64 at_,.int .i64 n,.int .u64 (till:Nat),.int .i64 snap,.slice A0 data.length c0] 36):=⟨_,rfl⟩
 obtain ⟨go,hgo⟩:∃ go,go=w.heap.size:=⟨_,rfl⟩
 have HOP:Hid (Blk V0 go 36 [.int .i64 5,.string (strOf path),.string (strOf dest),.int .i64 fd,.int .i64 at_,.int .i64 n,.int .u64 (till:Nat),.int .i64 snap,.slice A0 data.length c0]):=by show Blk _ _ _ _;rw [hV0,hgo];exact Blk.new w _ _
 have hbv:Below w.heap.size w V0:=by rw [hV0];exact below_new w _
 obtain ⟨W0,hW0⟩:∃ W0,W0=V0.alloc (.cells #[.int .i64 0,.int .i64 0,.slice none 0 0,.slice none 0 0,.int .i64 0,.int .i64 0,.int .i64 0,.int .i64 0,.int .u64 0,.bool false] 33):=⟨_,rfl⟩
 obtain ⟨g,hg⟩:∃ g,g=V0.heap.size:=⟨_,rfl⟩
 have HZ0:Hid (Blk W0 g 33 [.int .i64 0,.int .i64 0,.slice none 0 0,.slice none 0 0,.int .i64 0,.int .i64 0,.int .i64 0,.int .i64 0,.int .u64 0,.bool false]):=by show Blk _ _ _ _;rw [hW0,hg];exact Blk.new V0 _ _
 have hbw:Below V0.heap.size V0 W0:=by rw [hW0];exact below_new V0 _
 have HB0:Hid (Below w.heap.size w W0):=hbv.trans (hbw.mono hbv.size)
 have HOP0:Hid (Blk W0 go 36 [.int .i64 5,.string (strOf path),.string (strOf dest),.int .i64 fd,.int .i64 at_,.int .i64 n,.int .u64 (till:Nat),.int .i64 snap,.slice A0 data.length c0]):=HOP.out.below hbw HOP.out.lt
 have HGG:Hid (w.heap.size≤g):=by show _≤_;rw [hg];exact hbv.size
 have HNG:Hid (¬ StS p B1 B2 D g):=fun h9=>by
  have:=h.lt h9
  have h8:w.heap.size≤g:=HGG.out
  omega
 have HN0:Hid (Nw p (.pointer (some tp)) (.pointer (some sp)) qs w (StS p B1 B2 D) B1 B2 D s W0):=(Nw.start h).later HB0.out
 have HO:=Lib.hid hO
 have HRD:=Lib.hid hr
 have HDL:=Lib.hid hl
 clear hr hl
 clear h hO hbv hbw HOP
 have o0:=HOP0.out.cell 0
 have o1:=HOP0.out.cell 1
 have o2:=HOP0.out.cell 2
 have o3:=HOP0.out.cell 3
 have o4:=HOP0.out.cell 4
 have o5:=HOP0.out.cell 5
 have o6:=HOP0.out.cell 6
 have o7:=HOP0.out.cell 7
 have o8:=HOP0.out.cell 8
 go_enter Tryz.func15,Tryz.ntmps15
 go_upto_region 1 with (fail)
 unfold opV
 dsimp only
 rw [← hV0,← hW0,← hgo,show go+1=g by rw [hg,hV0,World.size_alloc,hgo]]
 clear hV0 hgo hW0 hg
 go_wp2_with fail
 refine (HPA.out W0).mono ?_
 intro e w1 hpa
 obtain ⟨A,c,A2,c2,rfl,hw1,hw2,hb1⟩:=HPP.out _ _ _ hpa
 have HZ1:Hid (Blk w1 g 33 [.int .i64 0,.int .i64 0,.slice none 0 0,.slice none 0 0,.int .i64 0,.int .i64 0,.int .i64 0,.int .i64 0,.int .u64 0,.bool false]):=HZ0.out.below hb1 HZ0.out.lt
 have HN1:Hid (Nw p (.pointer (some tp)) (.pointer (some sp)) qs w (StS p B1 B2 D) B1 B2 D s w1):=HN0.out.later hb1
 have HB1:Hid (Below w.heap.size w w1):=HB0.out.trans (hb1.mono HB0.out.size)
 have HOP1:Hid (Blk w1 go 36 [.int .i64 5,.string (strOf path),.string (strOf dest),.int .i64 fd,.int .i64 at_,.int .i64 n,.int .u64 (till:Nat),.int .i64 snap,.slice A0 data.length c0]):=HOP0.out.below hb1 HOP0.out.lt
 have HW1:=Lib.hid hw1
 have HW2:=Lib.hid hw2
 clear hpa hw1 hw2 hb1 HPA HPP HZ0 HN0 HOP0 HB0 o0 o1 o2 o3 o4 o5 o6 o7 o8
 have o0:=HOP1.out.cell 0
 by_cases hc:pc=0
 rotate_left
 ·have hci:((pc:Int)==0)=false:=by rw [beq_eq_false_iff_ne];omega
  have HQ:Hid (St.do_ s ⟨5,path,dest,fd,at_,n,till,snap,data⟩=(St.no pc,s)):=by show _=_;rw [HDO.out,if_pos hc]
  clear hc HDO
  obtain⟨g0,e0,g1,e1,g2,e2,g3,e3,g4,e4,g5,e5,g6,e6,g7,e7,g8,e8,g9,e9⟩:=cells10 HZ1.out
  go_wp2_with fail
  refine bodyPost_ret (results_blk rfl _ _ g 33 (repL (pc:Nat) 0) _ rfl (set10_blk HZ1.out _ _ _ _ _ _ _ _ _ _) rfl rfl rfl) rfl ?_
  refine DoAns.of_turns (by rw [HQ.out];exact plain_no _) ?_
  rw [HQ.out]
  exact (HN1.out.poke (set10_mod _ _ _ _ _ _ _ _ _ _ _ _) HNG.out HGG.out).done _
 subst hc
 have HQ:Hid (St.do_ s ⟨5,path,dest,fd,at_,n,till,snap,data⟩=St.writeFile s fd data):=HDO.out
 clear HDO
 have o3:=HOP1.out.cell 3
 have o8:=HOP1.out.cell 8
 have HM:=Lib.hid (write_in HN1.out.in_ HO.out fd A0 data c0 (HRD.out.below HB1.out) HDL.out)
 obtain ⟨re,hre⟩:∃ re,re=((St.writeFile s fd data).1).err:=⟨_,rfl⟩
 obtain ⟨rn,hrn⟩:∃ rn,rn=((St.writeFile s fd data).1).n:=⟨_,rfl⟩
 have HRE:Hid (re=((St.writeFile s fd data).1).err∧rn=((St.writeFile s fd data).1).n):=⟨hre,hrn⟩
 rw [← hre,← hrn] at HM
 clear hre hrn
 go_wp2_with fail
 refine HM.out.mono ?_
 rintro e w2 ⟨rfl,S2,h21,h22,h23⟩
 have HZ2:Hid (Blk w2 g 33 [.int .i64 0,.int .i64 0,.slice none 0 0,.slice none 0 0,.int .i64 0,.int .i64 0,.int .i64 0,.int .i64 0,.int .u64 0,.bool false]):=(h22.block g HZ1.out.lt HNG.out).trans HZ1.out
 have HEND:Hid (∀ w3,Mod w2 w3 (fun b=>b=g)→Ob.Turns stobj (.pointer (some ⟨p,0,none⟩)) _ (rep0 (re:Nat) rn) (StS p B1 B2 D) w (.returned (rep0 (re:Nat) rn)) w3):=fun w3 hp =>
  on_done h21 HN1.out.mod h22 HN1.out.sub h23 hp (fun h9=>(h23 g h9).elim HNG.out (fun h8=>by have:=HZ1.out.lt;omega)) HGG.out
 unfold rep0
 clear h21 h22 h23 HM o0 o3 o8
 obtain⟨g0,e0,g1,e1,g2,e2,g3,e3,g4,e4,g5,e5,g6,e6,g7,e7,g8,e8,g9,e9⟩:=cells10 HZ2.out
 go_wp2_with fail
 refine bodyPost_ret (results_blk rfl _ _ g 33 (repL (re:Nat) rn) _ rfl (set10_blk HZ2.out _ _ _ _ _ _ _ _ _ _) rfl rfl rfl) rfl ?_
 refine DoAns.of_turns (by rw [HQ.out];exact plain_write _ _ _) ?_
 rw [HQ.out]
 obtain ⟨h91,h92⟩:=HRE.out
 subst h91 h92
 exact HEND.out _ (set10_mod _ _ _ _ _ _ _ _ _ _ _ _)
set_option maxHeartbeats 4000000 in
set_option maxRecDepth 100000 in
theorem do_14 (h:StIn p tv sv qs B1 B2 D s w) (hO:St.Ok s) (o:St.Opn) (hk1:o.kind=14) (A0:Option Addr) (c0:Nat) (h1:o.path.length≤9223372036854775807) (h2:o.dest.length≤9223372036854775807) (hs:s.snaps.next<1000000000000000) (hK:KAt w) :
    Calls Tryz.prog 15 #[.pointer (some ⟨p,0,none⟩),opV o (.slice A0 o.data.length c0)] w (DoAns (.pointer (some ⟨p,0,none⟩)) s o (StS p B1 B2 D) w):=by
 have HPA:Hid (∀ W,Calls Tryz.prog 38 #[opV o (.slice A0 o.data.length c0)] W (PAns o W)):=fun W=>paths_any o A0 o.data.length c0 W h1 h2
 have HDO:Hid (St.do_ s o=if (St.paths o).2.2≠0 then (St.no (St.paths o).2.2,s) else (⟨(Sn.take s.snaps s.tree).1.2,(Sn.take s.snaps s.tree).1.1,[],[],Nd.zero⟩,{ s with snaps:=(Sn.take s.snaps s.tree).2 })):=by
  show _=_
  unfold St.do_
  rw [hk1]
  rw [if_neg (by decide:¬ (14:Int)=1),if_neg (by decide:¬ (14:Int)=2),if_neg (by decide:¬ (14:Int)=3),if_neg (by decide:¬ (14:Int)=4),if_neg (by decide:¬ (14:Int)=5),if_neg (by decide:¬ (14:Int)=6),if_neg (by decide:¬ (14:Int)=7),if_neg (by decide:¬ (14:Int)=8),if_neg (by decide:¬ (14:Int)=9),if_neg (by decide:¬ (14:Int)=10),if_neg (by decide:¬ (14:Int)=11),if_neg (by decide:¬ (14:Int)=12),if_neg (by decide:¬ (14:Int)=13),if_pos rfl]
 obtain ⟨P,hP⟩:∃ P,P=St.paths o:=⟨_,rfl⟩
 have HPP:Hid (∀ e W W',PAns o W e W'→∃ A c A2 c2,e=.returned (.tuple #[.slice A P.1.length c,.slice A2 P.2.1.length c2,.int .i64 (P.2.2:Nat)])∧Way W' A P.1 c∧Way W' A2 P.2.1 c2∧Below W.heap.size W W'):=fun e W W' hh=>by rw [hP];exact hh
 rw [← hP] at HDO
 obtain ⟨p1,p2,pc⟩:=P
 dsimp only at HPP HDO
 clear hP h1 h2
 obtain ⟨kind,path,dest,fd,at_,n,till,snap,data⟩:=o
 dsimp only at hk1 HDO
 subst hk1
 obtain ⟨tp,rfl⟩:=tobj.ptr h.tr
 obtain ⟨sp,rfl⟩:=sobj.ptr h.sn
 obtain ⟨V0,hV0⟩:∃ V0,V0=w.alloc (.cells #[.int .i64 14,.string (strOf path),.string (strOf dest),.int .i64 fd,.int .i64 at_,.int .i64 n,.int .u64 (till:Nat),.int .i64 snap,.slice A0 data.length c0] 36):=⟨_,rfl⟩
 obtain ⟨go,hgo⟩:∃ go,go=w.heap.size:=⟨_,rfl⟩
 have HOP:Hid (Blk V0 go 36 [.int .i64 14,.string (strOf path),.string (strOf dest),.int .i64 fd,.int .i64 at_,.int .i64 n,.int .u64 (till:Nat),.int .i64 snap,.slice A0 data.length c0]):=by show Blk _ _ _ _;rw [hV0,hgo];exact Blk.new w _ _
 have hbv:Below w.heap.size w V0:=by rw [hV0];exact below_new w _
 obtain ⟨W0,hW0⟩:∃ W0,W0=V0.alloc (.cells #[.int .i64 0,.int .i64 0,.slice none 0 0,.slice none 0 0,.int .i64 0,.int .i64 0,.int .i64 0,.int .i64 0,.int .u64 0,.bool false] 33):=⟨_,rfl⟩
 obtain ⟨g,hg⟩:∃ g,g=V0.heap.size:=⟨_,rfl⟩
 have HZ0:Hid (Blk W0 g 33 [.int .i64 0,.int .i64 0,.slice none 0 0,.slice none 0 0,.int .i64 0,.int .i64 0,.int .i64 0,.int .i64 0,.int .u64 0,.bool false]):=by show Blk _ _ _ _;rw [hW0,hg];exact Blk.new V0 _ _
 have hbw:Below V0.heap.size V0 W0:=by rw [hW0];exact below_new V0 _
 have HB0:Hid (Below w.heap.size w W0):=hbv.trans (hbw.mono hbv.size)
 have HOP0:Hid (Blk W0 go 36 [.int .i64 14,.string (strOf path),.string (strOf dest),.int .i64 fd,.int .i64 at_,.int .i64 n,.int .u64 (till:Nat),.int .i64 snap,.slice A0 data.length c0]):=HOP.out.below hbw HOP.out.lt
 have HGG:Hid (w.heap.size≤g):=by show _≤_;rw [hg];exact hbv.size
 have HNG:Hid (¬ StS p B1 B2 D g):=fun h9=>by
  have:=h.lt h9
  have h8:w.heap.size≤g:=HGG.out
  omega
 have HN0:Hid (Nw p (.pointer (some tp)) (.pointer (some sp)) qs w (StS p B1 B2 D) B1 B2 D s W0):=(Nw.start h).later HB0.out
 have HO:=Lib.hid hO
 have HSN:=Lib.hid hs
 have HKA:=Lib.hid hK
 clear hs hK
 clear h hO hbv hbw HOP
 have o0:=HOP0.out.cell 0
 have o1:=HOP0.out.cell 1
 have o2:=HOP0.out.cell 2
 have o3:=HOP0.out.cell 3
 have o4:=HOP0.out.cell 4
 have o5:=HOP0.out.cell 5
 have o6:=HOP0.out.cell 6
 have o7:=HOP0.out.cell 7
 have o8:=HOP0.out.cell 8
 go_enter Tryz.func15,Tryz.ntmps15
 go_upto_region 1 with (fail)
 unfold opV
 dsimp only
 rw [← hV0,← hW0,← hgo,show go+1=g by rw [hg,hV0,World.size_alloc,hgo]]
 clear hV0 hgo hW0 hg
 go_wp2_with fail
 refine (HPA.out W0).mono ?_
 intro e w1 hpa
 obtain ⟨A,c,A2,c2,rfl,hw1,hw2,hb1⟩:=HPP.out _ _ _ hpa
 have HZ1:Hid (Blk w1 g 33 [.int .i64 0,.int .i64 0,.slice none 0 0,.slice none 0 0,.int .i64 0,.int .i64 0,.int .i64 0,.int .i64 0,.int .u64 0,.bool false]):=HZ0.out.below hb1 HZ0.out.lt
 have HN1:Hid (Nw p (.pointer (some tp)) (.pointer (some sp)) qs w (StS p B1 B2 D) B1 B2 D s w1):=HN0.out.later hb1
 have HB1:Hid (Below w.heap.size w w1):=HB0.out.trans (hb1.mono HB0.out.size)
 have HOP1:Hid (Blk w1 go 36 [.int .i64 14,.string (strOf path),.string (strOf dest),.int .i64 fd,.int .i64 at_,.int .i64 n,.int .u64 (till:Nat),.int .i64 snap,.slice A0 data.length c0]):=HOP0.out.below hb1 HOP0.out.lt
 have HW1:=Lib.hid hw1
 have HW2:=Lib.hid hw2
 clear hpa hw1 hw2 hb1 HPA HPP HZ0 HN0 HOP0 HB0 o0 o1 o2 o3 o4 o5 o6 o7 o8
 have o0:=HOP1.out.cell 0
 by_cases hc:pc=0
 rotate_left
 ·have hci:((pc:Int)==0)=false:=by rw [beq_eq_false_iff_ne];omega
  have HQ:Hid (St.do_ s ⟨14,path,dest,fd,at_,n,till,snap,data⟩=(St.no pc,s)):=by show _=_;rw [HDO.out,if_pos hc]
  clear hc HDO
  obtain⟨g0,e0,g1,e1,g2,e2,g3,e3,g4,e4,g5,e5,g6,e6,g7,e7,g8,e8,g9,e9⟩:=cells10 HZ1.out
  go_wp2_with fail
  refine bodyPost_ret (results_blk rfl _ _ g 33 (repL (pc:Nat) 0) _ rfl (set10_blk HZ1.out _ _ _ _ _ _ _ _ _ _) rfl rfl rfl) rfl ?_
  refine DoAns.of_turns (by rw [HQ.out];exact plain_no _) ?_
  rw [HQ.out]
  exact (HN1.out.poke (set10_mod _ _ _ _ _ _ _ _ _ _ _ _) HNG.out HGG.out).done _
 subst hc
 have HQ:Hid (St.do_ s ⟨14,path,dest,fd,at_,n,till,snap,data⟩=(⟨(Sn.take s.snaps s.tree).1.2,(Sn.take s.snaps s.tree).1.1,[],[],Nd.zero⟩,{ s with snaps:=(Sn.take s.snaps s.tree).2 })):=HDO.out
 clear HDO
 have HM:=Lib.hid (take_in HN1.out.in_ HO.out HSN.out (HKA.out.below HB1.out HKA.out.pos))
 obtain ⟨re,hre⟩:∃ re,re=((⟨(Sn.take s.snaps s.tree).1.2,(Sn.take s.snaps s.tree).1.1,[],[],Nd.zero⟩:St.Rep)).err:=⟨_,rfl⟩
 obtain ⟨rn,hrn⟩:∃ rn,rn=((⟨(Sn.take s.snaps s.tree).1.2,(Sn.take s.snaps s.tree).1.1,[],[],Nd.zero⟩:St.Rep)).n:=⟨_,rfl⟩
 have HRE:Hid (re=((⟨(Sn.take s.snaps s.tree).1.2,(Sn.take s.snaps s.tree).1.1,[],[],Nd.zero⟩:St.Rep)).err∧rn=((⟨(Sn.take s.snaps s.tree).1.2,(Sn.take s.snaps s.tree).1.1,[],[],Nd.zero⟩:St.Rep)).n):=⟨hre,hrn⟩
 rw [show (Sn.take s.snaps s.tree).1.2=re from hre.symm,show (Sn.take s.snaps s.tree).1.1=rn from hrn.symm] at HM
 clear hre hrn
 go_wp2_with fail
 refine HM.out.mono ?_
 rintro e w2 ⟨rfl,S2,h21,h22,h23⟩
 have HZ2:Hid (Blk w2 g 33 [.int .i64 0,.int .i64 0,.slice none 0 0,.slice none 0 0,.int .i64 0,.int .i64 0,.int .i64 0,.int .i64 0,.int .u64 0,.bool false]):=(h22.block g HZ1.out.lt HNG.out).trans HZ1.out
 have HEND:Hid (∀ w3,Mod w2 w3 (fun b=>b=g)→Ob.Turns stobj (.pointer (some ⟨p,0,none⟩)) _ (rep0 (re:Nat) rn) (StS p B1 B2 D) w (.returned (rep0 (re:Nat) rn)) w3):=fun w3 hp =>
  on_done h21 HN1.out.mod h22 HN1.out.sub h23 hp (fun h9=>(h23 g h9).elim HNG.out (fun h8=>by have:=HZ1.out.lt;omega)) HGG.out
 unfold rep0
 clear h21 h22 h23 HM o0
 obtain⟨g0,e0,g1,e1,g2,e2,g3,e3,g4,e4,g5,e5,g6,e6,g7,e7,g8,e8,g9,e9⟩:=cells10 HZ2.out
 go_wp2_with fail
 refine bodyPost_ret (results_blk rfl _ _ g 33 (repL (re:Nat) rn) _ rfl (set10_blk HZ2.out _ _ _ _ _ _ _ _ _ _) rfl rfl rfl) rfl ?_
 refine DoAns.of_turns (by rw [HQ.out];exact ⟨rfl,rfl,rfl⟩) ?_
 rw [HQ.out]
 obtain ⟨h91,h92⟩:=HRE.out
 subst h91 h92
 exact HEND.out _ (set10_mod _ _ _ _ _ _ _ _ _ _ _ _)
end Sm
end Go.Proofs.YtbnpgakmhhfjkaaGreatDoor
