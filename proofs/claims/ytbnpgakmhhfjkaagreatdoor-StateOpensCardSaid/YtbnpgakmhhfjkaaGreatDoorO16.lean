/-
  OWN WORK. StCreate, StOpenI, PtSplit, StPaths, StTake, StDoA, StRep, StClose, StKeep
-/
import Derived.Test.YtbnpgakmhhfjkaaGreatDoorO15
import Derived.Test.YtbnpgakmhhfjkaaGreatDoorO04
import Derived.OwnWalk
import Derived.Test.YtbnpgakmhhfjkaaGreatDoorO01
import Derived.Test.YtbnpgakmhhfjkaaGreatDoorO13
namespace Go.Proofs.YtbnpgakmhhfjkaaGreatDoor
open Go.RowKit Rc
open Tr (Nm En T)
open Tm (tobj)
open Sn (sobj)
open St (alone)
namespace Sm
variable {p:Nat} {tv sv:Value} {qs:List Value} {B1 B2 D:Nat→Prop} {s:St.State} {w w':World}
theorem leastI_none {l:List St.Fd} (h:St.least l=none):leastI l=-1:=by unfold leastI;rw [h]
theorem leastI_some {l:List St.Fd} {k:Nat} (h:St.least l=some k):leastI l=k:=by unfold leastI;rw [h]
set_option maxHeartbeats 4000000 in
set_option maxRecDepth 100000 in
theorem create_in (h:StIn p tv sv qs B1 B2 D s w) (hO:St.Ok s) {A:Option Addr} {q:List Bs} {cap:Nat} (hq:Way w A q cap) :
    Calls Tryz.prog 39 #[.pointer (some ⟨p,0,none⟩),.slice A q.length cap] w (Ob.Turns stobj (.pointer (some ⟨p,0,none⟩)) (St.create s q).2 (rep0 ((St.create s q).1.err:Nat) (St.create s q).1.n) (StS p B1 B2 D) w):=by
 obtain ⟨tp,rfl⟩:=tobj.ptr h.tr
 obtain ⟨W0,hW0⟩:∃ W0,W0=w.alloc (.cells #[.int .i64 0,.int .i64 0,.slice none 0 0,.slice none 0 0,.int .i64 0,.int .i64 0,.int .i64 0,.int .i64 0,.int .u64 0,.bool false] 33):=⟨_,rfl⟩
 obtain ⟨g,hg⟩:∃ g,g=w.heap.size:=⟨_,rfl⟩
 have HZ0:Hid (Blk W0 g 33 [.int .i64 0,.int .i64 0,.slice none 0 0,.slice none 0 0,.int .i64 0,.int .i64 0,.int .i64 0,.int .i64 0,.int .u64 0,.bool false]):=by show Blk _ _ _ _;rw [hW0,hg];exact Blk.new w _ _
 have HB0:Hid (Below w.heap.size w W0):=by show Below _ _ _;rw [hW0];exact below_new w _
 have HGG:Hid (g=w.heap.size):=hg
 have HNG:Hid (¬ StS p B1 B2 D g):=fun h9=>by
  have:=h.lt h9
  omega
 have HN0:Hid (Nw p (.pointer (some tp)) sv qs w (StS p B1 B2 D) B1 B2 D s W0):=(Nw.start h).later HB0.out
 have HLF:=Lib.hid (leastFree_any HN0.out.in_ hO.fds)
 have HO:=Lib.hid hO
 have HW:=Lib.hid hq
 clear h hO hq
 obtain ⟨le,hle⟩:∃ le,le=leastI s.fds:=⟨_,rfl⟩
 rw [← hle] at HLF
 have HLE:=Lib.hid hle
 clear hle
 go_enter Tryz.func39,Tryz.ntmps39
 go_upto_region 1 with (fail)
 rw [← hW0,← hg]
 clear hW0 hg
 go_wp2_with fail
 refine HLF.out.mono ?_
 rintro e w1 ⟨rfl,hb1⟩
 have HN1:Hid (Nw p (.pointer (some tp)) sv qs w (StS p B1 B2 D) B1 B2 D s w1):=HN0.out.later hb1
 have HZ1:Hid (Blk w1 g 33 [.int .i64 0,.int .i64 0,.slice none 0 0,.slice none 0 0,.int .i64 0,.int .i64 0,.int .i64 0,.int .i64 0,.int .u64 0,.bool false]):=HZ0.out.below hb1 HZ0.out.lt
 have HB1:Hid (Below w.heap.size w w1):=HB0.out.trans (hb1.mono HB0.out.size)
 clear hb1 HLF HN0 HZ0
 cases hls:St.least s.fds with
 | none =>
   have HCR:Hid (St.create s q=(St.no 25,s)):=by show _=_;unfold St.create;rw [hls]
   obtain rfl:le=-1:=HLE.out.trans (leastI_none hls)
   clear hls
   obtain⟨g0,e0,g1,e1,g2,e2,g3,e3,g4,e4,g5,e5,g6,e6,g7,e7,g8,e8,g9,e9⟩:=cells10 HZ1.out
   go_wp2_with fail
   refine bodyPost_ret (results_blk rfl _ _ g 33 (repL 25 0) _ rfl (set10_blk HZ1.out _ _ _ _ _ _ _ _ _ _) rfl rfl rfl) rfl ?_
   rw [HCR.out]
   exact (HN1.out.poke (set10_mod _ _ _ _ _ _ _ _ _ _ _ _) HNG.out (Nat.le_of_eq HGG.out.symm)).done _
 | some k =>
   obtain rfl:le=k:=HLE.out.trans (leastI_some hls)
   have HK:Hid (k<8):=by show k<8;rw [← HO.out.fds];exact St.least_lt hls
   have hnl:¬ ((k:Nat):Int)<0:=by omega
   obtain ⟨ei,hei⟩:∃ ei,ei=(Tr.make s.tree q 1).1.1:=⟨_,rfl⟩
   obtain ⟨ec,hec⟩:∃ ec,ec=(Tr.make s.tree q 1).1.2:=⟨_,rfl⟩
   have HCR:Hid (St.create s q=if ec≠0 then (St.no ec,{ s with tree:=(Tr.make s.tree q 1).2 }) else (St.num (k:Nat),{ s with tree:=(Tr.make s.tree q 1).2,fds:=s.fds.set k (.w ei) })):=by
    show _=_
    unfold St.create
    rw [hls,← hec,← hei]
   have HM:=Lib.hid (t_make HN1.out.in_.tr HO.out.tree 1 (HW.out.below HB1.out))
   rw [← hei,← hec] at HM
   have c0:w1.cell? ⟨p,0,none⟩=some (.pointer (some tp)):=HN1.out.in_.box.cell 0
   clear hls hei hec
   go_wp2_with fail
   refine HM.out.mono ?_
   intro e w2 ht
   have hmod:Mod w1 w2 B1:=by obtain ⟨_,_,_,h2,_⟩:=ht;exact h2
   obtain ⟨rfl,B1',hn2,hgr⟩:=HN1.out.turnT ht
   have HN2:=Lib.hid hn2
   have hngB:¬ B1 g:=fun h9=>HNG.out (.inr (.inl h9))
   have HZ2:Hid (Blk w2 g 33 [.int .i64 0,.int .i64 0,.slice none 0 0,.slice none 0 0,.int .i64 0,.int .i64 0,.int .i64 0,.int .i64 0,.int .u64 0,.bool false]):=(hmod.block g HZ1.out.lt hngB).trans HZ1.out
   have HNG2:Hid (¬ StS p B1' B2 D g):=fun h9=>by
    rcases hgr g h9 with h4|h4
    ·exact HNG.out h4
    ·have:=HZ1.out.lt
     omega
   have c0:w2.cell? ⟨p,0,none⟩=some (.pointer (some tp)):=HN2.out.in_.box.cell 0
   clear ht hmod hn2 hgr hngB HM
   by_cases hc:ec=0
   ·subst hc
    have HCR2:Hid (St.create s q=(St.num (k:Nat),{ s with tree:=(Tr.make s.tree q 1).2,fds:=s.fds.set k (.w ei) })):=HCR.out
    clear HCR
    obtain ⟨wd,hwd⟩:∃ wd,wd=w2.drew:=⟨_,rfl⟩
    have hbd:Below w2.heap.size w2 wd:=by rw [hwd];exact ⟨rfl,rfl,rfl,Nat.le_refl _,fun _ _=>rfl⟩
    have HND:Hid (Nw p (.pointer (some tp)) sv qs w (StS p B1 B2 D) B1' B2 D { s with tree:=(Tr.make s.tree q 1).2 } wd):=HN2.out.later hbd
    have HZD:Hid (Blk wd g 33 [.int .i64 0,.int .i64 0,.slice none 0 0,.slice none 0 0,.int .i64 0,.int .i64 0,.int .i64 0,.int .i64 0,.int .u64 0,.bool false]):=HZ2.out.below hbd HZ2.out.lt
    have HWD:=Lib.hid hwd
    clear hbd
    have hi:=HND.out.in_
    obtain ⟨_,_,_,_,_,_,x0,x1,x2⟩:=hi.fdOne HO.out.fds HK.out
    have y0:wd.frozen? ⟨p,3+k*3,none⟩=false:=hi.box.frozen _
    have y1:wd.frozen? ⟨p,3+k*3+1,none⟩=false:=hi.box.frozen _
    have y2:wd.frozen? ⟨p,3+k*3+2,none⟩=false:=hi.box.frozen _
    have HFL:Hid (k*3+3≤(fdCells (.pointer (some tp)) s.fds qs).length):=by
     have hk9:k<8:=HK.out
     have h3:s.fds.length=8:=HO.out.fds
     have h4:=fdCells_len (.pointer (some tp)) s.fds qs hi.len
     show k*3+3≤_
     omega
    have HN3:Hid (Nw p (.pointer (some tp)) sv (qs.set k (.pointer none)) w (StS p B1 B2 D) B1' B2 (fun x=>D x∨False) { s with tree:=(Tr.make s.tree q 1).2,fds:=s.fds.set k (.w ei) } (fdW wd p k (.pointer (some tp)) (.int .i64 ei) (.bool true))) :=
     HND.out.fd (f:=.w ei) (q:=.pointer none) (Bq:=fun _=>False) (by rw [show s.fds.length=8 from HO.out.fds];exact HK.out) (fdW_mod _ _ _ _ _ _) (fdW_blk hi.box HFL.out _ _ _) (fun b hb=>by cases hb) (fun x hx=>hx.elim)
    have HZ3:Hid (Blk (fdW wd p k (.pointer (some tp)) (.int .i64 ei) (.bool true)) g 33 [.int .i64 0,.int .i64 0,.slice none 0 0,.slice none 0 0,.int .i64 0,.int .i64 0,.int .i64 0,.int .i64 0,.int .u64 0,.bool false]) :=
     ((fdW_mod wd p k _ _ _).block g HZD.out.lt (fun e=>HNG2.out (.inl e))).trans HZD.out
    have HNG3:Hid (¬ StS p B1' B2 (fun x=>D x∨False) g):=fun h9=>HNG2.out (by
     rcases h9 with h9|h9|h9|h9
     ·exact .inl h9
     ·exact .inr (.inl h9)
     ·exact .inr (.inr (.inl h9))
     ·exact .inr (.inr (.inr (h9.resolve_right id))))
    clear hi
    obtain ⟨w3,hw3⟩:∃ w3,w3=fdW wd p k (.pointer (some tp)) (.int .i64 ei) (.bool true):=⟨_,rfl⟩
    rw [← hw3] at HN3 HZ3
    have HW3:=Lib.hid hw3
    clear hw3
    have hk8:((k:Nat):Int)<8:=by
     have hk9:k<8:=HK.out
     omega
    go_upto_region 7 with (fail)
    go_still_tail 11,(by kernel_rfl)
    change wpList _ _ _ _ _ w2.drew
    rw [← hwd]
    clear hwd
    go_upto_region 8 with (fail)
    rw [show ((wd.setCell ⟨p,3+k*3,none⟩ (.pointer (some tp))).setCell ⟨p,3+k*3+1,none⟩ (.int .i64 ei)).setCell ⟨p,3+k*3+2,none⟩ (.bool true)=w3 from HW3.out.symm]
    obtain⟨g0,e0,g1,e1,g2,e2,g3,e3,g4,e4,g5,e5,g6,e6,g7,e7,g8,e8,g9,e9⟩:=cells10 HZ3.out
    go_wp2_with fail
    refine bodyPost_ret (results_blk rfl _ _ g 33 (repL 0 (k:Nat)) _ rfl (set10_blk HZ3.out _ _ _ _ _ _ _ _ _ _) rfl rfl rfl) rfl ?_
    rw [HCR2.out]
    exact (HN3.out.poke (set10_mod _ _ _ _ _ _ _ _ _ _ _ _) HNG3.out (Nat.le_of_eq HGG.out.symm)).done _
   ·have hci:((ec:Int)==0)=false:=by rw [beq_eq_false_iff_ne];omega
    have HCR2:Hid (St.create s q=(St.no ec,{ s with tree:=(Tr.make s.tree q 1).2 })):=by show _=_;rw [HCR.out,if_pos hc]
    clear HCR hc
    obtain⟨g0,e0,g1,e1,g2,e2,g3,e3,g4,e4,g5,e5,g6,e6,g7,e7,g8,e8,g9,e9⟩:=cells10 HZ2.out
    go_wp2_with fail
    refine bodyPost_ret (results_blk rfl _ _ g 33 (repL (ec:Nat) 0) _ rfl (set10_blk HZ2.out _ _ _ _ _ _ _ _ _ _) rfl rfl rfl) rfl ?_
    rw [HCR2.out]
    exact (HN2.out.poke (set10_mod _ _ _ _ _ _ _ _ _ _ _ _) HNG2.out (Nat.le_of_eq HGG.out.symm)).done _
end Sm
end Go.Proofs.YtbnpgakmhhfjkaaGreatDoor
namespace Go.Proofs.YtbnpgakmhhfjkaaGreatDoor
open Go.RowKit Rc
open Tr (Nm En T)
open Tm (tobj)
open Sn (sobj)
open St (alone)
namespace Sm
variable {p:Nat} {tv sv:Value} {qs:List Value} {B1 B2 D:Nat→Prop} {s:St.State} {w w':World}
theorem lookN_size {t:T} (hG:Tr.Good t) (q:List Bs):0≤(St.lookN t q).1.size∧(St.lookN t q).1.size≤4096:=by
 have hz:0≤Nd.zero.size∧Nd.zero.size≤4096:=by decide
 unfold St.lookN
 split
 ·exact hz
 ·show 0≤(Tr.ndOf t _).size∧(Tr.ndOf t _).size≤4096
  cases h:Tr.find t (Tr.look t q).1 with
  | none=>unfold Tr.ndOf;rw [h];exact hz
  | some e =>
    rw [Tr.ndOf_of h]
    have:=(hG.each e (Tr.find_some h).1).nd
    unfold Nd.Right at this
    exact ⟨this.2.2.2.2.1,this.2.2.2.2.2.1⟩
set_option maxHeartbeats 4000000 in
set_option maxRecDepth 100000 in
theorem open_in (h:StIn p tv sv qs B1 B2 D s w) (hO:St.Ok s) {A:Option Addr} {q:List Bs} {cap:Nat} (hq:Way w A q cap) (k:Int) :
    Calls Tryz.prog 40 #[.pointer (some ⟨p,0,none⟩),.slice A q.length cap,.int .i64 k] w (Ob.Turns stobj (.pointer (some ⟨p,0,none⟩)) (St.openFile s q k).2 (rep0 ((St.openFile s q k).1.err:Nat) (St.openFile s q k).1.n) (StS p B1 B2 D) w):=by
 obtain ⟨tp,rfl⟩:=tobj.ptr h.tr
 obtain ⟨W0,hW0⟩:∃ W0,W0=w.alloc (.cells #[.int .i64 0,.int .i64 0,.slice none 0 0,.slice none 0 0,.int .i64 0,.int .i64 0,.int .i64 0,.int .i64 0,.int .u64 0,.bool false] 33):=⟨_,rfl⟩
 obtain ⟨g,hg⟩:∃ g,g=w.heap.size:=⟨_,rfl⟩
 have HZ0:Hid (Blk W0 g 33 [.int .i64 0,.int .i64 0,.slice none 0 0,.slice none 0 0,.int .i64 0,.int .i64 0,.int .i64 0,.int .i64 0,.int .u64 0,.bool false]):=by show Blk _ _ _ _;rw [hW0,hg];exact Blk.new w _ _
 have HB0:Hid (Below w.heap.size w W0):=by show Below _ _ _;rw [hW0];exact below_new w _
 have HGG:Hid (g=w.heap.size):=hg
 have HNG:Hid (¬ StS p B1 B2 D g):=fun h9=>by
  have:=h.lt h9
  omega
 have HN0:Hid (Nw p (.pointer (some tp)) sv qs w (StS p B1 B2 D) B1 B2 D s W0):=(Nw.start h).later HB0.out
 have HTA:=Lib.hid (treeAt_any HN0.out.in_ hO k)
 have HO:=Lib.hid hO
 have HW:=Lib.hid hq
 have HST:Hid (St.openFile s q k=match St.treeAt s k with
  | none=>(St.no 29,s)
  | some t=>match St.least s.fds with
    | none=>(St.no 25,s)
    | some f=>if (St.lookN t q).2≠0 then (St.no (St.lookN t q).2,s) else if (St.lookN t q).1.kind=2 then (St.no 22,s) else if (St.lookN t q).1.shut=false then (St.no 25,s)
      else (St.num f,{ s with fds:=s.fds.set f (.r (Tr.read t (St.lookN t q).1.id 0 (St.lookN t q).1.size).1) })):=rfl
 clear h hO hq
 go_enter Tryz.func40,Tryz.ntmps40
 go_upto_region 1 with (fail)
 rw [← hW0,← hg]
 clear hW0 hg
 go_wp2_with fail
 refine HTA.out.mono ?_
 rintro e w1 ⟨hb1,hcase⟩
 have HZ1:Hid (Blk w1 g 33 [.int .i64 0,.int .i64 0,.slice none 0 0,.slice none 0 0,.int .i64 0,.int .i64 0,.int .i64 0,.int .i64 0,.int .u64 0,.bool false]):=HZ0.out.below hb1 HZ0.out.lt
 have HB1:Hid (Below w.heap.size w w1):=HB0.out.trans (hb1.mono HB0.out.size)
 have HN1:Hid (Nw p (.pointer (some tp)) sv qs w (StS p B1 B2 D) B1 B2 D s w1):=HN0.out.later hb1
 clear hb1 HTA HZ0 HN0
 rcases hcase with ⟨t,pp,B,ht,rfl,hT⟩|⟨ht,rfl⟩
 ·have HG:Hid (Tr.Good t):=(St.treeAt_ok HO.out ht).1
  have HT:=Lib.hid hT
  have HS2:Hid (St.openFile s q k=match St.least s.fds with
   | none=>(St.no 25,s)
   | some f=>if (St.lookN t q).2≠0 then (St.no (St.lookN t q).2,s) else if (St.lookN t q).1.kind=2 then (St.no 22,s) else if (St.lookN t q).1.shut=false then (St.no 25,s)
     else (St.num f,{ s with fds:=s.fds.set f (.r (Tr.read t (St.lookN t q).1.id 0 (St.lookN t q).1.size).1) })):=by show _=_;rw [HST.out,ht]
  have HLF:=Lib.hid (leastFree_any HN1.out.in_ HO.out.fds)
  obtain ⟨le,hle⟩:∃ le,le=leastI s.fds:=⟨_,rfl⟩
  rw [← hle] at HLF
  have HLE:=Lib.hid hle
  clear ht hT HST hle
  go_wp2_with fail
  refine HLF.out.mono ?_
  rintro e w2 ⟨rfl,hb2⟩
  have HZ2:Hid (Blk w2 g 33 [.int .i64 0,.int .i64 0,.slice none 0 0,.slice none 0 0,.int .i64 0,.int .i64 0,.int .i64 0,.int .i64 0,.int .u64 0,.bool false]):=HZ1.out.below hb2 HZ1.out.lt
  have HB2:Hid (Below w.heap.size w w2):=HB1.out.trans (hb2.mono HB1.out.size)
  have HN2:Hid (Nw p (.pointer (some tp)) sv qs w (StS p B1 B2 D) B1 B2 D s w2):=HN1.out.later hb2
  have HT2:Hid (tobj.At (.pointer (some pp)) t B w2):=tobj.keep HT.out hb2.size (fun b hb=>hb2.block b (tobj.lt HT.out b hb))
  clear hb2 HLF HZ1 HN1 HT
  cases hls:St.least s.fds with
  | none =>
    have HQ:Hid (St.openFile s q k=(St.no 25,s)):=by show _=_;rw [HS2.out,hls]
    obtain rfl:le=-1:=HLE.out.trans (leastI_none hls)
    clear hls HS2
    obtain⟨g0,e0,g1,e1,g2,e2,g3,e3,g4,e4,g5,e5,g6,e6,g7,e7,g8,e8,g9,e9⟩:=cells10 HZ2.out
    go_wp2_with fail
    refine bodyPost_ret (results_blk rfl _ _ g 33 (repL 25 0) _ rfl (set10_blk HZ2.out _ _ _ _ _ _ _ _ _ _) rfl rfl rfl) rfl ?_
    rw [HQ.out]
    exact (HN2.out.poke (set10_mod _ _ _ _ _ _ _ _ _ _ _ _) HNG.out (Nat.le_of_eq HGG.out.symm)).done _
  | some f =>
    obtain rfl:le=f:=HLE.out.trans (leastI_some hls)
    have HK:Hid (f<8):=by show f<8;rw [← HO.out.fds];exact St.least_lt hls
    have hnl:¬ ((f:Nat):Int)<0:=by omega
    obtain ⟨nd,hnd⟩:∃ nd,nd=(St.lookN t q).1:=⟨_,rfl⟩
    obtain ⟨lc,hlc⟩:∃ lc,lc=(St.lookN t q).2:=⟨_,rfl⟩
    have HS3:Hid (St.openFile s q k=if lc≠0 then (St.no lc,s) else if nd.kind=2 then (St.no 22,s) else if nd.shut=false then (St.no 25,s) else (St.num f,{ s with fds:=s.fds.set f (.r (Tr.read t nd.id 0 nd.size).1) })):=by show _=_;rw [HS2.out,hls,hnd,hlc]
    have hLK:=look_any HT2.out HG.out (HW.out.below HB2.out)
    rw [← hnd,← hlc] at hLK
    have hsz:=lookN_size HG.out q
    rw [← hnd] at hsz
    obtain ⟨n1,n2,n3,n4,n5,n6⟩:=nd
    have HSZ:Hid (-9223372036854775808≤n4∧n4≤9223372036854775807):=by
     have h9:0≤n4∧n4≤4096:=hsz
     exact ⟨by omega,by omega⟩
    clear hsz
    have HLK:Hid (Calls Tryz.prog 96 #[.pointer (some pp),.slice A q.length cap] w2 fun e w'=>e=.returned (.tuple #[.agg #[.int .i64 n1,.int .i64 n2,.int .i64 n3,.int .i64 n4,.int .u64 (n5:Nat),.bool n6],.int .i64 (lc:Nat)])∧Below w2.heap.size w2 w'):=hLK
    clear hls hnd hlc hLK HS2
    dsimp only at HS3
    go_wp2_with fail
    refine HLK.out.mono ?_
    rintro e w3 ⟨rfl,hb3⟩
    obtain ⟨W4,hW4⟩:∃ W4,W4=w3.alloc (.cells #[.int .i64 n1,.int .i64 n2,.int .i64 n3,.int .i64 n4,.int .u64 (n5:Nat),.bool n6] 31):=⟨_,rfl⟩
    obtain ⟨g2,hg2⟩:∃ g2,g2=w3.heap.size:=⟨_,rfl⟩
    have HD4:Hid (Blk W4 g2 31 [.int .i64 n1,.int .i64 n2,.int .i64 n3,.int .i64 n4,.int .u64 (n5:Nat),.bool n6]):=by show Blk _ _ _ _;rw [hW4,hg2];exact Blk.new w3 _ _
    have hb4:Below w2.heap.size w2 W4:=hb3.trans ((show Below w3.heap.size w3 W4 by rw [hW4];exact below_new w3 _).mono hb3.size)
    have HZ4:Hid (Blk W4 g 33 [.int .i64 0,.int .i64 0,.slice none 0 0,.slice none 0 0,.int .i64 0,.int .i64 0,.int .i64 0,.int .i64 0,.int .u64 0,.bool false]):=HZ2.out.below hb4 HZ2.out.lt
    have HN4:Hid (Nw p (.pointer (some tp)) sv qs w (StS p B1 B2 D) B1 B2 D s W4):=HN2.out.later hb4
    have HT4:Hid (tobj.At (.pointer (some pp)) t B W4):=tobj.keep HT2.out hb4.size (fun b hb=>hb4.block b (tobj.lt HT2.out b hb))
    clear hb3 hb4 HLK HZ2 HN2 HT2 HB2
    go_upto_region 8 with (fail)
    rw [← hW4,← hg2]
    clear hW4 hg2
    have d0:=HD4.out.cell 0
    have d1:=HD4.out.cell 1
    have d3:=HD4.out.cell 3
    have d5:=HD4.out.cell 5
    by_cases hc:lc=0
    ·subst hc
     have HS4:Hid (St.openFile s q k=if n2=2 then (St.no 22,s) else if n6=false then (St.no 25,s) else (St.num f,{ s with fds:=s.fds.set f (.r (Tr.read t n1 0 n4).1) })):=HS3.out
     clear HS3
     by_cases hk2:n2=2
     ·have HQ:Hid (St.openFile s q k=(St.no 22,s)):=by show _=_;rw [HS4.out,if_pos hk2]
      subst hk2
      clear HS4
      obtain⟨g0,e0,g1,e1,g2,e2,g3,e3,g4,e4,g5,e5,g6,e6,g7,e7,g8,e8,g9,e9⟩:=cells10 HZ4.out
      go_wp2_with fail
      refine bodyPost_ret (results_blk rfl _ _ g 33 (repL 22 0) _ rfl (set10_blk HZ4.out _ _ _ _ _ _ _ _ _ _) rfl rfl rfl) rfl ?_
      rw [HQ.out]
      exact (HN4.out.poke (set10_mod _ _ _ _ _ _ _ _ _ _ _ _) HNG.out (Nat.le_of_eq HGG.out.symm)).done _
     ·have hk2i:(n2==2)=false:=by rw [beq_eq_false_iff_ne];exact hk2
      have HS5:Hid (St.openFile s q k=if n6=false then (St.no 25,s) else (St.num f,{ s with fds:=s.fds.set f (.r (Tr.read t n1 0 n4).1) })):=by show _=_;rw [HS4.out,if_neg hk2]
      clear hk2 HS4
      cases n6 with
      | false =>
        have HQ:Hid (St.openFile s q k=(St.no 25,s)):=HS5.out
        clear HS5
        obtain⟨g0,e0,g1,e1,g2,e2,g3,e3,g4,e4,g5,e5,g6,e6,g7,e7,g8,e8,g9,e9⟩:=cells10 HZ4.out
        go_wp2_with fail
        refine bodyPost_ret (results_blk rfl _ _ g 33 (repL 25 0) _ rfl (set10_blk HZ4.out _ _ _ _ _ _ _ _ _ _) rfl rfl rfl) rfl ?_
        rw [HQ.out]
        exact (HN4.out.poke (set10_mod _ _ _ _ _ _ _ _ _ _ _ _) HNG.out (Nat.le_of_eq HGG.out.symm)).done _
      | true =>
        obtain ⟨l,hl⟩:∃ l,l=(Tr.read t n1 0 n4).1:=⟨_,rfl⟩
        obtain ⟨rc,hrc⟩:∃ rc,rc=(Tr.read t n1 0 n4).2:=⟨_,rfl⟩
        have HQ:Hid (St.openFile s q k=(St.num f,{ s with fds:=s.fds.set f (.r l) })):=by show _=_;rw [hl];exact HS5.out
        have HLS:Hid (l.length≤4096):=by show _≤_;rw [hl];exact Tr.read_short HG.out _ _ _
        have HM:=Lib.hid (t_read HT4.out HG.out n1 0 n4 (by decide) HSZ.out)
        rw [← hl,← hrc] at HM
        clear hl hrc HS5
        go_wp2_with fail
        refine HM.out.mono ?_
        rintro e w5 ⟨x,rfl,hf,hb5⟩
        obtain ⟨X,c,rfl,_,hrd,_⟩:=hf.form
        obtain ⟨wd,hwd⟩:∃ wd,wd=w5.drew:=⟨_,rfl⟩
        have hbd:Below w5.heap.size w5 wd:=by rw [hwd];exact below_drew w5
        have hb5d:Below W4.heap.size W4 wd:=hb5.trans (hbd.mono hb5.size)
        have HN5:Hid (Nw p (.pointer (some tp)) sv qs w (StS p B1 B2 D) B1 B2 D s wd):=HN4.out.later hb5d
        have HZ5:Hid (Blk wd g 33 [.int .i64 0,.int .i64 0,.slice none 0 0,.slice none 0 0,.int .i64 0,.int .i64 0,.int .i64 0,.int .i64 0,.int .u64 0,.bool false]):=HZ4.out.below hb5d HZ4.out.lt
        have HAL:=Lib.hid (alone_any X l c (hrd.below hbd) HLS.out)
        clear hf hb5 hrd hbd hb5d HM d0 d1 d3 d5
        have hk8:((f:Nat):Int)<8:=by
         have hk9:f<8:=HK.out
         omega
        have HAFT:Hid (∀ q9 B9 w6,tobj.At (.pointer (some ⟨q9,0,none⟩)) (alone l) B9 w6→Below wd.heap.size wd w6→(∀ x,B9 x→wd.heap.size≤x) →
         (∃ x0 x1 x2,w6.cell? ⟨p,3+f*3,none⟩=some x0∧w6.cell? ⟨p,3+f*3+1,none⟩=some x1∧w6.cell? ⟨p,3+f*3+2,none⟩=some x2)∧(w6.frozen? ⟨p,3+f*3,none⟩=false∧w6.frozen? ⟨p,3+f*3+1,none⟩=false∧w6.frozen? ⟨p,3+f*3+2,none⟩=false) ∧
         Hid (Nw p (.pointer (some tp)) sv (qs.set f (.pointer (some ⟨q9,0,none⟩))) w (StS p B1 B2 D) B1 B2 (fun x=>D x∨B9 x) { s with fds:=s.fds.set f (.r l) } (fdW w6 p f (.pointer (some ⟨q9,0,none⟩)) (.int .i64 1) (.bool false))) ∧
         Hid (Blk (fdW w6 p f (.pointer (some ⟨q9,0,none⟩)) (.int .i64 1) (.bool false)) g 33 [.int .i64 0,.int .i64 0,.slice none 0 0,.slice none 0 0,.int .i64 0,.int .i64 0,.int .i64 0,.int .i64 0,.int .u64 0,.bool false])∧Hid (¬ StS p B1 B2 (fun x=>D x∨B9 x) g)):=fun q9 B9 w6 h1 h2 h3=>by
         have hN6:=HN5.out.later h2
         have hi:=hN6.in_
         have hi5:=HN5.out.in_
         obtain ⟨_,_,_,_,_,_,x0,x1,x2⟩:=hi.fdOne HO.out.fds HK.out
         have hk9:f<8:=HK.out
         have hf8:s.fds.length=8:=HO.out.fds
         have h4:=fdCells_len (.pointer (some tp)) s.fds qs hi.len
         have hgp:g≠p:=fun e=>HNG.out (.inl e)
         refine ⟨⟨_,_,_,x0,x1,x2⟩,⟨hi.box.frozen _,hi.box.frozen _,hi.box.frozen _⟩,?_,?_,?_⟩
         ·exact hN6.fd (f:=.r l) (q:=.pointer (some ⟨q9,0,none⟩)) (Bq:=B9) (by omega) (fdW_mod _ _ _ _ _ _) (fdW_blk hi.box (by omega) _ _ _) (fun b hb=>by cases hb;exact h1) (fun x hx=>by
           have h9:=h3 x hx
           refine ⟨Nat.le_trans HN5.out.mod.size h9,fun e=>?_,fun e=>?_,fun e=>?_,tobj.lt h1 x hx⟩
           ·have:=hi5.box.lt;omega
           ·have:=tobj.lt hi5.tr x e;omega
           ·have:=sobj.lt hi5.sn x e;omega)
         ·exact ((fdW_mod w6 p f _ _ _).block g (Nat.lt_of_lt_of_le HZ5.out.lt h2.size) hgp).trans (HZ5.out.below h2 HZ5.out.lt)
         ·intro h9
          rcases h9 with h9|h9|h9|h9|h9
          ·exact HNG.out (.inl h9)
          ·exact HNG.out (.inr (.inl h9))
          ·exact HNG.out (.inr (.inr (.inl h9)))
          ·exact HNG.out (.inr (.inr (.inr h9)))
          ·have:=h3 g h9
           have:=HZ5.out.lt
           omega
        clear HN5 HZ5 HN4 HZ4 HD4 HT4
        go_upto_region 15 with (fail)
        go_region_with (go_at_call 97;change Calls _ _ _ w5.drew _;rw [← hwd];refine HAL.out.mono ?_;rintro e w6 ⟨q9,B9,rfl,h61,h62,h63⟩;obtain ⟨⟨x0,x1,x2,c0,c1,c2⟩,⟨y0,y1,y2⟩,HNF,HZF,HNGF⟩:=HAFT.out q9 B9 w6 h61 h62 h63;clear h61 h62 h63)
        all_goals
         obtain ⟨w7,hw7⟩:∃ w7,w7=fdW w6 p f (.pointer (some ⟨q9,0,none⟩)) (.int .i64 1) (.bool false):=⟨_,rfl⟩
         rw [← hw7] at HNF HZF
         have hw8:((w6.setCell ⟨p,3+f*3,none⟩ (.pointer (some ⟨q9,0,none⟩))).setCell ⟨p,3+f*3+1,none⟩ (.int .i64 1)).setCell ⟨p,3+f*3+2,none⟩ (.bool false)=w7:=hw7.symm
         rw [hw8]
         clear hw7 hw8 c0 c1 c2 y0 y1 y2 HAFT HAL
         obtain⟨g0,e0,g1,e1,g2,e2,g3,e3,g4,e4,g5,e5,g6,e6,g7,e7,g8,e8,g9,e9⟩:=cells10 HZF.out
         go_wp2_with fail
         refine bodyPost_ret (results_blk rfl _ _ g 33 (repL 0 (f:Nat)) _ rfl (set10_blk HZF.out _ _ _ _ _ _ _ _ _ _) rfl rfl rfl) rfl ?_
         rw [HQ.out]
         exact (HNF.out.poke (set10_mod _ _ _ _ _ _ _ _ _ _ _ _) HNGF.out (Nat.le_of_eq HGG.out.symm)).done _
    ·have hci:((lc:Int)==0)=false:=by rw [beq_eq_false_iff_ne];omega
     have HQ:Hid (St.openFile s q k=(St.no lc,s)):=by show _=_;rw [HS3.out,if_pos hc]
     clear hc HS3
     obtain⟨g0,e0,g1,e1,g2,e2,g3,e3,g4,e4,g5,e5,g6,e6,g7,e7,g8,e8,g9,e9⟩:=cells10 HZ4.out
     go_wp2_with fail
     refine bodyPost_ret (results_blk rfl _ _ g 33 (repL (lc:Nat) 0) _ rfl (set10_blk HZ4.out _ _ _ _ _ _ _ _ _ _) rfl rfl rfl) rfl ?_
     rw [HQ.out]
     exact (HN4.out.poke (set10_mod _ _ _ _ _ _ _ _ _ _ _ _) HNG.out (Nat.le_of_eq HGG.out.symm)).done _
 ·have HQ:Hid (St.openFile s q k=(St.no 29,s)):=by show _=_;rw [HST.out,ht]
  clear ht HST
  obtain⟨g0,e0,g1,e1,g2,e2,g3,e3,g4,e4,g5,e5,g6,e6,g7,e7,g8,e8,g9,e9⟩:=cells10 HZ1.out
  go_wp2_with fail
  refine bodyPost_ret (results_blk rfl _ _ g 33 (repL 29 0) _ rfl (set10_blk HZ1.out _ _ _ _ _ _ _ _ _ _) rfl rfl rfl) rfl ?_
  rw [HQ.out]
  exact (HN1.out.poke (set10_mod _ _ _ _ _ _ _ _ _ _ _ _) HNG.out (Nat.le_of_eq HGG.out.symm)).done _
end Sm
end Go.Proofs.YtbnpgakmhhfjkaaGreatDoor
namespace Go.Proofs.YtbnpgakmhhfjkaaGreatDoor
open Go.RowKit
def Plain (t:Bs) (k:Nat):Prop:=1≤k∧k≤t.length∧∀ (j:Nat) (c:UInt8),1≤j→j<k→t[j]?=some c→c≠47
theorem Plain.step {t:Bs} {k:Nat} {c:UInt8} (h:Plain t k) (hk:t[k]?=some c) (hc:c≠47):Plain t (k+1):=by
 refine ⟨by omega,(List.getElem?_eq_some_iff.1 hk).1,fun j d h1 hj hd=>?_⟩
 rcases Nat.lt_or_ge j k with h2|h2
 ·exact h.2.2 j d h1 h2 hd
 ·obtain rfl:j=k:=by omega
  rw [hk] at hd
  cases hd
  exact hc
theorem byte_ne {c:UInt8} {k:Nat} (h:c.toNat≠k) (hk:k<256):c≠UInt8.ofNat k:=by
 intro e;subst e
 exact h (UInt8.toNat_ofNat_of_lt' hk)
set_option maxHeartbeats 1000000 in
set_option maxRecDepth 100000 in
theorem nameEnd_any (u:Bs) (w:World) (hl:u.length+1≤9223372036854775807):Calls Tryz.prog 148 #[.string (strOf (47 :: u))] w fun e w' =>
    ∃ p r:Bs,u=p++r∧(∀ c ∈ p,c≠47)∧(r=[]∨∃ r',r=47 :: r')∧e=.returned (.int .i64 (1+p.length:Nat))∧w=w':=by
 obtain ⟨t,ht⟩:∃ t,t=47 :: u:=⟨_,rfl⟩
 rw [← ht]
 have HT:=Lib.hid ht
 have HL:Hid (t.length=u.length+1):=by show _=_;rw [ht];rfl
 have hl1:1≤t.length:=by rw [HL.out];omega
 have hl2:t.length≤9223372036854775807:=by rw [HL.out];exact hl
 have e0:=strOf_size t
 clear ht hl
 go_enter Tryz.func148,Tryz.ntmps148
 go_wp2
 go_loopw [3] (fun t3 wr=>∃ k:Nat,t3=.int .i64 k∧Hid (Plain t k)∧wr=w) (fun t3 _=>t.length-(match t3 with|.int _ k=>k.toNat|_=>0))
 case atStart=>exact ⟨1,rfl,⟨Nat.le_refl _,hl1,fun j c h1 h2=>by omega⟩,rfl⟩
 case round =>
  obtain ⟨k,rfl,HP,rfl⟩:=hrel
  have fin:(k=u.length+1∨(47 :: u)[k]?=some 47)→Hid (∃ p r:Bs,u=p++r∧(∀ c ∈ p,c≠47)∧(r=[]∨∃ r',r=47 :: r')∧1+p.length=k):=fun h=>by
   have hp:=HP.out
   rw [HT.out] at hp
   exact Pa.part_at hp.1 hp.2.1 hp.2.2 h
  by_cases hk:k<t.length
  ·obtain ⟨c,hc⟩:∃ c,t[k]?=some c:=⟨_,List.getElem?_eq_getElem hk⟩
   have hix:=fun wx=>str_at hc wx
   have HC:=Lib.hid hc
   clear hc
   obtain ⟨n,hn⟩:∃ n,n=c.toNat:=⟨_,rfl⟩
   rw [← hn] at hix
   by_cases h47:n=47
   ·have HE:=fin (.inr (by rw [← HT.out,HC.out,← UInt8.toNat_inj.1 (show c.toNat=(47:UInt8).toNat by rw [← hn,h47];rfl)]))
    clear fin hn
    subst h47
    go_wp2
    go_ret
    obtain ⟨p,r,h1,h2,h3,h4⟩:=HE.out
    exact ⟨p,r,h1,h2,h3,by rw [h4];rfl,rfl⟩
   ·have hne:c≠47:=byte_ne (k:=47) (by rw [← hn];exact h47) (by decide)
    have HP2:Hid (Plain t (k+1)):=HP.out.step HC.out hne
    have e47:((n:Int)==47)=false:=by simp;omega
    clear fin hn
    go_wp2
    go_roundw
    case rel=>exact ⟨k+1,rfl,HP2.out,by first|rfl|trivial⟩
    case measure=>simp;omega
  ·have hkt:k=u.length+1:=by have:=HP.out.2.1;rw [← HL.out];omega
   have HE:=fin (.inl hkt)
   clear fin hkt
   go_wp2
   go_ret
   obtain ⟨p,r,h1,h2,h3,h4⟩:=HE.out
   exact ⟨p,r,h1,h2,h3,by rw [h4];rfl,rfl⟩
def SAns (s:Bs) (w:World) (e:Ending) (w':World):Prop:=∃ (ns:List Bs) (A:Option Addr) (c k:Nat),e=.returned (.tuple #[.slice A ns.length c,.int .i64 k])∧ns.length≤c∧RdS w' A ns∧(ns,k)=Pa.split 8 s∧Below w.heap.size w w'
theorem SAns.no {s:Bs} {w:World} {k:Nat} {e:Ending} (h:Pa.split 8 s=([],k)) (he:e=.returned (.tuple #[.slice none 0 0,.int .i64 k])):SAns s w e w:=⟨[],none,0,k,he,Nat.le_refl _,RdS.nil _ _,h.symm,Below.refl _ _⟩
theorem SAns.no2 {s:Bs} {w wr:World} {k:Nat} {e:Ending} (h:Pa.split 8 s=([],k)) (hb:Below w.heap.size w wr) (he:e=.returned (.tuple #[.slice none 0 0,.int .i64 k])):SAns s w e wr:=⟨[],none,0,k,he,Nat.le_refl _,RdS.nil _ _,h.symm,hb⟩
theorem nameEnd_at {t u:Bs} (ht:t=47 :: u) (w:World) (hl:t.length≤9223372036854775807):Calls Tryz.prog 148 #[.string (strOf t)] w fun e w' =>
    ∃ p r:Bs,u=p++r∧(∀ c ∈ p,c≠47)∧(r=[]∨∃ r',r=47 :: r')∧e=.returned (.int .i64 (1+p.length:Nat))∧w=w':=by
 subst ht
 exact nameEnd_any u w hl
def SIn (s0 t:Bs) (w wr:World) (v:Value) (long:Bool):Prop:=∃ c,Pa.Parts s0 t c∧long=decide (8<c.length)∧TAt w.heap.size v (c.take 8) w wr
set_option maxHeartbeats 4000000 in
set_option maxRecDepth 100000 in
theorem split_any (s:Bs) (w:World) (hl:s.length≤9223372036854775807):Calls Tryz.prog 93 #[.string (strOf s)] w (SAns s w):=by
 have e0:=strOf_size s
 by_cases h0:s=[]
 ·subst h0
  go_enter Tryz.func93,Tryz.ntmps93
  go_wp2
  go_ret2
  exact SAns.no (k:=12) rfl rfl
 obtain ⟨c0,u,hs⟩:∃ c u,s=c :: u:=by
  cases s with
  | nil=>exact absurd rfl h0
  | cons c u=>exact ⟨c,u,rfl⟩
 have hix:=fun wx=>str_at0 (l:=s) (c:=c0) (by rw [hs];rfl) wx
 have HS:=Lib.hid hs
 have hp:0<s.length:=List.length_pos_iff.2 h0
 clear hs
 have hlen0:((s.length:Int)==0)=false:=by simp;omega
 by_cases h47:c0.toNat=47
 ·obtain rfl:c0=47:=UInt8.toNat_inj.1 h47
  have hix2:∀ wx,(Instr.index 9 (.string (strOf s)) (.int .i64 0)).run Tryz.prog wx=.ok (.int .u8 47) wx:=hix
  clear hix h47
  by_cases hu:u=[]
  ·have hl1:((s.length:Int)==1)=true:=by rw [HS.out,hu];rfl
   have HF:Hid (Pa.split 8 s=([],0)):=by show _=_;rw [HS.out,hu];rfl
   go_enter Tryz.func93,Tryz.ntmps93
   go_wp2
   go_ret2
   exact SAns.no (k:=0) HF.out rfl
  have hl1:((s.length:Int)==1)=false:=by
   have:s.length=u.length+1:=by rw [HS.out];rfl
   have:=List.length_pos_iff.2 hu
   simp;omega
  have H0:Hid (SIn s s w w (.slice none 0 0) false):=⟨[],by rw [HS.out];exact Pa.Parts.begin hu,rfl,TAt.nil w⟩
  go_enter Tryz.func93,Tryz.ntmps93
  go_wp2
  go_loopw [0,4,5] (fun t0 t4 t5 wr=>∃ (t:Bs) (b:Bool) (v:Value),t0=.string (strOf t)∧t5=.bool b∧t4=v∧t.length≤s.length∧Hid (SIn s t w wr v b)) (fun t0 _ _ _=>match t0 with|.string x=>x.size|_=>0)
  case atStart=>exact ⟨s,false,_,rfl,rfl,rfl,Nat.le_refl _,H0⟩
  case round =>
   obtain ⟨t,b,v,rfl,rfl,rfl,hts,HI⟩:=hrel
   obtain ⟨cs,hP,hb,hT⟩:=HI.out
   have HP:=Lib.hid hP
   have HB:=Lib.hid hT.later
   have HT:=Lib.hid hT
   have HD:=Lib.hid hb
   clear hP hT hb HI H0
   have et:=strOf_size t
   obtain ⟨q,hq⟩:∃ q,q=cs.take 8:=⟨_,rfl⟩
   have HQ:=Lib.hid hq
   rw [← hq] at HT
   clear hq
   obtain ⟨X,cap,rfl,hcap,_⟩:=HT.out.form
   by_cases ht:t=[]
   ·subst ht
    by_cases h8:8<cs.length
    ·obtain rfl:b=true:=by rw [HD.out];exact decide_eq_true h8
     have HF:Hid (Pa.split 8 s=([],3)):=by show _=_;rw [HP.out.done,if_neg (by omega)]
     go_wp2
     go_ret2
     exact SAns.no2 (k:=3) HF.out HB.out rfl
    ·obtain rfl:b=false:=by rw [HD.out];exact decide_eq_false h8
     have HF:Hid (Pa.split 8 s=(cs,0)):=by show _=_;rw [HP.out.done,if_pos (by omega)]
     have HQ2:Hid (q=cs):=by show _=_;rw [HQ.out,List.take_of_length_le (by omega)]
     go_wp2
     go_ret2
     obtain ⟨X2,cap2,hv,hc,hr⟩:=HT.out.form
     cases hv
     exact ⟨q,X,cap,0,rfl,hc,hr,by rw [HF.out,HQ2.out],HB.out⟩
   obtain ⟨x,hx⟩:=HP.out.form ht
   have htl:0<t.length:=List.length_pos_iff.2 ht
   have HX:=Lib.hid hx
   clear hx
   go_wp2_with fail
   refine (nameEnd_at HX.out _ (by omega)).mono ?_
   rintro e w1 ⟨p,r,hx,hp,hr,rfl,rfl⟩
   obtain ⟨m,hm⟩:∃ m,m=1+p.length:=⟨_,rfl⟩
   have htx:t=47 :: (p++r):=by rw [HX.out,hx]
   have hpm:p.length+1=m:=by omega
   have htm:t.length=m+r.length:=by rw [htx];simp;omega
   have hsl:∀ wx,(Instr.slice 9 (.string (strOf t)) (some (.int .i64 1)) (some (.int .i64 (m:Nat))) none).run Tryz.prog wx=.ok (.string (strOf p)) wx:=fun wx=>by
    have h:=str_lh t 1 m (by omega) (by omega) wx
    have e1:(t.drop 1).take (m-1)=p:=by rw [htx];simp [show m-1=p.length by omega]
    rw [e1] at h
    exact h
   have hsr:∀ wx,(Instr.slice 9 (.string (strOf t)) (some (.int .i64 (m:Nat))) none none).run Tryz.prog wx=.ok (.string (strOf r)) wx:=fun wx=>by
    have h:=str_l t m (by omega) wx
    have e1:t.drop m=r:=by rw [htx,← hpm];simp
    rw [e1] at h
    exact h
   rw [← hm]
   have HPR:Hid ((∀ c ∈ p,c≠47)∧(r=[]∨∃ r',r=47 :: r')):=⟨hp,hr⟩
   have HTX:=Lib.hid htx
   have hrl:r.length<t.length:=by omega
   have hpl:p.length≤9223372036854775807:=by omega
   have HM:=Lib.hid htm
   clear hx hp hr htx hm htm HX hpm
   cases hg:Pa.good p with
   | false =>
     have HF:Hid (Pa.split 8 s=([],12)):=by
      have h:=HP.out
      rw [HTX.out] at h
      exact h.bad HPR.out.1 HPR.out.2 hg
     go_wp2_with (go_at_call 139;refine (good_any p _ hpl).mono ?_;rintro e wx ⟨rfl,rfl⟩)
     go_ret2
     exact SAns.no2 (k:=12) HF.out HB.out rfl
   | true =>
     have HP2:Hid (Pa.Parts s r (cs++[p])):=by
      have h:=HP.out
      rw [HTX.out] at h
      exact h.step HPR.out.1 HPR.out.2 hg
     have er:=strOf_size r
     by_cases h8:q.length<8
     ·have HQ2:Hid ((cs++[p]).take 8=q++[p]∧(cs++[p]).length≤8):=by
       have h1:=HQ.out
       have h2:cs.length<8:=by rw [h1,List.length_take] at h8;omega
       have h3:q=cs:=by rw [h1,List.take_of_length_le (by omega)]
       exact ⟨by rw [List.take_of_length_le (by rw [List.length_append,List.length_singleton];omega),h3],by rw [List.length_append,List.length_singleton];omega⟩
      have HR1:Hid (RdS (wr.alloc (.cells #[.string (strOf p)] 9)) (some ⟨wr.heap.size,0,none⟩) [p]):=rds_one wr p _
      have HN:Hid (q.length+[p].length≤68719476736):=by show q.length+1≤_;omega
      have hbf:b=false:=by rw [HD.out];exact decide_eq_false (by have h1:=HQ2.out.2;rw [List.length_append,List.length_singleton] at h1;omega)
      subst hbf
      go_wp2_with (first|(go_at_call 139;refine (good_any p _ hpl).mono ?_;rintro e wx ⟨rfl,rfl⟩)|(at_builtin;refine wpList_append_txts rfl (.tmp 33) (.tmp 35) rfl rfl HT.out (below_new wr _) (some ⟨wr.heap.size,0,none⟩) [p] 1 1 rfl rfl HR1.out HN.out ?_;intro v2 w2 HO2 HG2))
      obtain ⟨X2,c2,rfl,_,_⟩:=HO2.out.form
      clear HG2
      go_roundw
      case rel=>exact ⟨r,false,_,rfl,rfl,rfl,by omega,cs++[p],HP2.out,(decide_eq_false (by have:=HQ2.out.2;omega)).symm,by rw [HQ2.out.1];exact HO2.out⟩
      case measure=>simp;omega
     ·have HQ2:Hid ((cs++[p]).take 8=q∧8<(cs++[p]).length):=by
       have h1:=HQ.out
       have h2:8≤cs.length:=by rw [h1,List.length_take] at h8;omega
       refine ⟨by rw [List.take_append_of_le_length h2,h1],by rw [List.length_append,List.length_singleton];omega⟩
      go_wp2_with (go_at_call 139;refine (good_any p _ hpl).mono ?_;rintro e wx ⟨rfl,rfl⟩)
      go_roundw
      case rel=>exact ⟨r,true,_,rfl,rfl,rfl,by omega,cs++[p],HP2.out,(decide_eq_true HQ2.out.2).symm,by rw [HQ2.out.1];exact HT.out⟩
      case measure=>simp;omega
 ·have HF:Hid (Pa.split 8 s=([],12)):=by
   show _=_
   rw [HS.out]
   have hne:c0≠47:=byte_ne (k:=47) h47 (by decide)
   unfold Pa.split
   rw [if_neg (by simp [hne])]
   simp [hne]
  have e47:((c0.toNat:Int)==47)=false:=by simp;omega
  go_enter Tryz.func93,Tryz.ntmps93
  go_wp2
  go_ret2
  exact SAns.no (k:=12) HF.out rfl
end Go.Proofs.YtbnpgakmhhfjkaaGreatDoor
namespace Go.Proofs.YtbnpgakmhhfjkaaGreatDoor
open Go.RowKit
namespace Sm
theorem split_small (s:Bs):(Pa.split 8 s).1.length≤8∧∀ x ∈ (Pa.split 8 s).1,x.length≤16:=by
 have h0:([]:List Bs).length≤8∧∀ x ∈ ([]:List Bs),x.length≤16:=⟨by decide,fun x hx=>by cases hx⟩
 unfold Pa.split
 split
 ·exact h0
 ·split
  ·exact h0
  ·split
   ·split
    ·next hg =>
     split
     ·next hl =>
      refine ⟨hl,fun x hx=>?_⟩
      have h1:=List.all_eq_true.1 hg x hx
      unfold Pa.good at h1
      simp only [Bool.and_eq_true,decide_eq_true_eq] at h1
      exact h1.1.1.2
     ·exact h0
    ·exact h0
   ·exact h0
def opV (o:St.Opn) (dv:Value):Value:=.agg #[.int .i64 o.kind,.string (strOf o.path),.string (strOf o.dest),.int .i64 o.fd,.int .i64 o.at_,.int .i64 o.n,.int .u64 (o.till:Nat),.int .i64 o.snap,dv]
def PAns (o:St.Opn) (w:World) (e:Ending) (w':World):Prop :=
 ∃ A c A2 c2,e=.returned (.tuple #[.slice A (St.paths o).1.length c,.slice A2 (St.paths o).2.1.length c2,.int .i64 ((St.paths o).2.2:Nat)])∧Way w' A (St.paths o).1 c∧Way w' A2 (St.paths o).2.1 c2∧Below w.heap.size w w'
theorem Way.split {s:Bs} {ns:List Bs} {k:Nat} {A:Option Addr} {c:Nat} {w:World} (h:(ns,k)=Pa.split 8 s) (hr:RdS w A ns) (hc:ns.length≤c):Way w A ns c:=by
 have:=split_small s
 rw [← h] at this
 exact ⟨hr,hc,Nat.le_trans this.1 (by decide),fun x hx=>Nat.le_trans (this.2 x hx) (by decide)⟩
theorem Way.none (w:World):Way w none [] 0:=⟨RdS.nil _ _,Nat.le_refl _,by decide,fun x hx=>by cases hx⟩
theorem PAns.one {o:St.Opn} {s:Bs} {ns:List Bs} {k:Nat} {A:Option Addr} {c:Nat} {w w':World} (hq:St.paths o=((Pa.split 8 s).1,[],(Pa.split 8 s).2)) (hn:(ns,k)=Pa.split 8 s) (hr:RdS w' A ns) (hc:ns.length≤c) (hb:Below w.heap.size w w') :
    PAns o w (.returned (.tuple #[.slice A ns.length c,.slice none 0 0,.int .i64 (k:Nat)])) w':=by
 have hw:=Way.split hn hr hc
 rw [← hn] at hq
 unfold PAns
 rw [hq]
 exact ⟨A,c,none,0,rfl,hw,Way.none _,hb⟩
theorem PAns.two {o:St.Opn} {s s2:Bs} {ns ns2:List Bs} {k2:Nat} {A A2:Option Addr} {c c2:Nat} {w w':World} (hq:(Pa.split 8 s).2=0→St.paths o=((Pa.split 8 s).1,(Pa.split 8 s2).1,(Pa.split 8 s2).2)) (hn:(ns,0)=Pa.split 8 s) (hr:RdS w' A ns) (hc:ns.length≤c) (hn2:(ns2,k2)=Pa.split 8 s2) (hr2:RdS w' A2 ns2) (hc2:ns2.length≤c2) (hb:Below w.heap.size w w') :
    PAns o w (.returned (.tuple #[.slice A ns.length c,.slice A2 ns2.length c2,.int .i64 (k2:Nat)])) w':=by
 have hw:=Way.split hn hr hc
 have hw2:=Way.split hn2 hr2 hc2
 have hq:=hq (by rw [← hn])
 rw [← hn,← hn2] at hq
 unfold PAns
 rw [hq]
 exact ⟨A,c,A2,c2,rfl,hw,hw2,hb⟩
theorem PAns.nil {o:St.Opn} {w w':World} (hq:St.paths o=([],[],0)) (hb:Below w.heap.size w w'):PAns o w (.returned (.tuple #[.slice none 0 0,.slice none 0 0,.int .i64 0])) w':=by
 unfold PAns
 rw [hq]
 exact ⟨none,0,none,0,rfl,Way.none _,Way.none _,hb⟩
set_option maxHeartbeats 4000000 in
set_option maxRecDepth 100000 in
theorem paths_any (o:St.Opn) (A0:Option Addr) (l0 c0:Nat) (w:World) (h1:o.path.length≤9223372036854775807) (h2:o.dest.length≤9223372036854775807) :
    Calls Tryz.prog 38 #[opV o (.slice A0 l0 c0)] w (PAns o w):=by
 obtain ⟨kind,path,dest,fd,at_,n,till,snap,data⟩:=o
 simp only at h1 h2
 have HS1:Hid (∀ W,Below w.heap.size w W→Calls Tryz.prog 93 #[.string (strOf path)] W (SAns path W)):=fun W _=>split_any path W h1
 have HS2:Hid (∀ W,Below w.heap.size w W→Calls Tryz.prog 93 #[.string (strOf dest)] W (SAns dest W)):=fun W _=>split_any dest W h2
 obtain ⟨W0,hW0⟩:∃ W0,W0=w.alloc (.cells #[.int .i64 kind,.string (strOf path),.string (strOf dest),.int .i64 fd,.int .i64 at_,.int .i64 n,.int .u64 (till:Nat),.int .i64 snap,.slice A0 l0 c0] 36):=⟨_,rfl⟩
 obtain ⟨g,hg⟩:∃ g,g=w.heap.size:=⟨_,rfl⟩
 have HZ0:Hid (Blk W0 g 36 [.int .i64 kind,.string (strOf path),.string (strOf dest),.int .i64 fd,.int .i64 at_,.int .i64 n,.int .u64 (till:Nat),.int .i64 snap,.slice A0 l0 c0]):=by show Blk _ _ _ _;rw [hW0,hg];exact Blk.new w _ _
 have HB0:Hid (Below w.heap.size w W0):=by show Below _ _ _;rw [hW0];exact below_new w _
 have c0':W0.cell? ⟨g,0,none⟩=some (.int .i64 kind):=HZ0.out.cell 0
 have c1:W0.cell? ⟨g,1,none⟩=some (.string (strOf path)):=HZ0.out.cell 1
 clear h1 h2
 go_enter Tryz.func38,Tryz.ntmps38
 go_upto_region 1 with (fail)
 unfold opV
 dsimp only
 rw [← hW0,← hg]
 clear hW0 hg
 by_cases hk1:kind=1∨kind=2∨kind=3∨kind=8∨kind=9∨kind=11∨kind=12∨kind=13
 ·have HQ:Hid (St.paths ⟨kind,path,dest,fd,at_,n,till,snap,data⟩=((Pa.split 8 path).1,[],(Pa.split 8 path).2)):=by
   show _=_
   rcases hk1 with rfl|rfl|rfl|rfl|rfl|rfl|rfl|rfl
   all_goals rfl
  rcases hk1 with rfl|rfl|rfl|rfl|rfl|rfl|rfl|rfl
  all_goals
   go_wp2_with fail
   refine (HS1.out _ HB0.out).mono ?_
   rintro e w1 ⟨ns,A,c,k,rfl,hc,hr,hn,hb⟩
   have HW:=Lib.hid (PAns.one HQ.out hn hr hc (HB0.out.trans (hb.mono HB0.out.size)))
   clear hn hr hb hc
   go_wp2_with fail
   go_ret3
   exact HW.out
 by_cases hk2:kind=7∨kind=10
 ·have HQ1:Hid ((Pa.split 8 path).2=0→St.paths ⟨kind,path,dest,fd,at_,n,till,snap,data⟩=((Pa.split 8 path).1,(Pa.split 8 dest).1,(Pa.split 8 dest).2)):=by
   intro h0
   rcases hk2 with rfl|rfl
   all_goals
    show (if (Pa.split 8 path).2=0 then _ else _)=_
    rw [if_pos h0]
  have HQ2:Hid ((Pa.split 8 path).2≠0→St.paths ⟨kind,path,dest,fd,at_,n,till,snap,data⟩=((Pa.split 8 path).1,[],(Pa.split 8 path).2)):=by
   intro h0
   rcases hk2 with rfl|rfl
   all_goals
    show (if (Pa.split 8 path).2=0 then _ else _)=_
    rw [if_neg h0]
  clear hk1
  rcases hk2 with rfl|rfl
  all_goals
   go_wp2_with fail
   refine (HS1.out _ HB0.out).mono ?_
   rintro e w1 ⟨ns,A,c,k,rfl,hc,hr,hn,hb⟩
   have HB1:Hid (Below w.heap.size w w1):=HB0.out.trans (hb.mono HB0.out.size)
   have c2:w1.cell? ⟨g,2,none⟩=some (.string (strOf dest)):=(HZ0.out.below hb HZ0.out.lt).cell 2
   by_cases hk0:k=0
   ·subst hk0
    have HN:=Lib.hid hn
    have HR:=Lib.hid hr
    have HC:=Lib.hid hc
    clear hn hr hc hb
    go_wp2_with fail
    refine (HS2.out _ HB1.out).mono ?_
    rintro e w2 ⟨ns2,A2,c3,k2,rfl,hc2,hr2,hn2,hb2⟩
    have HW:=Lib.hid (PAns.two HQ1.out HN.out (HR.out.below hb2) HC.out hn2 hr2 hc2 (HB1.out.trans (hb2.mono HB1.out.size)))
    clear hn2 hr2 hc2 hb2
    go_wp2_with fail
    go_ret3
    exact HW.out
   ·have hki:((k:Int)==0)=false:=by rw [beq_eq_false_iff_ne];omega
    have HW:=Lib.hid (PAns.one (HQ2.out (by rw [← hn];exact hk0)) hn hr hc HB1.out)
    clear hn hr hb hc hk0
    go_wp2_with fail
    go_ret3
    exact HW.out
 ·have hne:kind≠1∧kind≠2∧kind≠3∧kind≠8∧kind≠9∧kind≠11∧kind≠12∧kind≠13∧kind≠7∧kind≠10:=by omega
  have HQ:Hid (St.paths ⟨kind,path,dest,fd,at_,n,till,snap,data⟩=([],[],0)):=by
   obtain ⟨a1,a2,a3,a4,a5,a6,a7,a8,a9,a10⟩:=hne
   show (if St.asks1 kind then _ else if St.asks2 kind then _ else _)=_
   have e1:St.asks1 kind=false:=by simp [St.asks1,a1,a2,a3,a4,a5,a6,a7,a8]
   have e2:St.asks2 kind=false:=by simp [St.asks2,a9,a10]
   rw [e1,e2]
   rfl
  obtain ⟨a1,a2,a3,a4,a5,a6,a7,a8,a9,a10⟩:=hne
  have b1:(kind==1)=false:=by rw [beq_eq_false_iff_ne];exact a1
  have b2:(kind==2)=false:=by rw [beq_eq_false_iff_ne];exact a2
  have b3:(kind==3)=false:=by rw [beq_eq_false_iff_ne];exact a3
  have b4:(kind==8)=false:=by rw [beq_eq_false_iff_ne];exact a4
  have b5:(kind==9)=false:=by rw [beq_eq_false_iff_ne];exact a5
  have b6:(kind==11)=false:=by rw [beq_eq_false_iff_ne];exact a6
  have b7:(kind==12)=false:=by rw [beq_eq_false_iff_ne];exact a7
  have b8:(kind==13)=false:=by rw [beq_eq_false_iff_ne];exact a8
  have b9:(kind==7)=false:=by rw [beq_eq_false_iff_ne];exact a9
  have b10:(kind==10)=false:=by rw [beq_eq_false_iff_ne];exact a10
  have HW:Hid (PAns ⟨kind,path,dest,fd,at_,n,till,snap,data⟩ w (.returned (.tuple #[.slice none 0 0,.slice none 0 0,.int .i64 0])) W0):=PAns.nil HQ.out HB0.out
  clear hk1 hk2 a1 a2 a3 a4 a5 a6 a7 a8 a9 a10
  go_wp2_with fail
  go_ret3
  exact HW.out
end Sm
end Go.Proofs.YtbnpgakmhhfjkaaGreatDoor
namespace Go.Proofs.YtbnpgakmhhfjkaaGreatDoor
open Go.RowKit Rc
open Tr (Nm En T)
open Tm (tobj)
open Sn (sobj)
open St (alone)
namespace Sm
variable {p:Nat} {tv sv:Value} {qs:List Value} {B1 B2 D:Nat→Prop} {s:St.State} {w w':World}
set_option maxHeartbeats 4000000 in
set_option maxRecDepth 100000 in
theorem take_in (h:StIn p tv sv qs B1 B2 D s w) (hO:St.Ok s) (hn:s.snaps.next<1000000000000000) (hK:KAt w) :
    Calls Tryz.prog 51 #[.pointer (some ⟨p,0,none⟩)] w (Ob.Turns stobj (.pointer (some ⟨p,0,none⟩)) { s with snaps:=(Sn.take s.snaps s.tree).2 } (rep0 ((Sn.take s.snaps s.tree).1.2:Nat) (Sn.take s.snaps s.tree).1.1) (StS p B1 B2 D) w):=by
 obtain ⟨tp,rfl⟩:=tobj.ptr h.tr
 obtain ⟨W0,hW0⟩:∃ W0,W0=w.alloc (.cells #[.int .i64 0,.int .i64 0,.slice none 0 0,.slice none 0 0,.int .i64 0,.int .i64 0,.int .i64 0,.int .i64 0,.int .u64 0,.bool false] 33):=⟨_,rfl⟩
 obtain ⟨g,hg⟩:∃ g,g=w.heap.size:=⟨_,rfl⟩
 have HZ0:Hid (Blk W0 g 33 [.int .i64 0,.int .i64 0,.slice none 0 0,.slice none 0 0,.int .i64 0,.int .i64 0,.int .i64 0,.int .i64 0,.int .u64 0,.bool false]):=by show Blk _ _ _ _;rw [hW0,hg];exact Blk.new w _ _
 have HB0:Hid (Below w.heap.size w W0):=by show Below _ _ _;rw [hW0];exact below_new w _
 have HGG:Hid (g=w.heap.size):=hg
 have HNG:Hid (¬ StS p B1 B2 D g):=fun h9=>by
  have:=h.lt h9
  omega
 have HN0:Hid (Nw p (.pointer (some tp)) sv qs w (StS p B1 B2 D) B1 B2 D s W0):=(Nw.start h).later HB0.out
 obtain ⟨sp,rfl⟩:=sobj.ptr h.sn
 have hbd:Below W0.heap.size W0 W0.drew:=below_drew W0
 obtain ⟨wd,hwd⟩:∃ wd,wd=W0.drew:=⟨_,rfl⟩
 rw [← hwd] at hbd
 have HND:Hid (Nw p (.pointer (some tp)) (.pointer (some sp)) qs w (StS p B1 B2 D) B1 B2 D s wd):=HN0.out.later hbd
 have HZD:Hid (Blk wd g 33 [.int .i64 0,.int .i64 0,.slice none 0 0,.slice none 0 0,.int .i64 0,.int .i64 0,.int .i64 0,.int .i64 0,.int .u64 0,.bool false]):=HZ0.out.below hbd HZ0.out.lt
 have HBD:Hid (Below w.heap.size w wd):=HB0.out.trans (hbd.mono HB0.out.size)
 obtain ⟨ti,hti⟩:∃ ti,ti=(Sn.take s.snaps s.tree).1.1:=⟨_,rfl⟩
 obtain ⟨tc,htc⟩:∃ tc,tc=(Sn.take s.snaps s.tree).1.2:=⟨_,rfl⟩
 have HM:=Lib.hid (Sn.so_take HND.out.in_.sn hO.snaps hn HND.out.in_.tr hO.tree hO.slim (hK.below HBD.out hK.pos))
 rw [← hti,← htc] at HM ⊢
 have c0:W0.cell? ⟨p,0,none⟩=some (.pointer (some tp)):=HN0.out.in_.box.cell 0
 have c1:W0.cell? ⟨p,1,none⟩=some (.pointer (some sp)):=HN0.out.in_.box.cell 1
 have HAFT:Hid (∀ e w3,Ob.Turns sobj (.pointer (some sp)) (Sn.take s.snaps s.tree).2 (.tuple #[.int .i64 ti,.int .i64 (tc:Nat)]) B2 wd e w3→e=.returned (.tuple #[.int .i64 ti,.int .i64 (tc:Nat)])∧∃ B2',Hid (Nw p (.pointer (some tp)) (.pointer (some sp)) qs w (StS p B1 B2 D) B1 B2' D { s with snaps:=(Sn.take s.snaps s.tree).2 } w3)∧Hid (Blk w3 g 33 [.int .i64 0,.int .i64 0,.slice none 0 0,.slice none 0 0,.int .i64 0,.int .i64 0,.int .i64 0,.int .i64 0,.int .u64 0,.bool false])∧Hid (¬ StS p B1 B2' D g)):=fun e w3 ht=>by
  have hmod:Mod wd w3 B2:=by obtain ⟨_,_,_,h2,_⟩:=ht;exact h2
  obtain ⟨rfl,B2',hn3,hgr⟩:=HND.out.turnS ht
  exact ⟨rfl,B2',hn3,(hmod.block g HZD.out.lt fun h9=>HNG.out (.inr (.inr (.inl h9)))).trans HZD.out,fun h9=>by
   rcases hgr g h9 with h4|h4
   ·exact HNG.out h4
   ·have:=HZD.out.lt
    omega⟩
 clear h hO hK hti htc hbd hn
 go_enter Tryz.func51,Tryz.ntmps51
 go_upto_region 1 with (fail)
 rw [← hW0,← hg]
 clear hW0 hg
 go_region_with (go_at_call 34;change Calls _ _ _ W0.drew _;rw [← hwd];refine HM.out.mono ?_;intro e w3 ht;obtain ⟨rfl,B2',HN3,HZ3,HNG3⟩:=HAFT.out e w3 ht;clear ht)
 all_goals
  clear c0 c1 HM HND HN0 HZ0 HZD HAFT
  obtain⟨g0,e0,g1,e1,g2,e2,g3,e3,g4,e4,g5,e5,g6,e6,g7,e7,g8,e8,g9,e9⟩:=cells10 HZ3.out
  go_wp2_with fail
  refine bodyPost_ret (results_blk rfl _ _ g 33 (repL (tc:Nat) ti) _ rfl (set10_blk HZ3.out _ _ _ _ _ _ _ _ _ _) rfl rfl rfl) rfl ?_
  exact (HN3.out.poke (set10_mod _ _ _ _ _ _ _ _ _ _ _ _) HNG3.out (Nat.le_of_eq HGG.out.symm)).done _
end Sm
end Go.Proofs.YtbnpgakmhhfjkaaGreatDoor
namespace Go.Proofs.YtbnpgakmhhfjkaaGreatDoor
open Go.RowKit Rc
open Tr (Nm En T)
open Tm (tobj)
open Sn (sobj)
open St (alone)
namespace Sm
variable {p:Nat} {tv sv:Value} {qs:List Value} {B1 B2 D:Nat→Prop} {s:St.State} {w w':World}
theorem on_done {v x:Value} {s':St.State} {S2 S X:Nat→Prop} {w0 w1 w2 w3:World} {g:Nat} (h1:stobj.At v s' S2 w2) (hm:Mod w0 w1 X) (h2:Mod w1 w2 S) (hS:∀ b,S b→X b∨w0.heap.size≤b) (h3:∀ b,S2 b→S b∨w1.heap.size≤b) (hp:Mod w2 w3 (fun b=>b=g)) (hg:¬ S2 g) (hg0:w0.heap.size≤g):Ob.Turns stobj v s' x X w0 (.returned x) w3 :=
 ⟨rfl,S2,stobj.keep h1 hp.size (fun b hb=>hp.block b (stobj.lt h1 b hb) (fun e=>hg (e ▸ hb))),Ob.mod_more (Ob.mod_more hm h2 hS) hp (fun b hb=>.inr (hb ▸ hg0)),fun b hb=>(h3 b hb).elim (hS b) (fun h=>.inr (Nat.le_trans hm.size h))⟩
set_option maxHeartbeats 4000000 in
set_option maxRecDepth 100000 in
theorem do_create (h:StIn p tv sv qs B1 B2 D s w) (hO:St.Ok s) (o:St.Opn) (hk1:o.kind=1) (A0:Option Addr) (l0 c0:Nat) (h1:o.path.length≤9223372036854775807) (h2:o.dest.length≤9223372036854775807) :
    Calls Tryz.prog 15 #[.pointer (some ⟨p,0,none⟩),opV o (.slice A0 l0 c0)] w (Ob.Turns stobj (.pointer (some ⟨p,0,none⟩)) (St.do_ s o).2 (rep0 ((St.do_ s o).1.err:Nat) (St.do_ s o).1.n) (StS p B1 B2 D) w):=by
 have HPA:Hid (∀ W,Calls Tryz.prog 38 #[opV o (.slice A0 l0 c0)] W (PAns o W)):=fun W=>paths_any o A0 l0 c0 W h1 h2
 have HDO:Hid (St.do_ s o=if (St.paths o).2.2≠0 then (St.no (St.paths o).2.2,s) else St.create s (St.paths o).1):=by
  show _=_
  unfold St.do_
  rw [if_pos hk1]
 obtain ⟨P,hP⟩:∃ P,P=St.paths o:=⟨_,rfl⟩
 have HPP:Hid (∀ e W W',PAns o W e W'→∃ A c A2 c2,e=.returned (.tuple #[.slice A P.1.length c,.slice A2 P.2.1.length c2,.int .i64 (P.2.2:Nat)])∧Way W' A P.1 c∧Way W' A2 P.2.1 c2∧Below W.heap.size W W'):=fun e W W' hh=>by rw [hP];exact hh
 rw [← hP] at HDO
 obtain ⟨p1,p2,pc⟩:=P
 dsimp only at HPP HDO
 clear hP h1 h2
 obtain ⟨kind,path,dest,fd,at_,n,till,snap,data⟩:=o
 dsimp only at hk1
 subst hk1
 obtain ⟨V0,hV0⟩:∃ V0,V0=w.alloc (.cells #[.int .i64 1,.string (strOf path),.string (strOf dest),.int .i64 fd,.int .i64 at_,.int .i64 n,.int .u64 (till:Nat),.int .i64 snap,.slice A0 l0 c0] 36):=⟨_,rfl⟩
 obtain ⟨go,hgo⟩:∃ go,go=w.heap.size:=⟨_,rfl⟩
 have HOP:Hid (Blk V0 go 36 [.int .i64 1,.string (strOf path),.string (strOf dest),.int .i64 fd,.int .i64 at_,.int .i64 n,.int .u64 (till:Nat),.int .i64 snap,.slice A0 l0 c0]):=by show Blk _ _ _ _;rw [hV0,hgo];exact Blk.new w _ _
 have hbv:Below w.heap.size w V0:=by rw [hV0];exact below_new w _
 obtain ⟨W0,hW0⟩:∃ W0,W0=V0.alloc (.cells #[.int .i64 0,.int .i64 0,.slice none 0 0,.slice none 0 0,.int .i64 0,.int .i64 0,.int .i64 0,.int .i64 0,.int .u64 0,.bool false] 33):=⟨_,rfl⟩
 obtain ⟨g,hg⟩:∃ g,g=V0.heap.size:=⟨_,rfl⟩
 have HZ0:Hid (Blk W0 g 33 [.int .i64 0,.int .i64 0,.slice none 0 0,.slice none 0 0,.int .i64 0,.int .i64 0,.int .i64 0,.int .i64 0,.int .u64 0,.bool false]):=by show Blk _ _ _ _;rw [hW0,hg];exact Blk.new V0 _ _
 have hbw:Below V0.heap.size V0 W0:=by rw [hW0];exact below_new V0 _
 have HB0:Hid (Below w.heap.size w W0):=hbv.trans (hbw.mono hbv.size)
 have HOP0:Hid (Blk W0 go 36 [.int .i64 1,.string (strOf path),.string (strOf dest),.int .i64 fd,.int .i64 at_,.int .i64 n,.int .u64 (till:Nat),.int .i64 snap,.slice A0 l0 c0]):=HOP.out.below hbw HOP.out.lt
 have HGG:Hid (w.heap.size≤g):=by show _≤_;rw [hg];exact hbv.size
 have HNG:Hid (¬ StS p B1 B2 D g):=fun h9=>by
  have:=h.lt h9
  have h8:w.heap.size≤g:=HGG.out
  omega
 have HN0:Hid (Nw p tv sv qs w (StS p B1 B2 D) B1 B2 D s W0):=(Nw.start h).later HB0.out
 have HO:=Lib.hid hO
 clear h hO hbv hbw HOP
 have o0:=HOP0.out.cell 0
 have o1:=HOP0.out.cell 1
 have o2:=HOP0.out.cell 2
 have o3:=HOP0.out.cell 3
 have o4:=HOP0.out.cell 4
 have o5:=HOP0.out.cell 5
 have o6:=HOP0.out.cell 6
 have o7:=HOP0.out.cell 7
 have o8:=HOP0.out.cell 8
 go_enter Tryz.func15,Tryz.ntmps15
 go_upto_region 1 with (fail)
 unfold opV
 dsimp only
 rw [← hV0,← hW0,← hgo,show go+1=g by rw [hg,hV0,World.size_alloc,hgo]]
 clear hV0 hgo hW0 hg
 go_wp2_with fail
 refine (HPA.out W0).mono ?_
 intro e w1 hpa
 obtain ⟨A,c,A2,c2,rfl,hw1,_,hb1⟩:=HPP.out _ _ _ hpa
 have HZ1:Hid (Blk w1 g 33 [.int .i64 0,.int .i64 0,.slice none 0 0,.slice none 0 0,.int .i64 0,.int .i64 0,.int .i64 0,.int .i64 0,.int .u64 0,.bool false]):=HZ0.out.below hb1 HZ0.out.lt
 have HN1:Hid (Nw p tv sv qs w (StS p B1 B2 D) B1 B2 D s w1):=HN0.out.later hb1
 have HOP1:Hid (Blk w1 go 36 [.int .i64 1,.string (strOf path),.string (strOf dest),.int .i64 fd,.int .i64 at_,.int .i64 n,.int .u64 (till:Nat),.int .i64 snap,.slice A0 l0 c0]):=HOP0.out.below hb1 HOP0.out.lt
 have HW1:=Lib.hid hw1
 clear hpa hw1 hb1 HPA HPP HZ0 HN0 HOP0 HB0 o0 o1 o2 o3 o4 o5 o6 o7 o8
 have o0:=HOP1.out.cell 0
 by_cases hc:pc=0
 ·subst hc
  have HQ:Hid (St.do_ s ⟨1,path,dest,fd,at_,n,till,snap,data⟩=St.create s p1):=HDO.out
  have HM:=Lib.hid (create_in HN1.out.in_ HO.out HW1.out)
  obtain ⟨re,hre⟩:∃ re,re=(St.create s p1).1.err:=⟨_,rfl⟩
  obtain ⟨rn,hrn⟩:∃ rn,rn=(St.create s p1).1.n:=⟨_,rfl⟩
  rw [← hre,← hrn] at HM
  have HRE:Hid (re=(St.create s p1).1.err∧rn=(St.create s p1).1.n):=⟨hre,hrn⟩
  clear HDO hre hrn
  go_wp2_with fail
  refine HM.out.mono ?_
  rintro e w2 ⟨rfl,S2,h21,h22,h23⟩
  have HZ2:Hid (Blk w2 g 33 [.int .i64 0,.int .i64 0,.slice none 0 0,.slice none 0 0,.int .i64 0,.int .i64 0,.int .i64 0,.int .i64 0,.int .u64 0,.bool false]):=(h22.block g HZ1.out.lt HNG.out).trans HZ1.out
  have HEND:Hid (∀ w3,Mod w2 w3 (fun b=>b=g)→Ob.Turns stobj (.pointer (some ⟨p,0,none⟩)) (St.create s p1).2 (rep0 (re:Nat) rn) (StS p B1 B2 D) w (.returned (rep0 (re:Nat) rn)) w3):=fun w3 hp =>
   on_done h21 HN1.out.mod h22 HN1.out.sub h23 hp (fun h9=>(h23 g h9).elim HNG.out (fun h8=>by have:=HZ1.out.lt;omega)) HGG.out
  unfold rep0
  clear h21 h22 h23 HM o0
  obtain⟨g0,e0,g1,e1,g2,e2,g3,e3,g4,e4,g5,e5,g6,e6,g7,e7,g8,e8,g9,e9⟩:=cells10 HZ2.out
  go_wp2_with fail
  refine bodyPost_ret (results_blk rfl _ _ g 33 (repL (re:Nat) rn) _ rfl (set10_blk HZ2.out _ _ _ _ _ _ _ _ _ _) rfl rfl rfl) rfl ?_
  rw [HQ.out,← HRE.out.1,← HRE.out.2]
  exact HEND.out _ (set10_mod _ _ _ _ _ _ _ _ _ _ _ _)
 ·have hci:((pc:Int)==0)=false:=by rw [beq_eq_false_iff_ne];omega
  have HQ:Hid (St.do_ s ⟨1,path,dest,fd,at_,n,till,snap,data⟩=(St.no pc,s)):=by show _=_;rw [HDO.out,if_pos hc]
  clear hc HDO
  obtain⟨g0,e0,g1,e1,g2,e2,g3,e3,g4,e4,g5,e5,g6,e6,g7,e7,g8,e8,g9,e9⟩:=cells10 HZ1.out
  go_wp2_with fail
  refine bodyPost_ret (results_blk rfl _ _ g 33 (repL (pc:Nat) 0) _ rfl (set10_blk HZ1.out _ _ _ _ _ _ _ _ _ _) rfl rfl rfl) rfl ?_
  rw [HQ.out]
  exact (HN1.out.poke (set10_mod _ _ _ _ _ _ _ _ _ _ _ _) HNG.out HGG.out).done _
end Sm
end Go.Proofs.YtbnpgakmhhfjkaaGreatDoor
namespace Go.Proofs.YtbnpgakmhhfjkaaGreatDoor
open Go.RowKit Rc
open Tr (Nm En T)
open Tm (tobj)
open Sn (sobj)
namespace Sm
def repV (r:St.Rep) (xd xs:Value):Value:=.agg #[.int .i64 (r.err:Nat),.int .i64 r.n,xd,xs,.int .i64 r.node.id,.int .i64 r.node.kind,.int .i64 r.node.links,.int .i64 r.node.size,.int .u64 (r.node.till:Nat),.bool r.node.shut]
structure Rows (w:World) (r:St.Rep) (xd xs:Value):Prop where
 data:∃ A c,xd=.slice A r.data.length c∧r.data.length≤c∧Rd w A r.data
 names:∃ A c,xs=.slice A r.names.length c∧r.names.length≤c∧RdS w A r.names
def DoAns (v:Value) (s:St.State) (o:St.Opn) (X:Nat→Prop) (w:World) (e:Ending) (w':World):Prop :=
 ∃ xd xs,e=.returned (repV (St.do_ s o).1 xd xs)∧Rows w' (St.do_ s o).1 xd xs∧∃ S2,stobj.At v (St.do_ s o).2 S2 w'∧Mod w w' X∧(∀ b,S2 b→X b∨w.heap.size≤b)∧∀ b,0<(St.do_ s o).1.data.length→xd.ownBlock=some b→¬ S2 b
def Plain (r:St.Rep):Prop:=r.data=[]∧r.names=[]∧r.node=Nd.zero
theorem plain_no (e:Nat):Plain (St.no e):=⟨rfl,rfl,rfl⟩
theorem repV_plain {r:St.Rep} (h:Plain r):repV r (.slice none 0 0) (.slice none 0 0)=rep0 (r.err:Nat) r.n:=by
 obtain ⟨_,_,h3⟩:=h
 unfold repV rep0
 rw [h3]
 rfl
theorem rows_plain {r:St.Rep} (h:Plain r) (w:World):Rows w r (.slice none 0 0) (.slice none 0 0) :=
 ⟨⟨none,0,by rw [h.1];rfl,by rw [h.1];exact Nat.le_refl _,by rw [h.1];exact Rd.nil _ _⟩,⟨none,0,by rw [h.2.1];rfl,by rw [h.2.1];exact Nat.le_refl _,by rw [h.2.1];exact RdS.nil _ _⟩⟩
theorem DoAns.of_turns {v:Value} {s:St.State} {o:St.Opn} {X:Nat→Prop} {w w':World} {e:Ending} (hp:Plain (St.do_ s o).1) (h:Ob.Turns stobj v (St.do_ s o).2 (rep0 ((St.do_ s o).1.err:Nat) (St.do_ s o).1.n) X w e w'):DoAns v s o X w e w':=by
 obtain ⟨rfl,S2,h1,h2,h3⟩:=h
 exact ⟨_,_,by rw [repV_plain hp],rows_plain hp _,S2,h1,h2,h3,fun _ _ h=>by simp [Value.ownBlock] at h⟩
theorem plain_create (s:St.State) (q:List Bs):Plain (St.create s q).1:=by unfold St.create;repeat' split
                                                                          all_goals exact ⟨rfl,rfl,rfl⟩
theorem plain_open (s:St.State) (q:List Bs) (k:Int):Plain (St.openFile s q k).1:=by unfold St.openFile;repeat' split
                                                                                    all_goals exact ⟨rfl,rfl,rfl⟩
theorem plain_write (s:St.State) (k:Int) (b:Bs):Plain (St.writeFile s k b).1:=by unfold St.writeFile;repeat' split
                                                                                 all_goals exact ⟨rfl,rfl,rfl⟩
end Sm
end Go.Proofs.YtbnpgakmhhfjkaaGreatDoor
namespace Go.Proofs.YtbnpgakmhhfjkaaGreatDoor
open Go.RowKit Rc
open Tr (Nm En T)
open Tm (tobj)
open Sn (sobj)
open St (alone)
namespace Sm
variable {p:Nat} {tv sv:Value} {qs:List Value} {B1 B2 D:Nat→Prop} {s:St.State} {w w':World}
set_option maxHeartbeats 4000000 in
set_option maxRecDepth 100000 in
theorem close_in (h:StIn p tv sv qs B1 B2 D s w) (hO:St.Ok s) (k:Int) (u:Nat) (hu:u≤18446744073709551615) :
    Calls Tryz.prog 43 #[.pointer (some ⟨p,0,none⟩),.int .i64 k,.int .u64 (u:Nat)] w (Ob.Turns stobj (.pointer (some ⟨p,0,none⟩)) (St.closeFile s k u).2 (.int .i64 ((St.closeFile s k u).1:Nat)) (StS p B1 B2 D) w):=by
 obtain ⟨tp,rfl⟩:=tobj.ptr h.tr
 have HN0:Hid (Nw p (.pointer (some tp)) sv qs w (StS p B1 B2 D) B1 B2 D s w):=Nw.start h
 have HUS:=Lib.hid (used_any h hO.fds k)
 have HO:=Lib.hid hO
 have HU:=Lib.hid hu
 have HCF:Hid (St.closeFile s k u=match St.used s k with
  | some (.w i)=>if (Tr.seal_ s.tree i u).1≠0 then ((Tr.seal_ s.tree i u).1,{ s with tree:=(Tr.seal_ s.tree i u).2 }) else (0,{ s with tree:=(Tr.seal_ s.tree i u).2,fds:=s.fds.set k.toNat .free })
  | some (.r _)=>(0,{ s with fds:=s.fds.set k.toNat .free })
  | _=>(26,s)):=by
  show _=_
  unfold St.closeFile
  cases St.used s k with
  | none=>rfl
  | some f=>cases f <;> rfl
 clear h hO hu
 go_enter Tryz.func43,Tryz.ntmps43
 go_wp2_with fail
 refine HUS.out.mono ?_
 rintro e w1 ⟨hb1,hcase⟩
 have HN1:Hid (Nw p (.pointer (some tp)) sv qs w (StS p B1 B2 D) B1 B2 D s w1):=HN0.out.later hb1
 clear hb1 HUS HN0
 rcases hcase with ⟨hus,rfl⟩|⟨i,hus,rfl⟩|⟨d,qq,Bk,hus,rfl,_,_⟩
 ·have HQ:Hid (St.closeFile s k u=(26,s)):=by show _=_;rw [HCF.out,hus]
  clear hus HCF
  obtain ⟨W2,hW2⟩:∃ W2,W2=w1.alloc (.cells #[.pointer none,.int .i64 0,.bool false] 71):=⟨_,rfl⟩
  obtain ⟨g2,hg2⟩:∃ g2,g2=w1.heap.size:=⟨_,rfl⟩
  have HD2:Hid (Blk W2 g2 71 [.pointer none,.int .i64 0,.bool false]):=by show Blk _ _ _ _;rw [hW2,hg2];exact Blk.new w1 _ _
  have hbn:Below w1.heap.size w1 W2:=by rw [hW2];exact below_new w1 _
  have HN2:Hid (Nw p (.pointer (some tp)) sv qs w (StS p B1 B2 D) B1 B2 D s W2):=HN1.out.later hbn
  clear hbn
  go_upto_region 2 with (fail)
  rw [← hW2,← hg2]
  clear hW2 hg2
  go_wp2_with fail
  go_ret
  rw [HQ.out]
  exact HN2.out.done _
 ·obtain ⟨hk0,hkf,_⟩:=St.used_nat hus
  obtain ⟨n,rfl⟩:∃ n:Nat,k=n:=⟨k.toNat,by omega⟩
  have HK:Hid (n<8):=by
   show n<8
   have:=(List.getElem?_eq_some_iff.1 hkf).1
   rw [Int.toNat_natCast,show s.fds.length=8 from HO.out.fds] at this
   exact this
  have hk8:((n:Nat):Int)<8:=by
   have:n<8:=HK.out
   omega
  obtain ⟨sc,hsc⟩:∃ sc,sc=(Tr.seal_ s.tree i u).1:=⟨_,rfl⟩
  have HCF2:Hid (St.closeFile s (n:Int) u=if sc≠0 then (sc,{ s with tree:=(Tr.seal_ s.tree i u).2 }) else (0,{ s with tree:=(Tr.seal_ s.tree i u).2,fds:=s.fds.set n .free })):=by
   show _=_
   rw [HCF.out,hus,hsc]
   rfl
  clear hus HCF hk0 hkf
  obtain ⟨W2,hW2⟩:∃ W2,W2=w1.alloc (.cells #[.pointer (some tp),.int .i64 i,.bool true] 71):=⟨_,rfl⟩
  obtain ⟨g2,hg2⟩:∃ g2,g2=w1.heap.size:=⟨_,rfl⟩
  have HD2:Hid (Blk W2 g2 71 [.pointer (some tp),.int .i64 i,.bool true]):=by show Blk _ _ _ _;rw [hW2,hg2];exact Blk.new w1 _ _
  have hbn:Below w1.heap.size w1 W2:=by rw [hW2];exact below_new w1 _
  have HN2:Hid (Nw p (.pointer (some tp)) sv qs w (StS p B1 B2 D) B1 B2 D s W2):=HN1.out.later hbn
  clear hbn
  go_upto_region 2 with (fail)
  rw [← hW2,← hg2]
  clear hW2 hg2
  have d0:=HD2.out.cell 0
  have d1:=HD2.out.cell 1
  have d2:=HD2.out.cell 2
  have HM:=Lib.hid (t_seal HN2.out.in_.tr HO.out.tree i u HU.out)
  rw [← hsc] at HM
  clear hsc
  go_wp2_with fail
  refine HM.out.mono ?_
  intro e w3 ht
  obtain ⟨rfl,B1',hn3,_⟩:=HN2.out.turnT ht
  have HN3:=Lib.hid hn3
  clear ht hn3 HM d0 d1 d2
  by_cases hc:sc=0
  ·subst hc
   have HQ:Hid (St.closeFile s (n:Int) u=(0,{ s with tree:=(Tr.seal_ s.tree i u).2,fds:=s.fds.set n .free })):=HCF2.out
   have hi:=HN3.out.in_
   obtain ⟨_,_,_,_,_,_,x0,x1,x2⟩:=hi.fdOne HO.out.fds HK.out
   have y0:w3.frozen? ⟨p,3+n*3,none⟩=false:=hi.box.frozen _
   have y1:w3.frozen? ⟨p,3+n*3+1,none⟩=false:=hi.box.frozen _
   have y2:w3.frozen? ⟨p,3+n*3+2,none⟩=false:=hi.box.frozen _
   have HFL:Hid (n*3+3≤(fdCells (.pointer (some tp)) s.fds qs).length):=by
    have hk9:n<8:=HK.out
    have h3:s.fds.length=8:=HO.out.fds
    have h4:=fdCells_len (.pointer (some tp)) s.fds qs hi.len
    show n*3+3≤_
    omega
   have HNF:Hid (Nw p (.pointer (some tp)) sv (qs.set n (.pointer none)) w (StS p B1 B2 D) B1' B2 (fun x=>D x∨False) { s with tree:=(Tr.seal_ s.tree i u).2,fds:=s.fds.set n .free } (fdW w3 p n (.pointer none) (.int .i64 0) (.bool false))) :=
    HN3.out.fd (f:=.free) (q:=.pointer none) (Bq:=fun _=>False) (by rw [show s.fds.length=8 from HO.out.fds];exact HK.out) (fdW_mod _ _ _ _ _ _) (fdW_blk hi.box HFL.out _ _ _) (fun b hb=>by cases hb) (fun x hx=>hx.elim)
   clear hi
   go_wp2_with fail
   go_ret
   rw [HQ.out]
   exact HNF.out.done _
  ·have hci:((sc:Int)==0)=false:=by rw [beq_eq_false_iff_ne];omega
   have HQ:Hid (St.closeFile s (n:Int) u=(sc,{ s with tree:=(Tr.seal_ s.tree i u).2 })):=by show _=_;rw [HCF2.out,if_pos hc]
   clear hc
   go_wp2_with fail
   go_ret
   rw [HQ.out]
   exact HN3.out.done _
 ·obtain ⟨hk0,hkf,_⟩:=St.used_nat hus
  obtain ⟨n,rfl⟩:∃ n:Nat,k=n:=⟨k.toNat,by omega⟩
  have HK:Hid (n<8):=by
   show n<8
   have:=(List.getElem?_eq_some_iff.1 hkf).1
   rw [Int.toNat_natCast,show s.fds.length=8 from HO.out.fds] at this
   exact this
  have hk8:((n:Nat):Int)<8:=by
   have:n<8:=HK.out
   omega
  have HQ:Hid (St.closeFile s (n:Int) u=(0,{ s with tree:=s.tree,fds:=s.fds.set n .free })):=by
   show _=_
   rw [HCF.out,hus]
   rfl
  clear hus HCF hk0 hkf
  obtain ⟨W2,hW2⟩:∃ W2,W2=w1.alloc (.cells #[.pointer (some qq),.int .i64 1,.bool false] 71):=⟨_,rfl⟩
  obtain ⟨g2,hg2⟩:∃ g2,g2=w1.heap.size:=⟨_,rfl⟩
  have HD2:Hid (Blk W2 g2 71 [.pointer (some qq),.int .i64 1,.bool false]):=by show Blk _ _ _ _;rw [hW2,hg2];exact Blk.new w1 _ _
  have hbn:Below w1.heap.size w1 W2:=by rw [hW2];exact below_new w1 _
  have HN2:Hid (Nw p (.pointer (some tp)) sv qs w (StS p B1 B2 D) B1 B2 D s W2):=HN1.out.later hbn
  clear hbn
  go_upto_region 2 with (fail)
  rw [← hW2,← hg2]
  clear hW2 hg2
  have d0:=HD2.out.cell 0
  have d1:=HD2.out.cell 1
  have d2:=HD2.out.cell 2
  have hi:=HN2.out.in_
  obtain ⟨_,_,_,_,_,_,x0,x1,x2⟩:=hi.fdOne HO.out.fds HK.out
  have y0:W2.frozen? ⟨p,3+n*3,none⟩=false:=hi.box.frozen _
  have y1:W2.frozen? ⟨p,3+n*3+1,none⟩=false:=hi.box.frozen _
  have y2:W2.frozen? ⟨p,3+n*3+2,none⟩=false:=hi.box.frozen _
  have HFL:Hid (n*3+3≤(fdCells (.pointer (some tp)) s.fds qs).length):=by
   have hk9:n<8:=HK.out
   have h3:s.fds.length=8:=HO.out.fds
   have h4:=fdCells_len (.pointer (some tp)) s.fds qs hi.len
   show n*3+3≤_
   omega
  have HNF:Hid (Nw p (.pointer (some tp)) sv (qs.set n (.pointer none)) w (StS p B1 B2 D) B1 B2 (fun x=>D x∨False) { s with tree:=s.tree,fds:=s.fds.set n .free } (fdW W2 p n (.pointer none) (.int .i64 0) (.bool false))) :=
   HN2.out.fd (f:=.free) (q:=.pointer none) (Bq:=fun _=>False) (by rw [show s.fds.length=8 from HO.out.fds];exact HK.out) (fdW_mod _ _ _ _ _ _) (fdW_blk hi.box HFL.out _ _ _) (fun b hb=>by cases hb) (fun x hx=>hx.elim)
  clear hi
  go_wp2_with fail
  go_ret
  rw [HQ.out]
  exact HNF.out.done _
end Sm
end Go.Proofs.YtbnpgakmhhfjkaaGreatDoor
namespace Go.Proofs.YtbnpgakmhhfjkaaGreatDoor
open Go.RowKit Rc
open Tr (Nm En T)
open Tm (tobj)
open Sn (sobj)
open St (alone)
namespace Sm
variable {p:Nat} {tv sv:Value} {qs:List Value} {B1 B2 D:Nat→Prop} {s:St.State} {w w':World}
set_option maxHeartbeats 4000000 in
set_option maxRecDepth 100000 in
theorem keep_in (h:StIn p tv sv qs B1 B2 D s w) (hO:St.Ok s) {A:Option Addr} {q:List Bs} {cap:Nat} (hq:Way w A q cap) (u:Nat) (hu:u≤18446744073709551615) :
    Calls Tryz.prog 50 #[.pointer (some ⟨p,0,none⟩),.slice A q.length cap,.int .u64 (u:Nat)] w (Ob.Turns stobj (.pointer (some ⟨p,0,none⟩)) (St.keep s q u).2 (.int .i64 ((St.keep s q u).1:Nat)) (StS p B1 B2 D) w):=by
 obtain ⟨tp,rfl⟩:=tobj.ptr h.tr
 have HN0:Hid (Nw p (.pointer (some tp)) sv qs w (StS p B1 B2 D) B1 B2 D s w):=Nw.start h
 obtain ⟨nd,hnd⟩:∃ nd,nd=(St.lookN s.tree q).1:=⟨_,rfl⟩
 obtain ⟨lc,hlc⟩:∃ lc,lc=(St.lookN s.tree q).2:=⟨_,rfl⟩
 obtain ⟨rc,hrc⟩:∃ rc,rc=Wo.keep nd u:=⟨_,rfl⟩
 have HUN:Hid (St.keep s q u=if lc≠0 then (lc,s) else if rc≠0 then (rc,s) else ((Tr.keep s.tree nd.id u).1,{ s with tree:=(Tr.keep s.tree nd.id u).2 })):=by
  show _=_
  unfold St.keep
  rw [← hlc,← hnd,← hrc]
 have hLK:=look_any h.tr hO.tree hq
 rw [← hnd,← hlc] at hLK
 have hRM:=fun W=>Wo.keep_any nd u W
 rw [← hrc] at hRM
 obtain ⟨n1,n2,n3,n4,n5,n6⟩:=nd
 dsimp only at HUN
 have HLK:Hid (Calls Tryz.prog 96 #[.pointer (some tp),.slice A q.length cap] w fun e w'=>e=.returned (.tuple #[.agg #[.int .i64 n1,.int .i64 n2,.int .i64 n3,.int .i64 n4,.int .u64 (n5:Nat),.bool n6],.int .i64 (lc:Nat)])∧Below w.heap.size w w'):=hLK
 have HRM:Hid (∀ W,Calls Tryz.prog 112 #[.agg #[.int .i64 n1,.int .i64 n2,.int .i64 n3,.int .i64 n4,.int .u64 (n5:Nat),.bool n6],.int .u64 (u:Nat)] W fun e w'=>e=.returned (.int .i64 (rc:Nat))∧Below W.heap.size W w'):=hRM
 have HO:=Lib.hid hO
 have HU:=Lib.hid hu
 have HW:=Lib.hid hq
 have c0:w.cell? ⟨p,0,none⟩=some (.pointer (some tp)):=h.box.cell 0
 clear h hO hq hu hLK hRM hnd hlc hrc
 go_enter Tryz.func50,Tryz.ntmps50
 go_wp2_with fail
 refine HLK.out.mono ?_
 rintro e w1 ⟨rfl,hb1⟩
 obtain ⟨W2,hW2⟩:∃ W2,W2=w1.alloc (.cells #[.int .i64 n1,.int .i64 n2,.int .i64 n3,.int .i64 n4,.int .u64 (n5:Nat),.bool n6] 31):=⟨_,rfl⟩
 obtain ⟨g,hg⟩:∃ g,g=w1.heap.size:=⟨_,rfl⟩
 have HZ2:Hid (Blk W2 g 31 [.int .i64 n1,.int .i64 n2,.int .i64 n3,.int .i64 n4,.int .u64 (n5:Nat),.bool n6]):=by show Blk _ _ _ _;rw [hW2,hg];exact Blk.new w1 _ _
 have hb2:Below w1.heap.size w1 W2:=by rw [hW2];exact below_new w1 _
 have HB2:Hid (Below w.heap.size w W2):=hb1.trans (hb2.mono hb1.size)
 have HN2:Hid (Nw p (.pointer (some tp)) sv qs w (StS p B1 B2 D) B1 B2 D s W2):=(HN0.out.later hb1).later hb2
 clear hb1 hb2 HLK HN0 c0
 go_upto_region 2 with (fail)
 rw [← hW2,← hg]
 clear hW2 hg
 by_cases hc:lc=0
 ·subst hc
  have HUN2:Hid (St.keep s q u=if rc≠0 then (rc,s) else ((Tr.keep s.tree n1 u).1,{ s with tree:=(Tr.keep s.tree n1 u).2 })):=HUN.out
  have z0:=HZ2.out.cell 0
  have z1:=HZ2.out.cell 1
  have z2:=HZ2.out.cell 2
  have z3:=HZ2.out.cell 3
  have z4:=HZ2.out.cell 4
  have z5:=HZ2.out.cell 5
  have c0:W2.cell? ⟨p,0,none⟩=some (.pointer (some tp)):=HN2.out.in_.box.cell 0
  have c2:W2.cell? ⟨p,2,none⟩=some (.int .u64 (s.now:Nat)):=HN2.out.in_.box.cell 2
  go_wp2_with fail
  refine (HRM.out W2).mono ?_
  rintro e w3 ⟨rfl,hb3⟩
  have HN3:Hid (Nw p (.pointer (some tp)) sv qs w (StS p B1 B2 D) B1 B2 D s w3):=HN2.out.later hb3
  have HB3:Hid (Below w.heap.size w w3):=HB2.out.trans (hb3.mono HB2.out.size)
  have HZ3:Hid (Blk w3 g 31 [.int .i64 n1,.int .i64 n2,.int .i64 n3,.int .i64 n4,.int .u64 (n5:Nat),.bool n6]):=HZ2.out.below hb3 HZ2.out.lt
  clear hb3 c0 c2 z0 z1 z2 z3 z4 z5
  by_cases hr:rc=0
  ·subst hr
   have HUN3:Hid (St.keep s q u=((Tr.keep s.tree n1 u).1,{ s with tree:=(Tr.keep s.tree n1 u).2 })):=HUN2.out
   have c0:w3.cell? ⟨p,0,none⟩=some (.pointer (some tp)):=HN3.out.in_.box.cell 0
   have z0:=HZ3.out.cell 0
   go_upto_region 7 with (fail)
   go_still_tail 7,(by kernel_rfl)
   change wpList _ _ _ _ _ w3.drew
   obtain ⟨wd,hwd⟩:∃ wd,wd=w3.drew:=⟨_,rfl⟩
   have hbd:Below w3.heap.size w3 wd:=by rw [hwd];exact below_drew w3
   have HND:Hid (Nw p (.pointer (some tp)) sv qs w (StS p B1 B2 D) B1 B2 D s wd):=HN3.out.later hbd
   rw [← hwd]
   clear hwd hbd
   have HM:=Lib.hid (t_keep HND.out.in_.tr HO.out.tree n1 u HU.out)
   go_wp2_with fail
   refine HM.out.mono ?_
   intro e w4 ht
   obtain ⟨rfl,B1',hn4,_⟩:=HND.out.turnT ht
   have HN4:=Lib.hid hn4
   clear ht hn4
   go_wp2_with fail
   go_ret
   rw [HUN3.out]
   exact HN4.out.done _
  ·have hri:((rc:Int)==0)=false:=by rw [beq_eq_false_iff_ne];omega
   have HUN3:Hid (St.keep s q u=(rc,s)):=by show _=_;rw [HUN2.out,if_pos hr]
   clear hr
   go_wp2_with fail
   go_ret
   rw [HUN3.out]
   exact HN3.out.done _
 ·have hci:((lc:Int)==0)=false:=by rw [beq_eq_false_iff_ne];omega
  have HUN2:Hid (St.keep s q u=(lc,s)):=by show _=_;rw [HUN.out,if_pos hc]
  clear hc
  go_wp2_with fail
  go_ret
  rw [HUN2.out]
  exact HN2.out.done _
end Sm
end Go.Proofs.YtbnpgakmhhfjkaaGreatDoor
