/-
  OWN WORK. Law 14: StateSnaps.
-/
import Derived.Test.YtbnpgakmhhfjkaaGreatDoorZ19
import Derived.Test.YtbnpgakmhhfjkaaGreatDoorZStSnap
namespace Go.Proofs.YtbnpgakmhhfjkaaGreatDoor
open Go.RowKit Rc
open Tr (Nm En T)
namespace Sm
set_option maxHeartbeats 8000000 in
set_option maxRecDepth 100000 in
theorem snaps_at (w:World) (A:Option Addr) (l:Bs) (cap:Nat) (hr:Rd w A l) (hc:l.length≤cap) (hl:l.length≤9223372036854775807) (nu nn:Nat) (hK:KAt w) :
    Calls Tryz.prog 12 #[.slice A l.length cap,.int .u64 (nu:Nat),.int .u64 (nn:Nat)] w fun e w'=>e=.returned (.bool true)∧Below w.heap.size w w':=by
 have HK:=Lib.hid hK
 have HNEW:=Lib.hid (SP.new w)
 have HCU:=Lib.hid (fun W=>cut_any A l cap 200 hc (by decide) hl W)
 obtain ⟨d,hd⟩:∃ d,d=l.take 200:=⟨_,rfl⟩
 have HRD:Hid (Rd w A d):=by show Rd w A d;rw [hd];exact hr.take 200
 have HDC:Hid (d.length≤200∧d.length≤cap):=by show _∧_;rw [hd,List.length_take];omega
 rw [← hd] at HCU
 obtain ⟨u,hu⟩:∃ u,u=nu % 50:=⟨_,rfl⟩
 obtain ⟨nw,hn⟩:∃ u,u=nn % 60:=⟨_,rfl⟩
 have hu50:u<50:=by omega
 have hn60:nw<60:=by omega
 have e1:(nu:Int) % 50=(u:Int):=by omega
 have e2:(nn:Int) % 60=(nw:Int):=by omega
 have e3:(nu:Int).tmod 50=(u:Int):=by rw [hu];exact (Int.ofNat_tmod nu 50).symm
 have e4:(nn:Int).tmod 60=(nw:Int):=by rw [hn];exact (Int.ofNat_tmod nn 60).symm
 have HU:Hid (u<50∧nw<60):=⟨hu50,hn60⟩
 have HP1:Hid (St.do_ (St.one [] 0 false (.w 1)) (St.opn 5 [] 0 0 d)=(St.num (d.length:Nat),St.one d 0 false (.w 1))):=St.one_write d (by have:=HDC.out;omega)
 have HP2:Hid (St.do_ (St.one d 0 false (.w 1)) (St.opn 6 [] 0 u [])=(St.no 0,St.one d u true .free)):=St.one_close d u (by omega)
 obtain ⟨H,hH⟩:∃ H,H=St.hashOf d u:=⟨_,rfl⟩
 have HP3:Hid (St.do_ (St.one d u true .free) (St.opnS 14 [] 0)=(St.num 1,St.sq (St.fA d u true) (St.sn H d u) 0 .free)):=by show _=_;rw [hH];exact St.sn_take d u
 have HP4:Hid (St.do_ (St.sq (St.fA d u true) (St.sn H d u) 0 .free) (St.opn 16 [] 0 nw [])=(St.no 0,St.sq (St.fA d u true) (St.sn H d u) nw .free)):=St.sn_tick nw _ _ (by omega)
 have HO1:Hid (St.Ok (St.one [] 0 false (.w 1))):=ok_next St.new_ok (by decide) St.one_create
 have HO2:Hid (St.Ok (St.one d 0 false (.w 1))):=ok_next HO1.out (show (1:Int)<_ by decide) HP1.out
 have HO3:Hid (St.Ok (St.one d u true .free)):=ok_next HO2.out (show (1:Int)<_ by decide) HP2.out
 have HO4:Hid (St.Ok (St.sq (St.fA d u true) (St.sn H d u) 0 .free)):=ok_next HO3.out (show (1:Int)<_ by decide) HP3.out
 have HO5:Hid (St.Ok (St.sq (St.fA d u true) (St.sn H d u) nw .free)):=ok_next HO4.out (show (2:Int)<_ by decide) HP4.out
 clear hK hr hc hl hd hu hn hH hu50 hn60
 go_enter Tryz.func12,Tryz.ntmps12
 go_wp2_with fail
 refine HNEW.out.mono ?_
 rintro e w1 ⟨p,rfl,HS0⟩
 clear HNEW
 go_wp2_with fail
 refine (HCU.out w1).mono ?_
 rintro e _ ⟨rfl,rfl⟩
 clear HCU
 obtain ⟨WL,hW⟩:∃ W,W=w1.alloc (.cells #[.int .i64 1,.string { data:=#[47,97] },.string { data:=#[] },.int .i64 0,.int .i64 0,.int .i64 0,.int .u64 0,.int .i64 0,.slice none 0 0,.int .i64 5,.string { data:=#[] },.string { data:=#[] },.int .i64 0,.int .i64 0,.int .i64 0,.int .u64 0,.int .i64 0,.slice A d.length cap,.int .i64 6,.string { data:=#[] },.string { data:=#[] },.int .i64 0,.int .i64 0,.int .i64 0,.int .u64 (u:Nat),.int .i64 0,.slice none 0 0,.int .i64 14,.string { data:=#[] },.string { data:=#[] },.int .i64 0,.int .i64 0,.int .i64 0,.int .u64 0,.int .i64 0,.slice none 0 0,.int .i64 16,.string { data:=#[] },.string { data:=#[] },.int .i64 0,.int .i64 0,.int .i64 0,.int .u64 (nw:Nat),.int .i64 0,.slice none 0 0] 36):=⟨_,rfl⟩
 obtain ⟨gL,hg⟩:∃ g,g=w1.heap.size:=⟨_,rfl⟩
 have HXL0:Hid (Blk WL gL 36 [.int .i64 1,.string { data:=#[47,97] },.string { data:=#[] },.int .i64 0,.int .i64 0,.int .i64 0,.int .u64 0,.int .i64 0,.slice none 0 0,.int .i64 5,.string { data:=#[] },.string { data:=#[] },.int .i64 0,.int .i64 0,.int .i64 0,.int .u64 0,.int .i64 0,.slice A d.length cap,.int .i64 6,.string { data:=#[] },.string { data:=#[] },.int .i64 0,.int .i64 0,.int .i64 0,.int .u64 (u:Nat),.int .i64 0,.slice none 0 0,.int .i64 14,.string { data:=#[] },.string { data:=#[] },.int .i64 0,.int .i64 0,.int .i64 0,.int .u64 0,.int .i64 0,.slice none 0 0,.int .i64 16,.string { data:=#[] },.string { data:=#[] },.int .i64 0,.int .i64 0,.int .i64 0,.int .u64 (nw:Nat),.int .i64 0,.slice none 0 0]):=by show Blk _ _ _ _;rw [hW,hg];exact Blk.new w1 _ _
 have hbn:Below w1.heap.size w1 WL:=by rw [hW];exact below_new w1 _
 have HSL:Hid (SP w (.pointer (some ⟨p,0,none⟩)) _ (fun b=>b=gL∨(fun _=>False) b) WL):=HS0.out.made hbn gL (Nat.le_of_eq hg.symm) HXL0.out.lt
 have HBL:Hid (Below w.heap.size w WL):=HSL.out.low
 clear hbn HS0
 go_wp2_with fail
 rw [← hW,← hg]
 clear hW hg
 go_loopw [9,36] (fun t9 t36 wr=>∃ (i:Nat) (v9:Value),t9=v9∧t36=.int .i64 (i:Nat)∧i≤5∧Hid (SP w (.pointer (some ⟨p,0,none⟩)) (List.getD [St.new,(St.one [] 0 false (.w 1)),(St.one d 0 false (.w 1)),(St.one d u true .free),(St.sq (St.fA d u true) (St.sn H d u) 0 .free),(St.sq (St.fA d u true) (St.sn H d u) nw .free)] i St.new) (fun b=>b=gL∨(fun _=>False) b) wr)∧Hid (Blk wr gL 36 [.int .i64 1,.string { data:=#[47,97] },.string { data:=#[] },.int .i64 0,.int .i64 0,.int .i64 0,.int .u64 0,.int .i64 0,.slice none 0 0,.int .i64 5,.string { data:=#[] },.string { data:=#[] },.int .i64 0,.int .i64 0,.int .i64 0,.int .u64 0,.int .i64 0,.slice A d.length cap,.int .i64 6,.string { data:=#[] },.string { data:=#[] },.int .i64 0,.int .i64 0,.int .i64 0,.int .u64 (u:Nat),.int .i64 0,.slice none 0 0,.int .i64 14,.string { data:=#[] },.string { data:=#[] },.int .i64 0,.int .i64 0,.int .i64 0,.int .u64 0,.int .i64 0,.slice none 0 0,.int .i64 16,.string { data:=#[] },.string { data:=#[] },.int .i64 0,.int .i64 0,.int .i64 0,.int .u64 (nw:Nat),.int .i64 0,.slice none 0 0])) (fun _ t36 _=>5-(match t36 with|.int _ k=>k.toNat|_=>0))
 case atStart=>exact ⟨0,_,rfl,rfl,by omega,HSL,HXL0⟩
 case round =>
  obtain ⟨i,v9,rfl,rfl,hi,HSi,HXi⟩:=hrel
  clear HSL HXL0
  have hix:i=0∨i=1∨i=2∨i=3∨i=4∨i=5:=by omega
  rcases hix with rfl|rfl|rfl|rfl|rfl|rfl
  ·have HSx:Hid (SP w (.pointer (some ⟨p,0,none⟩)) St.new (fun b=>b=gL∨(fun _=>False) b) wr):=HSi
   clear HSi
   have c0:=HXi.out.cell 0
   have c1:=HXi.out.cell 1
   have c2:=HXi.out.cell 2
   have c3:=HXi.out.cell 3
   have c4:=HXi.out.cell 4
   have c5:=HXi.out.cell 5
   have c6:=HXi.out.cell 6
   have c7:=HXi.out.cell 7
   have c8:=HXi.out.cell 8
   obtain ⟨WO,hWO⟩:∃ W,W=wr.alloc (.cells #[.int .i64 1,.string { data:=#[47,97] },.string { data:=#[] },.int .i64 0,.int .i64 0,.int .i64 0,.int .u64 0,.int .i64 0,.slice none 0 0] 36):=⟨_,rfl⟩
   obtain ⟨gO,hgO⟩:∃ g,g=wr.heap.size:=⟨_,rfl⟩
   have HXO:Hid (Blk WO gO 36 [.int .i64 1,.string { data:=#[47,97] },.string { data:=#[] },.int .i64 0,.int .i64 0,.int .i64 0,.int .u64 0,.int .i64 0,.slice none 0 0]):=by show Blk _ _ _ _;rw [hWO,hgO];exact Blk.new wr _ _
   have hbn:Below wr.heap.size wr WO:=by rw [hWO];exact below_new wr _
   have HSO:Hid (SP w (.pointer (some ⟨p,0,none⟩)) St.new (fun b=>b=gL∨(fun _=>False) b) WO):=HSx.out.later hbn
   have HXi2:Hid (Blk WO gL 36 [.int .i64 1,.string { data:=#[47,97] },.string { data:=#[] },.int .i64 0,.int .i64 0,.int .i64 0,.int .u64 0,.int .i64 0,.slice none 0 0,.int .i64 5,.string { data:=#[] },.string { data:=#[] },.int .i64 0,.int .i64 0,.int .i64 0,.int .u64 0,.int .i64 0,.slice A d.length cap,.int .i64 6,.string { data:=#[] },.string { data:=#[] },.int .i64 0,.int .i64 0,.int .i64 0,.int .u64 (u:Nat),.int .i64 0,.slice none 0 0,.int .i64 14,.string { data:=#[] },.string { data:=#[] },.int .i64 0,.int .i64 0,.int .i64 0,.int .u64 0,.int .i64 0,.slice none 0 0,.int .i64 16,.string { data:=#[] },.string { data:=#[] },.int .i64 0,.int .i64 0,.int .i64 0,.int .u64 (nw:Nat),.int .i64 0,.slice none 0 0]):=HXi.out.below hbn HXi.out.lt
   clear hbn HSx HXi
   go_upto_region 9 with (fail)
   rw [← hWO,← hgO]
   clear hWO hgO c0 c1 c2 c3 c4 c5 c6 c7 c8
   have x0:=HXO.out.cell 0
   have x1:=HXO.out.cell 1
   have x2:=HXO.out.cell 2
   have x3:=HXO.out.cell 3
   have x4:=HXO.out.cell 4
   have x5:=HXO.out.cell 5
   have x6:=HXO.out.cell 6
   have x7:=HXO.out.cell 7
   have x8:=HXO.out.cell 8
   have HM:Hid (Calls Tryz.prog 15 #[(.pointer (some ⟨p,0,none⟩)),.agg #[.int .i64 1,.string { data:=#[47,97] },.string { data:=#[] },.int .i64 0,.int .i64 0,.int .i64 0,.int .u64 0,.int .i64 0,.slice none 0 0]] WO (SDoP w (.pointer (some ⟨p,0,none⟩)) (St.one [] 0 false (.w 1)) 0 0 (fun b=>b=gL∨(fun _=>False) b) WO)):=HSO.out.doP (St.one_create) St.new_ok (St.opn 1 [47,97] 0 0 []) rfl ((fit_small 1 [47,97] [] 0 0 0 0 0 [] (by decide) (by decide) (by decide) (by decide) (by decide) (by decide) (by decide) (by decide) (by decide))) none 0 (by decide) (Rd.nil _ _) (KAt.below HK.out HSO.out.low HK.out.pos)
   go_wp2_with fail
   refine HM.out.mono ?_
   rintro e wd1 ⟨RA1,rc1,RB1,rd1,rfl,HS1,HQ1⟩
   have HX0_1:Hid (Blk wd1 gL 36 [.int .i64 1,.string { data:=#[47,97] },.string { data:=#[] },.int .i64 0,.int .i64 0,.int .i64 0,.int .u64 0,.int .i64 0,.slice none 0 0,.int .i64 5,.string { data:=#[] },.string { data:=#[] },.int .i64 0,.int .i64 0,.int .i64 0,.int .u64 0,.int .i64 0,.slice A d.length cap,.int .i64 6,.string { data:=#[] },.string { data:=#[] },.int .i64 0,.int .i64 0,.int .i64 0,.int .u64 (u:Nat),.int .i64 0,.slice none 0 0,.int .i64 14,.string { data:=#[] },.string { data:=#[] },.int .i64 0,.int .i64 0,.int .i64 0,.int .u64 0,.int .i64 0,.slice none 0 0,.int .i64 16,.string { data:=#[] },.string { data:=#[] },.int .i64 0,.int .i64 0,.int .i64 0,.int .u64 (nw:Nat),.int .i64 0,.slice none 0 0]):=(HQ1.out gL (.inl rfl)).trans HXi2.out
   clear HM HQ1 HSO HXi2 x0 x1 x2 x3 x4 x5 x6 x7 x8
   have hfd:∀ W:World,(Instr.field 33 (.agg #[.int .i64 0,.int .i64 0,.slice RA1 0 rc1,.slice RB1 0 rd1,.int .i64 0,.int .i64 0,.int .i64 0,.int .i64 0,.int .u64 0,.bool false]) 0).run Tryz.prog W=.ok (.int .i64 0) W:=fun _=>by kernel_rfl
   go_wp2_with fail
   go_roundw
   case rel=>exact ⟨1,_,rfl,by go_num,by omega,HS1,HX0_1⟩
   case measure=>simp
  ·have HSx:Hid (SP w (.pointer (some ⟨p,0,none⟩)) (St.one [] 0 false (.w 1)) (fun b=>b=gL∨(fun _=>False) b) wr):=HSi
   clear HSi
   have c0:=HXi.out.cell 9
   have c1:=HXi.out.cell 10
   have c2:=HXi.out.cell 11
   have c3:=HXi.out.cell 12
   have c4:=HXi.out.cell 13
   have c5:=HXi.out.cell 14
   have c6:=HXi.out.cell 15
   have c7:=HXi.out.cell 16
   have c8:=HXi.out.cell 17
   obtain ⟨WO,hWO⟩:∃ W,W=wr.alloc (.cells #[.int .i64 5,.string { data:=#[] },.string { data:=#[] },.int .i64 0,.int .i64 0,.int .i64 0,.int .u64 0,.int .i64 0,.slice A d.length cap] 36):=⟨_,rfl⟩
   obtain ⟨gO,hgO⟩:∃ g,g=wr.heap.size:=⟨_,rfl⟩
   have HXO:Hid (Blk WO gO 36 [.int .i64 5,.string { data:=#[] },.string { data:=#[] },.int .i64 0,.int .i64 0,.int .i64 0,.int .u64 0,.int .i64 0,.slice A d.length cap]):=by show Blk _ _ _ _;rw [hWO,hgO];exact Blk.new wr _ _
   have hbn:Below wr.heap.size wr WO:=by rw [hWO];exact below_new wr _
   have HSO:Hid (SP w (.pointer (some ⟨p,0,none⟩)) (St.one [] 0 false (.w 1)) (fun b=>b=gL∨(fun _=>False) b) WO):=HSx.out.later hbn
   have HXi2:Hid (Blk WO gL 36 [.int .i64 1,.string { data:=#[47,97] },.string { data:=#[] },.int .i64 0,.int .i64 0,.int .i64 0,.int .u64 0,.int .i64 0,.slice none 0 0,.int .i64 5,.string { data:=#[] },.string { data:=#[] },.int .i64 0,.int .i64 0,.int .i64 0,.int .u64 0,.int .i64 0,.slice A d.length cap,.int .i64 6,.string { data:=#[] },.string { data:=#[] },.int .i64 0,.int .i64 0,.int .i64 0,.int .u64 (u:Nat),.int .i64 0,.slice none 0 0,.int .i64 14,.string { data:=#[] },.string { data:=#[] },.int .i64 0,.int .i64 0,.int .i64 0,.int .u64 0,.int .i64 0,.slice none 0 0,.int .i64 16,.string { data:=#[] },.string { data:=#[] },.int .i64 0,.int .i64 0,.int .i64 0,.int .u64 (nw:Nat),.int .i64 0,.slice none 0 0]):=HXi.out.below hbn HXi.out.lt
   clear hbn HSx HXi
   go_upto_region 9 with (fail)
   rw [← hWO,← hgO]
   clear hWO hgO c0 c1 c2 c3 c4 c5 c6 c7 c8
   have x0:=HXO.out.cell 0
   have x1:=HXO.out.cell 1
   have x2:=HXO.out.cell 2
   have x3:=HXO.out.cell 3
   have x4:=HXO.out.cell 4
   have x5:=HXO.out.cell 5
   have x6:=HXO.out.cell 6
   have x7:=HXO.out.cell 7
   have x8:=HXO.out.cell 8
   have HM:Hid (Calls Tryz.prog 15 #[(.pointer (some ⟨p,0,none⟩)),.agg #[.int .i64 5,.string { data:=#[] },.string { data:=#[] },.int .i64 0,.int .i64 0,.int .i64 0,.int .u64 0,.int .i64 0,.slice A d.length cap]] WO (SDoP w (.pointer (some ⟨p,0,none⟩)) (St.one d 0 false (.w 1)) 0 (d.length:Nat) (fun b=>b=gL∨(fun _=>False) b) WO)):=HSO.out.doP (HP1.out) HO1.out (St.opn 5 [] 0 0 d) rfl ((fit_small 5 [] [] 0 0 0 0 0 d (by decide) (by decide) (by decide) (by decide) (by decide) (by decide) (by decide) (by decide) (by have:=HDC.out;omega))) A cap (show (1:Int)<1000000000000000 by decide) (HRD.out.below HSO.out.low) (KAt.below HK.out HSO.out.low HK.out.pos)
   go_wp2_with fail
   refine HM.out.mono ?_
   rintro e wd1 ⟨RA1,rc1,RB1,rd1,rfl,HS1,HQ1⟩
   have HX0_1:Hid (Blk wd1 gL 36 [.int .i64 1,.string { data:=#[47,97] },.string { data:=#[] },.int .i64 0,.int .i64 0,.int .i64 0,.int .u64 0,.int .i64 0,.slice none 0 0,.int .i64 5,.string { data:=#[] },.string { data:=#[] },.int .i64 0,.int .i64 0,.int .i64 0,.int .u64 0,.int .i64 0,.slice A d.length cap,.int .i64 6,.string { data:=#[] },.string { data:=#[] },.int .i64 0,.int .i64 0,.int .i64 0,.int .u64 (u:Nat),.int .i64 0,.slice none 0 0,.int .i64 14,.string { data:=#[] },.string { data:=#[] },.int .i64 0,.int .i64 0,.int .i64 0,.int .u64 0,.int .i64 0,.slice none 0 0,.int .i64 16,.string { data:=#[] },.string { data:=#[] },.int .i64 0,.int .i64 0,.int .i64 0,.int .u64 (nw:Nat),.int .i64 0,.slice none 0 0]):=(HQ1.out gL (.inl rfl)).trans HXi2.out
   clear HM HQ1 HSO HXi2 x0 x1 x2 x3 x4 x5 x6 x7 x8
   have hfd:∀ W:World,(Instr.field 33 (.agg #[.int .i64 0,.int .i64 (d.length:Nat),.slice RA1 0 rc1,.slice RB1 0 rd1,.int .i64 0,.int .i64 0,.int .i64 0,.int .i64 0,.int .u64 0,.bool false]) 0).run Tryz.prog W=.ok (.int .i64 0) W:=fun _=>by kernel_rfl
   go_wp2_with fail
   go_roundw
   case rel=>exact ⟨2,_,rfl,by go_num,by omega,HS1,HX0_1⟩
   case measure=>simp
  ·have HSx:Hid (SP w (.pointer (some ⟨p,0,none⟩)) (St.one d 0 false (.w 1)) (fun b=>b=gL∨(fun _=>False) b) wr):=HSi
   clear HSi
   have c0:=HXi.out.cell 18
   have c1:=HXi.out.cell 19
   have c2:=HXi.out.cell 20
   have c3:=HXi.out.cell 21
   have c4:=HXi.out.cell 22
   have c5:=HXi.out.cell 23
   have c6:=HXi.out.cell 24
   have c7:=HXi.out.cell 25
   have c8:=HXi.out.cell 26
   obtain ⟨WO,hWO⟩:∃ W,W=wr.alloc (.cells #[.int .i64 6,.string { data:=#[] },.string { data:=#[] },.int .i64 0,.int .i64 0,.int .i64 0,.int .u64 (u:Nat),.int .i64 0,.slice none 0 0] 36):=⟨_,rfl⟩
   obtain ⟨gO,hgO⟩:∃ g,g=wr.heap.size:=⟨_,rfl⟩
   have HXO:Hid (Blk WO gO 36 [.int .i64 6,.string { data:=#[] },.string { data:=#[] },.int .i64 0,.int .i64 0,.int .i64 0,.int .u64 (u:Nat),.int .i64 0,.slice none 0 0]):=by show Blk _ _ _ _;rw [hWO,hgO];exact Blk.new wr _ _
   have hbn:Below wr.heap.size wr WO:=by rw [hWO];exact below_new wr _
   have HSO:Hid (SP w (.pointer (some ⟨p,0,none⟩)) (St.one d 0 false (.w 1)) (fun b=>b=gL∨(fun _=>False) b) WO):=HSx.out.later hbn
   have HXi2:Hid (Blk WO gL 36 [.int .i64 1,.string { data:=#[47,97] },.string { data:=#[] },.int .i64 0,.int .i64 0,.int .i64 0,.int .u64 0,.int .i64 0,.slice none 0 0,.int .i64 5,.string { data:=#[] },.string { data:=#[] },.int .i64 0,.int .i64 0,.int .i64 0,.int .u64 0,.int .i64 0,.slice A d.length cap,.int .i64 6,.string { data:=#[] },.string { data:=#[] },.int .i64 0,.int .i64 0,.int .i64 0,.int .u64 (u:Nat),.int .i64 0,.slice none 0 0,.int .i64 14,.string { data:=#[] },.string { data:=#[] },.int .i64 0,.int .i64 0,.int .i64 0,.int .u64 0,.int .i64 0,.slice none 0 0,.int .i64 16,.string { data:=#[] },.string { data:=#[] },.int .i64 0,.int .i64 0,.int .i64 0,.int .u64 (nw:Nat),.int .i64 0,.slice none 0 0]):=HXi.out.below hbn HXi.out.lt
   clear hbn HSx HXi
   go_upto_region 9 with (fail)
   rw [← hWO,← hgO]
   clear hWO hgO c0 c1 c2 c3 c4 c5 c6 c7 c8
   have x0:=HXO.out.cell 0
   have x1:=HXO.out.cell 1
   have x2:=HXO.out.cell 2
   have x3:=HXO.out.cell 3
   have x4:=HXO.out.cell 4
   have x5:=HXO.out.cell 5
   have x6:=HXO.out.cell 6
   have x7:=HXO.out.cell 7
   have x8:=HXO.out.cell 8
   have HM:Hid (Calls Tryz.prog 15 #[(.pointer (some ⟨p,0,none⟩)),.agg #[.int .i64 6,.string { data:=#[] },.string { data:=#[] },.int .i64 0,.int .i64 0,.int .i64 0,.int .u64 (u:Nat),.int .i64 0,.slice none 0 0]] WO (SDoP w (.pointer (some ⟨p,0,none⟩)) (St.one d u true .free) 0 0 (fun b=>b=gL∨(fun _=>False) b) WO)):=HSO.out.doP (HP2.out) HO2.out (St.opn 6 [] 0 u []) rfl ((fit_small 6 [] [] 0 0 0 u 0 [] (by decide) (by decide) (by decide) (by decide) (by decide) (by decide) (by have:=HU.out;omega) (by decide) (by decide))) none 0 (show (1:Int)<1000000000000000 by decide) (Rd.nil _ _) (KAt.below HK.out HSO.out.low HK.out.pos)
   go_wp2_with fail
   refine HM.out.mono ?_
   rintro e wd1 ⟨RA1,rc1,RB1,rd1,rfl,HS1,HQ1⟩
   have HX0_1:Hid (Blk wd1 gL 36 [.int .i64 1,.string { data:=#[47,97] },.string { data:=#[] },.int .i64 0,.int .i64 0,.int .i64 0,.int .u64 0,.int .i64 0,.slice none 0 0,.int .i64 5,.string { data:=#[] },.string { data:=#[] },.int .i64 0,.int .i64 0,.int .i64 0,.int .u64 0,.int .i64 0,.slice A d.length cap,.int .i64 6,.string { data:=#[] },.string { data:=#[] },.int .i64 0,.int .i64 0,.int .i64 0,.int .u64 (u:Nat),.int .i64 0,.slice none 0 0,.int .i64 14,.string { data:=#[] },.string { data:=#[] },.int .i64 0,.int .i64 0,.int .i64 0,.int .u64 0,.int .i64 0,.slice none 0 0,.int .i64 16,.string { data:=#[] },.string { data:=#[] },.int .i64 0,.int .i64 0,.int .i64 0,.int .u64 (nw:Nat),.int .i64 0,.slice none 0 0]):=(HQ1.out gL (.inl rfl)).trans HXi2.out
   clear HM HQ1 HSO HXi2 x0 x1 x2 x3 x4 x5 x6 x7 x8
   have hfd:∀ W:World,(Instr.field 33 (.agg #[.int .i64 0,.int .i64 0,.slice RA1 0 rc1,.slice RB1 0 rd1,.int .i64 0,.int .i64 0,.int .i64 0,.int .i64 0,.int .u64 0,.bool false]) 0).run Tryz.prog W=.ok (.int .i64 0) W:=fun _=>by kernel_rfl
   go_wp2_with fail
   go_roundw
   case rel=>exact ⟨3,_,rfl,by go_num,by omega,HS1,HX0_1⟩
   case measure=>simp
  ·have HSx:Hid (SP w (.pointer (some ⟨p,0,none⟩)) (St.one d u true .free) (fun b=>b=gL∨(fun _=>False) b) wr):=HSi
   clear HSi
   have c0:=HXi.out.cell 27
   have c1:=HXi.out.cell 28
   have c2:=HXi.out.cell 29
   have c3:=HXi.out.cell 30
   have c4:=HXi.out.cell 31
   have c5:=HXi.out.cell 32
   have c6:=HXi.out.cell 33
   have c7:=HXi.out.cell 34
   have c8:=HXi.out.cell 35
   obtain ⟨WO,hWO⟩:∃ W,W=wr.alloc (.cells #[.int .i64 14,.string { data:=#[] },.string { data:=#[] },.int .i64 0,.int .i64 0,.int .i64 0,.int .u64 0,.int .i64 0,.slice none 0 0] 36):=⟨_,rfl⟩
   obtain ⟨gO,hgO⟩:∃ g,g=wr.heap.size:=⟨_,rfl⟩
   have HXO:Hid (Blk WO gO 36 [.int .i64 14,.string { data:=#[] },.string { data:=#[] },.int .i64 0,.int .i64 0,.int .i64 0,.int .u64 0,.int .i64 0,.slice none 0 0]):=by show Blk _ _ _ _;rw [hWO,hgO];exact Blk.new wr _ _
   have hbn:Below wr.heap.size wr WO:=by rw [hWO];exact below_new wr _
   have HSO:Hid (SP w (.pointer (some ⟨p,0,none⟩)) (St.one d u true .free) (fun b=>b=gL∨(fun _=>False) b) WO):=HSx.out.later hbn
   have HXi2:Hid (Blk WO gL 36 [.int .i64 1,.string { data:=#[47,97] },.string { data:=#[] },.int .i64 0,.int .i64 0,.int .i64 0,.int .u64 0,.int .i64 0,.slice none 0 0,.int .i64 5,.string { data:=#[] },.string { data:=#[] },.int .i64 0,.int .i64 0,.int .i64 0,.int .u64 0,.int .i64 0,.slice A d.length cap,.int .i64 6,.string { data:=#[] },.string { data:=#[] },.int .i64 0,.int .i64 0,.int .i64 0,.int .u64 (u:Nat),.int .i64 0,.slice none 0 0,.int .i64 14,.string { data:=#[] },.string { data:=#[] },.int .i64 0,.int .i64 0,.int .i64 0,.int .u64 0,.int .i64 0,.slice none 0 0,.int .i64 16,.string { data:=#[] },.string { data:=#[] },.int .i64 0,.int .i64 0,.int .i64 0,.int .u64 (nw:Nat),.int .i64 0,.slice none 0 0]):=HXi.out.below hbn HXi.out.lt
   clear hbn HSx HXi
   go_upto_region 9 with (fail)
   rw [← hWO,← hgO]
   clear hWO hgO c0 c1 c2 c3 c4 c5 c6 c7 c8
   have x0:=HXO.out.cell 0
   have x1:=HXO.out.cell 1
   have x2:=HXO.out.cell 2
   have x3:=HXO.out.cell 3
   have x4:=HXO.out.cell 4
   have x5:=HXO.out.cell 5
   have x6:=HXO.out.cell 6
   have x7:=HXO.out.cell 7
   have x8:=HXO.out.cell 8
   have HM:Hid (Calls Tryz.prog 15 #[(.pointer (some ⟨p,0,none⟩)),.agg #[.int .i64 14,.string { data:=#[] },.string { data:=#[] },.int .i64 0,.int .i64 0,.int .i64 0,.int .u64 0,.int .i64 0,.slice none 0 0]] WO (SDoP w (.pointer (some ⟨p,0,none⟩)) (St.sq (St.fA d u true) (St.sn H d u) 0 .free) 0 1 (fun b=>b=gL∨(fun _=>False) b) WO)):=HSO.out.doP (HP3.out) HO3.out (St.opnS 14 [] 0) rfl ((fit_small 14 [] [] 0 0 0 0 0 [] (by decide) (by decide) (by decide) (by decide) (by decide) (by decide) (by decide) (by decide) (by decide))) none 0 (show (1:Int)<1000000000000000 by decide) (Rd.nil _ _) (KAt.below HK.out HSO.out.low HK.out.pos)
   go_wp2_with fail
   refine HM.out.mono ?_
   rintro e wd1 ⟨RA1,rc1,RB1,rd1,rfl,HS1,HQ1⟩
   have HX0_1:Hid (Blk wd1 gL 36 [.int .i64 1,.string { data:=#[47,97] },.string { data:=#[] },.int .i64 0,.int .i64 0,.int .i64 0,.int .u64 0,.int .i64 0,.slice none 0 0,.int .i64 5,.string { data:=#[] },.string { data:=#[] },.int .i64 0,.int .i64 0,.int .i64 0,.int .u64 0,.int .i64 0,.slice A d.length cap,.int .i64 6,.string { data:=#[] },.string { data:=#[] },.int .i64 0,.int .i64 0,.int .i64 0,.int .u64 (u:Nat),.int .i64 0,.slice none 0 0,.int .i64 14,.string { data:=#[] },.string { data:=#[] },.int .i64 0,.int .i64 0,.int .i64 0,.int .u64 0,.int .i64 0,.slice none 0 0,.int .i64 16,.string { data:=#[] },.string { data:=#[] },.int .i64 0,.int .i64 0,.int .i64 0,.int .u64 (nw:Nat),.int .i64 0,.slice none 0 0]):=(HQ1.out gL (.inl rfl)).trans HXi2.out
   clear HM HQ1 HSO HXi2 x0 x1 x2 x3 x4 x5 x6 x7 x8
   have hfd:∀ W:World,(Instr.field 33 (.agg #[.int .i64 0,.int .i64 1,.slice RA1 0 rc1,.slice RB1 0 rd1,.int .i64 0,.int .i64 0,.int .i64 0,.int .i64 0,.int .u64 0,.bool false]) 0).run Tryz.prog W=.ok (.int .i64 0) W:=fun _=>by kernel_rfl
   go_wp2_with fail
   go_roundw
   case rel=>exact ⟨4,_,rfl,by go_num,by omega,HS1,HX0_1⟩
   case measure=>simp
  ·have HSx:Hid (SP w (.pointer (some ⟨p,0,none⟩)) (St.sq (St.fA d u true) (St.sn H d u) 0 .free) (fun b=>b=gL∨(fun _=>False) b) wr):=HSi
   clear HSi
   have c0:=HXi.out.cell 36
   have c1:=HXi.out.cell 37
   have c2:=HXi.out.cell 38
   have c3:=HXi.out.cell 39
   have c4:=HXi.out.cell 40
   have c5:=HXi.out.cell 41
   have c6:=HXi.out.cell 42
   have c7:=HXi.out.cell 43
   have c8:=HXi.out.cell 44
   obtain ⟨WO,hWO⟩:∃ W,W=wr.alloc (.cells #[.int .i64 16,.string { data:=#[] },.string { data:=#[] },.int .i64 0,.int .i64 0,.int .i64 0,.int .u64 (nw:Nat),.int .i64 0,.slice none 0 0] 36):=⟨_,rfl⟩
   obtain ⟨gO,hgO⟩:∃ g,g=wr.heap.size:=⟨_,rfl⟩
   have HXO:Hid (Blk WO gO 36 [.int .i64 16,.string { data:=#[] },.string { data:=#[] },.int .i64 0,.int .i64 0,.int .i64 0,.int .u64 (nw:Nat),.int .i64 0,.slice none 0 0]):=by show Blk _ _ _ _;rw [hWO,hgO];exact Blk.new wr _ _
   have hbn:Below wr.heap.size wr WO:=by rw [hWO];exact below_new wr _
   have HSO:Hid (SP w (.pointer (some ⟨p,0,none⟩)) (St.sq (St.fA d u true) (St.sn H d u) 0 .free) (fun b=>b=gL∨(fun _=>False) b) WO):=HSx.out.later hbn
   have HXi2:Hid (Blk WO gL 36 [.int .i64 1,.string { data:=#[47,97] },.string { data:=#[] },.int .i64 0,.int .i64 0,.int .i64 0,.int .u64 0,.int .i64 0,.slice none 0 0,.int .i64 5,.string { data:=#[] },.string { data:=#[] },.int .i64 0,.int .i64 0,.int .i64 0,.int .u64 0,.int .i64 0,.slice A d.length cap,.int .i64 6,.string { data:=#[] },.string { data:=#[] },.int .i64 0,.int .i64 0,.int .i64 0,.int .u64 (u:Nat),.int .i64 0,.slice none 0 0,.int .i64 14,.string { data:=#[] },.string { data:=#[] },.int .i64 0,.int .i64 0,.int .i64 0,.int .u64 0,.int .i64 0,.slice none 0 0,.int .i64 16,.string { data:=#[] },.string { data:=#[] },.int .i64 0,.int .i64 0,.int .i64 0,.int .u64 (nw:Nat),.int .i64 0,.slice none 0 0]):=HXi.out.below hbn HXi.out.lt
   clear hbn HSx HXi
   go_upto_region 9 with (fail)
   rw [← hWO,← hgO]
   clear hWO hgO c0 c1 c2 c3 c4 c5 c6 c7 c8
   have x0:=HXO.out.cell 0
   have x1:=HXO.out.cell 1
   have x2:=HXO.out.cell 2
   have x3:=HXO.out.cell 3
   have x4:=HXO.out.cell 4
   have x5:=HXO.out.cell 5
   have x6:=HXO.out.cell 6
   have x7:=HXO.out.cell 7
   have x8:=HXO.out.cell 8
   have HM:Hid (Calls Tryz.prog 15 #[(.pointer (some ⟨p,0,none⟩)),.agg #[.int .i64 16,.string { data:=#[] },.string { data:=#[] },.int .i64 0,.int .i64 0,.int .i64 0,.int .u64 (nw:Nat),.int .i64 0,.slice none 0 0]] WO (SDoP w (.pointer (some ⟨p,0,none⟩)) (St.sq (St.fA d u true) (St.sn H d u) nw .free) 0 0 (fun b=>b=gL∨(fun _=>False) b) WO)):=HSO.out.doP (HP4.out) HO4.out (St.opn 16 [] 0 nw []) rfl ((fit_small 16 [] [] 0 0 0 nw 0 [] (by decide) (by decide) (by decide) (by decide) (by decide) (by decide) (by have:=HU.out;omega) (by decide) (by decide))) none 0 (show (2:Int)<1000000000000000 by decide) (Rd.nil _ _) (KAt.below HK.out HSO.out.low HK.out.pos)
   go_wp2_with fail
   refine HM.out.mono ?_
   rintro e wd1 ⟨RA1,rc1,RB1,rd1,rfl,HS1,HQ1⟩
   have HX0_1:Hid (Blk wd1 gL 36 [.int .i64 1,.string { data:=#[47,97] },.string { data:=#[] },.int .i64 0,.int .i64 0,.int .i64 0,.int .u64 0,.int .i64 0,.slice none 0 0,.int .i64 5,.string { data:=#[] },.string { data:=#[] },.int .i64 0,.int .i64 0,.int .i64 0,.int .u64 0,.int .i64 0,.slice A d.length cap,.int .i64 6,.string { data:=#[] },.string { data:=#[] },.int .i64 0,.int .i64 0,.int .i64 0,.int .u64 (u:Nat),.int .i64 0,.slice none 0 0,.int .i64 14,.string { data:=#[] },.string { data:=#[] },.int .i64 0,.int .i64 0,.int .i64 0,.int .u64 0,.int .i64 0,.slice none 0 0,.int .i64 16,.string { data:=#[] },.string { data:=#[] },.int .i64 0,.int .i64 0,.int .i64 0,.int .u64 (nw:Nat),.int .i64 0,.slice none 0 0]):=(HQ1.out gL (.inl rfl)).trans HXi2.out
   clear HM HQ1 HSO HXi2 x0 x1 x2 x3 x4 x5 x6 x7 x8
   have hfd:∀ W:World,(Instr.field 33 (.agg #[.int .i64 0,.int .i64 0,.slice RA1 0 rc1,.slice RB1 0 rd1,.int .i64 0,.int .i64 0,.int .i64 0,.int .i64 0,.int .u64 0,.bool false]) 0).run Tryz.prog W=.ok (.int .i64 0) W:=fun _=>by kernel_rfl
   go_wp2_with fail
   go_roundw
   case rel=>exact ⟨5,_,rfl,by go_num,by omega,HS1,HX0_1⟩
   case measure=>simp
  ·have HSx:Hid (SP w (.pointer (some ⟨p,0,none⟩)) (St.sq (St.fA d u true) (St.sn H d u) nw .free) (fun _=>False) wr):=HSi.out.less fun _ h=>h.elim
   clear HSi HXi
   have hKL:HK=HK:=rfl
   clear hKL
   by_cases hk:nw<u
   ·have hk1:(nw:Int)<(u:Int):=by omega
    have HE1:Hid (St.do_ (St.sq (St.fA d u true) (St.sn H d u) nw .free) (St.opn 8 [47,97] 0 0 [])=(St.no 28,(St.sq (St.fA d u true) (St.sn H d u) nw .free))):=by apply St.sn_unlink_kept;exact hk
    have HE2:Hid (St.do_ (St.sq (St.fA d u true) (St.sn H d u) nw .free) (St.opnS 3 [47,97] 1)=(St.num 0,(St.sq (St.fA d u true) (St.sn H d u) nw (.r d)))):=by apply St.sn_open
    have HE3:Hid (∀ l,St.do_ (St.sq (St.fA d u true) l nw (.r d)) ⟨4,[],[],0,0,4096,0,0,[]⟩=(⟨0,(d.length:Nat),d,[],Nd.zero⟩,St.sq (St.fA d u true) l nw (.r d))):=fun l=>by apply St.sn_read;have:=HDC.out;omega
    have HE4:Hid (St.do_ (St.sq (St.fA d u true) (St.sn H d u) nw (.r d)) (St.opnS 15 [] 1)=(St.no 28,(St.sq (St.fA d u true) (St.sn H d u) nw (.r d)))):=by apply St.sn_forget_kept;exact hk
    have HO6:Hid (St.Ok (St.sq (St.fA d u true) (St.sn H d u) nw .free)):=ok_next HO5.out (show (2:Int)<1000000000000000 by decide) HE1.out
    have HO7:Hid (St.Ok (St.sq (St.fA d u true) (St.sn H d u) nw (.r d))):=ok_next HO6.out (show (2:Int)<1000000000000000 by decide) HE2.out
    have HO8:Hid (St.Ok (St.sq (St.fA d u true) (St.sn H d u) nw (.r d))):=ok_next HO7.out (show (2:Int)<1000000000000000 by decide) HE4.out
    clear hk
    have HM:Hid (Calls Tryz.prog 15 #[(.pointer (some ⟨p,0,none⟩)),.agg #[.int .i64 8,.string { data:=#[47,97] },.string { data:=#[] },.int .i64 0,.int .i64 0,.int .i64 0,.int .u64 0,.int .i64 0,.slice none 0 0]] wr (SDoP w (.pointer (some ⟨p,0,none⟩)) (St.sq (St.fA d u true) (St.sn H d u) nw .free) 28 0 (fun _=>False) wr)):=HSx.out.doP (HE1.out) HO5.out (St.opn 8 [47,97] 0 0 []) rfl ((fit_small 8 [47,97] [] 0 0 0 0 0 [] (by decide) (by decide) (by decide) (by decide) (by decide) (by decide) (by decide) (by decide) (by decide))) none 0 (show (2:Int)<1000000000000000 by decide) (Rd.nil _ _) (KAt.below HK.out HSx.out.low HK.out.pos)
    go_wp2_with fail
    refine HM.out.mono ?_
    rintro e wd11 ⟨RA11,rc11,RB11,rd11,rfl,HS11,HQ11⟩
    clear HM HQ11 HSx 
    have hfd:∀ W:World,(Instr.field 33 (.agg #[.int .i64 28,.int .i64 0,.slice RA11 0 rc11,.slice RB11 0 rd11,.int .i64 0,.int .i64 0,.int .i64 0,.int .i64 0,.int .u64 0,.bool false]) 0).run Tryz.prog W=.ok (.int .i64 28) W:=fun _=>by kernel_rfl
    go_upto_region 14 with (fail)
    clear hfd
    have HM:Hid (Calls Tryz.prog 15 #[(.pointer (some ⟨p,0,none⟩)),.agg #[.int .i64 3,.string { data:=#[47,97] },.string { data:=#[] },.int .i64 0,.int .i64 0,.int .i64 0,.int .u64 0,.int .i64 1,.slice none 0 0]] wd11 (SDoP w (.pointer (some ⟨p,0,none⟩)) (St.sq (St.fA d u true) (St.sn H d u) nw (.r d)) 0 0 (fun _=>False) wd11)):=HS11.out.doP (HE2.out) HO6.out (St.opnS 3 [47,97] 1) rfl ((fit_small 3 [47,97] [] 0 0 0 0 1 [] (by decide) (by decide) (by decide) (by decide) (by decide) (by decide) (by decide) (by decide) (by decide))) none 0 (show (2:Int)<1000000000000000 by decide) (Rd.nil _ _) (KAt.below HK.out HS11.out.low HK.out.pos)
    go_wp2_with fail
    refine HM.out.mono ?_
    rintro e wd12 ⟨RA12,rc12,RB12,rd12,rfl,HS12,HQ12⟩
    clear HM HQ12 HS11 
    obtain ⟨Wk12,hW⟩:∃ W,W=wd12.alloc (.cells #[.int .i64 0,.int .i64 0,.slice RA12 0 rc12,.slice RB12 0 rd12,.int .i64 0,.int .i64 0,.int .i64 0,.int .i64 0,.int .u64 0,.bool false] 33):=⟨_,rfl⟩
    obtain ⟨gk12,hg⟩:∃ g,g=wd12.heap.size:=⟨_,rfl⟩
    have HXnk12:Hid (Blk Wk12 gk12 33 [.int .i64 0,.int .i64 0,.slice RA12 0 rc12,.slice RB12 0 rd12,.int .i64 0,.int .i64 0,.int .i64 0,.int .i64 0,.int .u64 0,.bool false]):=by show Blk _ _ _ _;rw [hW,hg];exact Blk.new wd12 _ _
    have hbn:Below wd12.heap.size wd12 Wk12:=by rw [hW];exact below_new wd12 _
    have HSk12:Hid (SP w (.pointer (some ⟨p,0,none⟩)) _ (fun b=>b=gk12∨(fun _=>False) b) Wk12):=HS12.out.made hbn gk12 (Nat.le_of_eq hg.symm) HXnk12.out.lt
    clear hbn HS12 
    go_upto_region 15 with (fail)
    rw [← hW,← hg]
    clear hW hg
    have x0_1:=HXnk12.out.cell 1
    have HM:Hid (Calls Tryz.prog 15 #[(.pointer (some ⟨p,0,none⟩)),.agg #[.int .i64 4,.string { data:=#[] },.string { data:=#[] },.int .i64 0,.int .i64 0,.int .i64 4096,.int .u64 0,.int .i64 0,.slice none 0 0]] Wk12 fun e w'=>∃ RA rc RB rd,e=.returned (.agg #[.int .i64 0,.int .i64 (d.length:Nat),.slice RA d.length rc,.slice RB 0 rd,.int .i64 0,.int .i64 0,.int .i64 0,.int .i64 0,.int .u64 0,.bool false])∧d.length≤rc∧Hid (Rd w' RA d)∧Hid (SP w (.pointer (some ⟨p,0,none⟩)) (St.sq (St.fA d u true) (St.sn H d u) nw (.r d)) (fun b=>(0<d.length∧RA.map (·.block)=some b)∨(fun b=>b=gk12∨(fun _=>False) b) b) w')∧Hid (∀ b,(fun b=>b=gk12∨(fun _=>False) b) b→w'.heap[b]?=Wk12.heap[b]?)):=HSk12.out.doG (HE3.out _) HO7.out (⟨4,[],[],0,0,4096,0,0,[]⟩:St.Opn) rfl ((fit_small 4 [] [] 0 0 4096 0 0 [] (by decide) (by decide) (by decide) (by decide) (by decide) (by decide) (by decide) (by decide) (by decide))) none 0 (show (2:Int)<1000000000000000 by decide) (Rd.nil _ _) (KAt.below HK.out HSk12.out.low HK.out.pos)
    go_wp2_with fail
    refine HM.out.mono ?_
    rintro e wd13 ⟨RA13,rc13,RB13,rd13,rfl,hc13,HR13,HS13,HQ13⟩
    clear hc13
    have HX0_13:Hid (Blk wd13 gk12 33 [.int .i64 0,.int .i64 0,.slice RA12 0 rc12,.slice RB12 0 rd12,.int .i64 0,.int .i64 0,.int .i64 0,.int .i64 0,.int .u64 0,.bool false]):=(HQ13.out gk12 (.inl rfl)).trans HXnk12.out
    clear HM HQ13 HSk12 HXnk12 x0_1
    obtain ⟨WrA,hW⟩:∃ W,W=wd13.alloc (.cells #[.int .i64 0,.int .i64 (d.length:Nat),.slice RA13 d.length rc13,.slice RB13 0 rd13,.int .i64 0,.int .i64 0,.int .i64 0,.int .i64 0,.int .u64 0,.bool false] 33):=⟨_,rfl⟩
    obtain ⟨grA,hg⟩:∃ g,g=wd13.heap.size:=⟨_,rfl⟩
    have HXnrA:Hid (Blk WrA grA 33 [.int .i64 0,.int .i64 (d.length:Nat),.slice RA13 d.length rc13,.slice RB13 0 rd13,.int .i64 0,.int .i64 0,.int .i64 0,.int .i64 0,.int .u64 0,.bool false]):=by show Blk _ _ _ _;rw [hW,hg];exact Blk.new wd13 _ _
    have hbn:Below wd13.heap.size wd13 WrA:=by rw [hW];exact below_new wd13 _
    have HX0_rA:Hid (Blk WrA gk12 33 [.int .i64 0,.int .i64 0,.slice RA12 0 rc12,.slice RB12 0 rd12,.int .i64 0,.int .i64 0,.int .i64 0,.int .i64 0,.int .u64 0,.bool false]):=HX0_13.out.below hbn HX0_13.out.lt
    have HX1_rA:Hid (Rd WrA RA13 d):=HR13.out.below hbn
    have HSrA:Hid (SP w (.pointer (some ⟨p,0,none⟩)) _ (fun b=>b=grA∨(fun b=>(0<d.length∧RA13.map (·.block)=some b)∨(fun b=>b=gk12∨(fun _=>False) b) b) b) WrA):=HS13.out.made hbn grA (Nat.le_of_eq hg.symm) HXnrA.out.lt
    clear hbn HS13 HX0_13 HR13
    go_upto_region 16 with (fail)
    rw [← hW,← hg]
    clear hW hg
    have HM:Hid (Calls Tryz.prog 15 #[(.pointer (some ⟨p,0,none⟩)),.agg #[.int .i64 15,.string { data:=#[] },.string { data:=#[] },.int .i64 0,.int .i64 0,.int .i64 0,.int .u64 0,.int .i64 1,.slice none 0 0]] WrA (SDoP w (.pointer (some ⟨p,0,none⟩)) (St.sq (St.fA d u true) (St.sn H d u) nw (.r d)) 28 0 (fun b=>b=grA∨(fun b=>(0<d.length∧RA13.map (·.block)=some b)∨(fun b=>b=gk12∨(fun _=>False) b) b) b) WrA)):=HSrA.out.doP (HE4.out) HO7.out (St.opnS 15 [] 1) rfl ((fit_small 15 [] [] 0 0 0 0 1 [] (by decide) (by decide) (by decide) (by decide) (by decide) (by decide) (by decide) (by decide) (by decide))) none 0 (show (2:Int)<1000000000000000 by decide) (Rd.nil _ _) (KAt.below HK.out HSrA.out.low HK.out.pos)
    go_wp2_with fail
    refine HM.out.mono ?_
    rintro e wd14 ⟨RA14,rc14,RB14,rd14,rfl,HS14,HQ14⟩
    have HX0_14:Hid (Blk wd14 gk12 33 [.int .i64 0,.int .i64 0,.slice RA12 0 rc12,.slice RB12 0 rd12,.int .i64 0,.int .i64 0,.int .i64 0,.int .i64 0,.int .u64 0,.bool false]):=(HQ14.out gk12 (.inr (.inr (.inl rfl)))).trans HX0_rA.out
    have HX1_14:Hid (Rd wd14 RA13 d):=(rd_q HX1_rA.out fun b h0 hb=>HQ14.out b (.inr (.inl ⟨h0,hb⟩)))
    have HX2_14:Hid (Blk wd14 grA 33 [.int .i64 0,.int .i64 (d.length:Nat),.slice RA13 d.length rc13,.slice RB13 0 rd13,.int .i64 0,.int .i64 0,.int .i64 0,.int .i64 0,.int .u64 0,.bool false]):=(HQ14.out grA (.inl rfl)).trans HXnrA.out
    clear HM HQ14 HSrA HX0_rA HX1_rA HXnrA
    have hfd:∀ W:World,(Instr.field 33 (.agg #[.int .i64 28,.int .i64 0,.slice RA14 0 rc14,.slice RB14 0 rd14,.int .i64 0,.int .i64 0,.int .i64 0,.int .i64 0,.int .u64 0,.bool false]) 0).run Tryz.prog W=.ok (.int .i64 28) W:=fun _=>by kernel_rfl
    go_upto_region 17 with (fail)
    clear hfd
    have x0_1:=HX0_14.out.cell 1
    have HM:Hid (Calls Tryz.prog 15 #[(.pointer (some ⟨p,0,none⟩)),.agg #[.int .i64 4,.string { data:=#[] },.string { data:=#[] },.int .i64 0,.int .i64 0,.int .i64 4096,.int .u64 0,.int .i64 0,.slice none 0 0]] wd14 fun e w'=>∃ RA rc RB rd,e=.returned (.agg #[.int .i64 0,.int .i64 (d.length:Nat),.slice RA d.length rc,.slice RB 0 rd,.int .i64 0,.int .i64 0,.int .i64 0,.int .i64 0,.int .u64 0,.bool false])∧d.length≤rc∧Hid (Rd w' RA d)∧Hid (SP w (.pointer (some ⟨p,0,none⟩)) (St.sq (St.fA d u true) (St.sn H d u) nw (.r d)) (fun b=>(0<d.length∧RA.map (·.block)=some b)∨(fun b=>b=grA∨(fun b=>(0<d.length∧RA13.map (·.block)=some b)∨(fun b=>b=gk12∨(fun _=>False) b) b) b) b) w')∧Hid (∀ b,(fun b=>b=grA∨(fun b=>(0<d.length∧RA13.map (·.block)=some b)∨(fun b=>b=gk12∨(fun _=>False) b) b) b) b→w'.heap[b]?=wd14.heap[b]?)):=HS14.out.doG (HE3.out _) HO8.out (⟨4,[],[],0,0,4096,0,0,[]⟩:St.Opn) rfl ((fit_small 4 [] [] 0 0 4096 0 0 [] (by decide) (by decide) (by decide) (by decide) (by decide) (by decide) (by decide) (by decide) (by decide))) none 0 (show (2:Int)<1000000000000000 by decide) (Rd.nil _ _) (KAt.below HK.out HS14.out.low HK.out.pos)
    go_wp2_with fail
    refine HM.out.mono ?_
    rintro e wd15 ⟨RA15,rc15,RB15,rd15,rfl,hc15,HR15,HS15,HQ15⟩
    clear hc15
    have HX0_15:Hid (Blk wd15 gk12 33 [.int .i64 0,.int .i64 0,.slice RA12 0 rc12,.slice RB12 0 rd12,.int .i64 0,.int .i64 0,.int .i64 0,.int .i64 0,.int .u64 0,.bool false]):=(HQ15.out gk12 (.inr (.inr (.inl rfl)))).trans HX0_14.out
    have HX1_15:Hid (Rd wd15 RA13 d):=(rd_q HX1_14.out fun b h0 hb=>HQ15.out b (.inr (.inl ⟨h0,hb⟩)))
    have HX2_15:Hid (Blk wd15 grA 33 [.int .i64 0,.int .i64 (d.length:Nat),.slice RA13 d.length rc13,.slice RB13 0 rd13,.int .i64 0,.int .i64 0,.int .i64 0,.int .i64 0,.int .u64 0,.bool false]):=(HQ15.out grA (.inl rfl)).trans HX2_14.out
    clear HM HQ15 HS14 HX0_14 HX1_14 HX2_14 x0_1
    obtain ⟨WrB,hW⟩:∃ W,W=wd15.alloc (.cells #[.int .i64 0,.int .i64 (d.length:Nat),.slice RA15 d.length rc15,.slice RB15 0 rd15,.int .i64 0,.int .i64 0,.int .i64 0,.int .i64 0,.int .u64 0,.bool false] 33):=⟨_,rfl⟩
    obtain ⟨grB,hg⟩:∃ g,g=wd15.heap.size:=⟨_,rfl⟩
    have HXnrB:Hid (Blk WrB grB 33 [.int .i64 0,.int .i64 (d.length:Nat),.slice RA15 d.length rc15,.slice RB15 0 rd15,.int .i64 0,.int .i64 0,.int .i64 0,.int .i64 0,.int .u64 0,.bool false]):=by show Blk _ _ _ _;rw [hW,hg];exact Blk.new wd15 _ _
    have hbn:Below wd15.heap.size wd15 WrB:=by rw [hW];exact below_new wd15 _
    have HX0_rB:Hid (Blk WrB gk12 33 [.int .i64 0,.int .i64 0,.slice RA12 0 rc12,.slice RB12 0 rd12,.int .i64 0,.int .i64 0,.int .i64 0,.int .i64 0,.int .u64 0,.bool false]):=HX0_15.out.below hbn HX0_15.out.lt
    have HX1_rB:Hid (Rd WrB RA13 d):=HX1_15.out.below hbn
    have HX2_rB:Hid (Blk WrB grA 33 [.int .i64 0,.int .i64 (d.length:Nat),.slice RA13 d.length rc13,.slice RB13 0 rd13,.int .i64 0,.int .i64 0,.int .i64 0,.int .i64 0,.int .u64 0,.bool false]):=HX2_15.out.below hbn HX2_15.out.lt
    have HX3_rB:Hid (Rd WrB RA15 d):=HR15.out.below hbn
    have HSrB:Hid (SP w (.pointer (some ⟨p,0,none⟩)) _ (fun b=>b=grB∨(fun b=>(0<d.length∧RA15.map (·.block)=some b)∨(fun b=>b=grA∨(fun b=>(0<d.length∧RA13.map (·.block)=some b)∨(fun b=>b=gk12∨(fun _=>False) b) b) b) b) b) WrB):=HS15.out.made hbn grB (Nat.le_of_eq hg.symm) HXnrB.out.lt
    clear hbn HS15 HX0_15 HX1_15 HX2_15 HR15
    go_upto_region 18 with (fail)
    rw [← hW,← hg]
    clear hW hg
    go_upto_region 20 with (fail)
    have HM:Hid (Calls Tryz.prog 15 #[(.pointer (some ⟨p,0,none⟩)),.agg #[.int .i64 12,.string { data:=#[47,97] },.string { data:=#[] },.int .i64 0,.int .i64 0,.int .i64 0,.int .u64 0,.int .i64 1,.slice none 0 0]] WrB fun e w'=>∃ RA rc RB rd,e=.returned (.agg #[.int .i64 0,.int .i64 0,.slice RA 0 rc,.slice RB 0 rd,.int .i64 1,.int .i64 1,.int .i64 1,.int .i64 (d.length:Nat),.int .u64 (u:Nat),.bool true])∧0≤rc∧Hid (Rd w' RA [])∧Hid (SP w (.pointer (some ⟨p,0,none⟩)) (St.sq (St.fA d u true) (St.sn H d u) nw (.r d)) (fun b=>(0<0∧RA.map (·.block)=some b)∨(fun b=>b=grB∨(fun b=>(0<d.length∧RA15.map (·.block)=some b)∨(fun b=>b=grA∨(fun b=>(0<d.length∧RA13.map (·.block)=some b)∨(fun b=>b=gk12∨(fun _=>False) b) b) b) b) b) b) w')∧Hid (∀ b,(fun b=>b=grB∨(fun b=>(0<d.length∧RA15.map (·.block)=some b)∨(fun b=>b=grA∨(fun b=>(0<d.length∧RA13.map (·.block)=some b)∨(fun b=>b=gk12∨(fun _=>False) b) b) b) b) b) b→w'.heap[b]?=WrB.heap[b]?)):=HSrB.out.doG (St.sn_stat_kept _ _ _ _ _ _) HO8.out (St.opnS 12 [47,97] 1) rfl ((fit_small 12 [47,97] [] 0 0 0 0 1 [] (by decide) (by decide) (by decide) (by decide) (by decide) (by decide) (by decide) (by decide) (by decide))) none 0 (show (2:Int)<1000000000000000 by decide) (Rd.nil _ _) (KAt.below HK.out HSrB.out.low HK.out.pos)
    go_wp2_with fail
    refine HM.out.mono ?_
    rintro e wd16 ⟨RA16,rc16,RB16,rd16,rfl,hc16,HR16,HS16,HQ16⟩
    clear hc16
    have HX0_16:Hid (Blk wd16 gk12 33 [.int .i64 0,.int .i64 0,.slice RA12 0 rc12,.slice RB12 0 rd12,.int .i64 0,.int .i64 0,.int .i64 0,.int .i64 0,.int .u64 0,.bool false]):=(HQ16.out gk12 (.inr (.inr (.inr (.inr (.inl rfl)))))).trans HX0_rB.out
    have HX1_16:Hid (Rd wd16 RA13 d):=(rd_q HX1_rB.out fun b h0 hb=>HQ16.out b (.inr (.inr (.inr (.inl ⟨h0,hb⟩)))))
    have HX2_16:Hid (Blk wd16 grA 33 [.int .i64 0,.int .i64 (d.length:Nat),.slice RA13 d.length rc13,.slice RB13 0 rd13,.int .i64 0,.int .i64 0,.int .i64 0,.int .i64 0,.int .u64 0,.bool false]):=(HQ16.out grA (.inr (.inr (.inl rfl)))).trans HX2_rB.out
    have HX3_16:Hid (Rd wd16 RA15 d):=(rd_q HX3_rB.out fun b h0 hb=>HQ16.out b (.inr (.inl ⟨h0,hb⟩)))
    have HX4_16:Hid (Blk wd16 grB 33 [.int .i64 0,.int .i64 (d.length:Nat),.slice RA15 d.length rc15,.slice RB15 0 rd15,.int .i64 0,.int .i64 0,.int .i64 0,.int .i64 0,.int .u64 0,.bool false]):=(HQ16.out grB (.inl rfl)).trans HXnrB.out
    clear HM HQ16 HSrB HX0_rB HX1_rB HX2_rB HX3_rB HXnrB hk1
    have hfd:∀ W:World,(Instr.field 33 (.agg #[.int .i64 0,.int .i64 0,.slice RA16 0 rc16,.slice RB16 0 rd16,.int .i64 1,.int .i64 1,.int .i64 1,.int .i64 (d.length:Nat),.int .u64 (u:Nat),.bool true]) 0).run Tryz.prog W=.ok (.int .i64 0) W:=fun _=>by kernel_rfl
    go_upto_region 21 with (fail)
    clear hfd
    have x0_0:=HX0_16.out.cell 0
    have x2_2:=HX2_16.out.cell 2
    have x4_2:=HX4_16.out.cell 2
    have hst0:=str_any wd16 RA13 d rc13 HX1_16.out
    have hst1:=str_any wd16 RA15 d rc15 HX3_16.out
    have hst2:=str_any wd16 A d cap (HRD.out.below HS16.out.low)
    have HKN:=Lib.hid (known_any wd16 (KAt.below HK.out HS16.out.low HK.out.pos))
    go_wp2_with fail
    refine HKN.out.mono ?_
    rintro e wz ⟨rfl,hb⟩
    have HBZ:Hid (Below w.heap.size w wz):=HS16.out.low.trans (hb.mono HS16.out.low.size)
    clear hb
    go_wp2_with fail
    go_ret
    exact ⟨rfl,HBZ.out⟩
   ·have hk1:¬ (nw:Int)<(u:Int):=by omega
    have HE1:Hid (St.do_ (St.sq (St.fA d u true) (St.sn H d u) nw .free) (St.opn 8 [47,97] 0 0 [])=(St.no 0,(St.sq Tr.new (St.sn H d u) nw .free))):=by apply St.sn_unlink_due;exact hk
    have HE2:Hid (St.do_ (St.sq Tr.new (St.sn H d u) nw .free) (St.opnS 3 [47,97] 1)=(St.num 0,(St.sq Tr.new (St.sn H d u) nw (.r d)))):=by apply St.sn_open
    have HE3:Hid (∀ l,St.do_ (St.sq Tr.new l nw (.r d)) ⟨4,[],[],0,0,4096,0,0,[]⟩=(⟨0,(d.length:Nat),d,[],Nd.zero⟩,St.sq Tr.new l nw (.r d))):=fun l=>by apply St.sn_read;have:=HDC.out;omega
    have HE4:Hid (St.do_ (St.sq Tr.new (St.sn H d u) nw (.r d)) (St.opnS 15 [] 1)=(St.no 0,(St.sq Tr.new ⟨[],2,H⟩ nw (.r d)))):=by apply St.sn_forget_due;exact hk
    have HO6:Hid (St.Ok (St.sq Tr.new (St.sn H d u) nw .free)):=ok_next HO5.out (show (2:Int)<1000000000000000 by decide) HE1.out
    have HO7:Hid (St.Ok (St.sq Tr.new (St.sn H d u) nw (.r d))):=ok_next HO6.out (show (2:Int)<1000000000000000 by decide) HE2.out
    have HO8:Hid (St.Ok (St.sq Tr.new ⟨[],2,H⟩ nw (.r d))):=ok_next HO7.out (show (2:Int)<1000000000000000 by decide) HE4.out
    clear hk
    have HM:Hid (Calls Tryz.prog 15 #[(.pointer (some ⟨p,0,none⟩)),.agg #[.int .i64 8,.string { data:=#[47,97] },.string { data:=#[] },.int .i64 0,.int .i64 0,.int .i64 0,.int .u64 0,.int .i64 0,.slice none 0 0]] wr (SDoP w (.pointer (some ⟨p,0,none⟩)) (St.sq Tr.new (St.sn H d u) nw .free) 0 0 (fun _=>False) wr)):=HSx.out.doP (HE1.out) HO5.out (St.opn 8 [47,97] 0 0 []) rfl ((fit_small 8 [47,97] [] 0 0 0 0 0 [] (by decide) (by decide) (by decide) (by decide) (by decide) (by decide) (by decide) (by decide) (by decide))) none 0 (show (2:Int)<1000000000000000 by decide) (Rd.nil _ _) (KAt.below HK.out HSx.out.low HK.out.pos)
    go_wp2_with fail
    refine HM.out.mono ?_
    rintro e wd11 ⟨RA11,rc11,RB11,rd11,rfl,HS11,HQ11⟩
    clear HM HQ11 HSx 
    have hfd:∀ W:World,(Instr.field 33 (.agg #[.int .i64 0,.int .i64 0,.slice RA11 0 rc11,.slice RB11 0 rd11,.int .i64 0,.int .i64 0,.int .i64 0,.int .i64 0,.int .u64 0,.bool false]) 0).run Tryz.prog W=.ok (.int .i64 0) W:=fun _=>by kernel_rfl
    go_upto_region 14 with (fail)
    clear hfd
    have HM:Hid (Calls Tryz.prog 15 #[(.pointer (some ⟨p,0,none⟩)),.agg #[.int .i64 3,.string { data:=#[47,97] },.string { data:=#[] },.int .i64 0,.int .i64 0,.int .i64 0,.int .u64 0,.int .i64 1,.slice none 0 0]] wd11 (SDoP w (.pointer (some ⟨p,0,none⟩)) (St.sq Tr.new (St.sn H d u) nw (.r d)) 0 0 (fun _=>False) wd11)):=HS11.out.doP (HE2.out) HO6.out (St.opnS 3 [47,97] 1) rfl ((fit_small 3 [47,97] [] 0 0 0 0 1 [] (by decide) (by decide) (by decide) (by decide) (by decide) (by decide) (by decide) (by decide) (by decide))) none 0 (show (2:Int)<1000000000000000 by decide) (Rd.nil _ _) (KAt.below HK.out HS11.out.low HK.out.pos)
    go_wp2_with fail
    refine HM.out.mono ?_
    rintro e wd12 ⟨RA12,rc12,RB12,rd12,rfl,HS12,HQ12⟩
    clear HM HQ12 HS11 
    obtain ⟨Wk12,hW⟩:∃ W,W=wd12.alloc (.cells #[.int .i64 0,.int .i64 0,.slice RA12 0 rc12,.slice RB12 0 rd12,.int .i64 0,.int .i64 0,.int .i64 0,.int .i64 0,.int .u64 0,.bool false] 33):=⟨_,rfl⟩
    obtain ⟨gk12,hg⟩:∃ g,g=wd12.heap.size:=⟨_,rfl⟩
    have HXnk12:Hid (Blk Wk12 gk12 33 [.int .i64 0,.int .i64 0,.slice RA12 0 rc12,.slice RB12 0 rd12,.int .i64 0,.int .i64 0,.int .i64 0,.int .i64 0,.int .u64 0,.bool false]):=by show Blk _ _ _ _;rw [hW,hg];exact Blk.new wd12 _ _
    have hbn:Below wd12.heap.size wd12 Wk12:=by rw [hW];exact below_new wd12 _
    have HSk12:Hid (SP w (.pointer (some ⟨p,0,none⟩)) _ (fun b=>b=gk12∨(fun _=>False) b) Wk12):=HS12.out.made hbn gk12 (Nat.le_of_eq hg.symm) HXnk12.out.lt
    clear hbn HS12 
    go_upto_region 15 with (fail)
    rw [← hW,← hg]
    clear hW hg
    have x0_1:=HXnk12.out.cell 1
    have HM:Hid (Calls Tryz.prog 15 #[(.pointer (some ⟨p,0,none⟩)),.agg #[.int .i64 4,.string { data:=#[] },.string { data:=#[] },.int .i64 0,.int .i64 0,.int .i64 4096,.int .u64 0,.int .i64 0,.slice none 0 0]] Wk12 fun e w'=>∃ RA rc RB rd,e=.returned (.agg #[.int .i64 0,.int .i64 (d.length:Nat),.slice RA d.length rc,.slice RB 0 rd,.int .i64 0,.int .i64 0,.int .i64 0,.int .i64 0,.int .u64 0,.bool false])∧d.length≤rc∧Hid (Rd w' RA d)∧Hid (SP w (.pointer (some ⟨p,0,none⟩)) (St.sq Tr.new (St.sn H d u) nw (.r d)) (fun b=>(0<d.length∧RA.map (·.block)=some b)∨(fun b=>b=gk12∨(fun _=>False) b) b) w')∧Hid (∀ b,(fun b=>b=gk12∨(fun _=>False) b) b→w'.heap[b]?=Wk12.heap[b]?)):=HSk12.out.doG (HE3.out _) HO7.out (⟨4,[],[],0,0,4096,0,0,[]⟩:St.Opn) rfl ((fit_small 4 [] [] 0 0 4096 0 0 [] (by decide) (by decide) (by decide) (by decide) (by decide) (by decide) (by decide) (by decide) (by decide))) none 0 (show (2:Int)<1000000000000000 by decide) (Rd.nil _ _) (KAt.below HK.out HSk12.out.low HK.out.pos)
    go_wp2_with fail
    refine HM.out.mono ?_
    rintro e wd13 ⟨RA13,rc13,RB13,rd13,rfl,hc13,HR13,HS13,HQ13⟩
    clear hc13
    have HX0_13:Hid (Blk wd13 gk12 33 [.int .i64 0,.int .i64 0,.slice RA12 0 rc12,.slice RB12 0 rd12,.int .i64 0,.int .i64 0,.int .i64 0,.int .i64 0,.int .u64 0,.bool false]):=(HQ13.out gk12 (.inl rfl)).trans HXnk12.out
    clear HM HQ13 HSk12 HXnk12 x0_1
    obtain ⟨WrA,hW⟩:∃ W,W=wd13.alloc (.cells #[.int .i64 0,.int .i64 (d.length:Nat),.slice RA13 d.length rc13,.slice RB13 0 rd13,.int .i64 0,.int .i64 0,.int .i64 0,.int .i64 0,.int .u64 0,.bool false] 33):=⟨_,rfl⟩
    obtain ⟨grA,hg⟩:∃ g,g=wd13.heap.size:=⟨_,rfl⟩
    have HXnrA:Hid (Blk WrA grA 33 [.int .i64 0,.int .i64 (d.length:Nat),.slice RA13 d.length rc13,.slice RB13 0 rd13,.int .i64 0,.int .i64 0,.int .i64 0,.int .i64 0,.int .u64 0,.bool false]):=by show Blk _ _ _ _;rw [hW,hg];exact Blk.new wd13 _ _
    have hbn:Below wd13.heap.size wd13 WrA:=by rw [hW];exact below_new wd13 _
    have HX0_rA:Hid (Blk WrA gk12 33 [.int .i64 0,.int .i64 0,.slice RA12 0 rc12,.slice RB12 0 rd12,.int .i64 0,.int .i64 0,.int .i64 0,.int .i64 0,.int .u64 0,.bool false]):=HX0_13.out.below hbn HX0_13.out.lt
    have HX1_rA:Hid (Rd WrA RA13 d):=HR13.out.below hbn
    have HSrA:Hid (SP w (.pointer (some ⟨p,0,none⟩)) _ (fun b=>b=grA∨(fun b=>(0<d.length∧RA13.map (·.block)=some b)∨(fun b=>b=gk12∨(fun _=>False) b) b) b) WrA):=HS13.out.made hbn grA (Nat.le_of_eq hg.symm) HXnrA.out.lt
    clear hbn HS13 HX0_13 HR13
    go_upto_region 16 with (fail)
    rw [← hW,← hg]
    clear hW hg
    have HM:Hid (Calls Tryz.prog 15 #[(.pointer (some ⟨p,0,none⟩)),.agg #[.int .i64 15,.string { data:=#[] },.string { data:=#[] },.int .i64 0,.int .i64 0,.int .i64 0,.int .u64 0,.int .i64 1,.slice none 0 0]] WrA (SDoP w (.pointer (some ⟨p,0,none⟩)) (St.sq Tr.new ⟨[],2,H⟩ nw (.r d)) 0 0 (fun b=>b=grA∨(fun b=>(0<d.length∧RA13.map (·.block)=some b)∨(fun b=>b=gk12∨(fun _=>False) b) b) b) WrA)):=HSrA.out.doP (HE4.out) HO7.out (St.opnS 15 [] 1) rfl ((fit_small 15 [] [] 0 0 0 0 1 [] (by decide) (by decide) (by decide) (by decide) (by decide) (by decide) (by decide) (by decide) (by decide))) none 0 (show (2:Int)<1000000000000000 by decide) (Rd.nil _ _) (KAt.below HK.out HSrA.out.low HK.out.pos)
    go_wp2_with fail
    refine HM.out.mono ?_
    rintro e wd14 ⟨RA14,rc14,RB14,rd14,rfl,HS14,HQ14⟩
    have HX0_14:Hid (Blk wd14 gk12 33 [.int .i64 0,.int .i64 0,.slice RA12 0 rc12,.slice RB12 0 rd12,.int .i64 0,.int .i64 0,.int .i64 0,.int .i64 0,.int .u64 0,.bool false]):=(HQ14.out gk12 (.inr (.inr (.inl rfl)))).trans HX0_rA.out
    have HX1_14:Hid (Rd wd14 RA13 d):=(rd_q HX1_rA.out fun b h0 hb=>HQ14.out b (.inr (.inl ⟨h0,hb⟩)))
    have HX2_14:Hid (Blk wd14 grA 33 [.int .i64 0,.int .i64 (d.length:Nat),.slice RA13 d.length rc13,.slice RB13 0 rd13,.int .i64 0,.int .i64 0,.int .i64 0,.int .i64 0,.int .u64 0,.bool false]):=(HQ14.out grA (.inl rfl)).trans HXnrA.out
    clear HM HQ14 HSrA HX0_rA HX1_rA HXnrA
    have hfd:∀ W:World,(Instr.field 33 (.agg #[.int .i64 0,.int .i64 0,.slice RA14 0 rc14,.slice RB14 0 rd14,.int .i64 0,.int .i64 0,.int .i64 0,.int .i64 0,.int .u64 0,.bool false]) 0).run Tryz.prog W=.ok (.int .i64 0) W:=fun _=>by kernel_rfl
    go_upto_region 17 with (fail)
    clear hfd
    have x0_1:=HX0_14.out.cell 1
    have HM:Hid (Calls Tryz.prog 15 #[(.pointer (some ⟨p,0,none⟩)),.agg #[.int .i64 4,.string { data:=#[] },.string { data:=#[] },.int .i64 0,.int .i64 0,.int .i64 4096,.int .u64 0,.int .i64 0,.slice none 0 0]] wd14 fun e w'=>∃ RA rc RB rd,e=.returned (.agg #[.int .i64 0,.int .i64 (d.length:Nat),.slice RA d.length rc,.slice RB 0 rd,.int .i64 0,.int .i64 0,.int .i64 0,.int .i64 0,.int .u64 0,.bool false])∧d.length≤rc∧Hid (Rd w' RA d)∧Hid (SP w (.pointer (some ⟨p,0,none⟩)) (St.sq Tr.new ⟨[],2,H⟩ nw (.r d)) (fun b=>(0<d.length∧RA.map (·.block)=some b)∨(fun b=>b=grA∨(fun b=>(0<d.length∧RA13.map (·.block)=some b)∨(fun b=>b=gk12∨(fun _=>False) b) b) b) b) w')∧Hid (∀ b,(fun b=>b=grA∨(fun b=>(0<d.length∧RA13.map (·.block)=some b)∨(fun b=>b=gk12∨(fun _=>False) b) b) b) b→w'.heap[b]?=wd14.heap[b]?)):=HS14.out.doG (HE3.out _) HO8.out (⟨4,[],[],0,0,4096,0,0,[]⟩:St.Opn) rfl ((fit_small 4 [] [] 0 0 4096 0 0 [] (by decide) (by decide) (by decide) (by decide) (by decide) (by decide) (by decide) (by decide) (by decide))) none 0 (show (2:Int)<1000000000000000 by decide) (Rd.nil _ _) (KAt.below HK.out HS14.out.low HK.out.pos)
    go_wp2_with fail
    refine HM.out.mono ?_
    rintro e wd15 ⟨RA15,rc15,RB15,rd15,rfl,hc15,HR15,HS15,HQ15⟩
    clear hc15
    have HX0_15:Hid (Blk wd15 gk12 33 [.int .i64 0,.int .i64 0,.slice RA12 0 rc12,.slice RB12 0 rd12,.int .i64 0,.int .i64 0,.int .i64 0,.int .i64 0,.int .u64 0,.bool false]):=(HQ15.out gk12 (.inr (.inr (.inl rfl)))).trans HX0_14.out
    have HX1_15:Hid (Rd wd15 RA13 d):=(rd_q HX1_14.out fun b h0 hb=>HQ15.out b (.inr (.inl ⟨h0,hb⟩)))
    have HX2_15:Hid (Blk wd15 grA 33 [.int .i64 0,.int .i64 (d.length:Nat),.slice RA13 d.length rc13,.slice RB13 0 rd13,.int .i64 0,.int .i64 0,.int .i64 0,.int .i64 0,.int .u64 0,.bool false]):=(HQ15.out grA (.inl rfl)).trans HX2_14.out
    clear HM HQ15 HS14 HX0_14 HX1_14 HX2_14 x0_1
    obtain ⟨WrB,hW⟩:∃ W,W=wd15.alloc (.cells #[.int .i64 0,.int .i64 (d.length:Nat),.slice RA15 d.length rc15,.slice RB15 0 rd15,.int .i64 0,.int .i64 0,.int .i64 0,.int .i64 0,.int .u64 0,.bool false] 33):=⟨_,rfl⟩
    obtain ⟨grB,hg⟩:∃ g,g=wd15.heap.size:=⟨_,rfl⟩
    have HXnrB:Hid (Blk WrB grB 33 [.int .i64 0,.int .i64 (d.length:Nat),.slice RA15 d.length rc15,.slice RB15 0 rd15,.int .i64 0,.int .i64 0,.int .i64 0,.int .i64 0,.int .u64 0,.bool false]):=by show Blk _ _ _ _;rw [hW,hg];exact Blk.new wd15 _ _
    have hbn:Below wd15.heap.size wd15 WrB:=by rw [hW];exact below_new wd15 _
    have HX0_rB:Hid (Blk WrB gk12 33 [.int .i64 0,.int .i64 0,.slice RA12 0 rc12,.slice RB12 0 rd12,.int .i64 0,.int .i64 0,.int .i64 0,.int .i64 0,.int .u64 0,.bool false]):=HX0_15.out.below hbn HX0_15.out.lt
    have HX1_rB:Hid (Rd WrB RA13 d):=HX1_15.out.below hbn
    have HX2_rB:Hid (Blk WrB grA 33 [.int .i64 0,.int .i64 (d.length:Nat),.slice RA13 d.length rc13,.slice RB13 0 rd13,.int .i64 0,.int .i64 0,.int .i64 0,.int .i64 0,.int .u64 0,.bool false]):=HX2_15.out.below hbn HX2_15.out.lt
    have HX3_rB:Hid (Rd WrB RA15 d):=HR15.out.below hbn
    have HSrB:Hid (SP w (.pointer (some ⟨p,0,none⟩)) _ (fun b=>b=grB∨(fun b=>(0<d.length∧RA15.map (·.block)=some b)∨(fun b=>b=grA∨(fun b=>(0<d.length∧RA13.map (·.block)=some b)∨(fun b=>b=gk12∨(fun _=>False) b) b) b) b) b) WrB):=HS15.out.made hbn grB (Nat.le_of_eq hg.symm) HXnrB.out.lt
    clear hbn HS15 HX0_15 HX1_15 HX2_15 HR15
    go_upto_region 18 with (fail)
    rw [← hW,← hg]
    clear hW hg
    go_upto_region 20 with (fail)
    have HM:Hid (Calls Tryz.prog 15 #[(.pointer (some ⟨p,0,none⟩)),.agg #[.int .i64 12,.string { data:=#[47,97] },.string { data:=#[] },.int .i64 0,.int .i64 0,.int .i64 0,.int .u64 0,.int .i64 1,.slice none 0 0]] WrB (SDoP w (.pointer (some ⟨p,0,none⟩)) (St.sq Tr.new ⟨[],2,H⟩ nw (.r d)) 29 0 (fun b=>b=grB∨(fun b=>(0<d.length∧RA15.map (·.block)=some b)∨(fun b=>b=grA∨(fun b=>(0<d.length∧RA13.map (·.block)=some b)∨(fun b=>b=gk12∨(fun _=>False) b) b) b) b) b) WrB)):=HSrB.out.doP (St.sn_stat_due _ _ _ _) HO8.out (St.opnS 12 [47,97] 1) rfl ((fit_small 12 [47,97] [] 0 0 0 0 1 [] (by decide) (by decide) (by decide) (by decide) (by decide) (by decide) (by decide) (by decide) (by decide))) none 0 (show (2:Int)<1000000000000000 by decide) (Rd.nil _ _) (KAt.below HK.out HSrB.out.low HK.out.pos)
    go_wp2_with fail
    refine HM.out.mono ?_
    rintro e wd16 ⟨RA16,rc16,RB16,rd16,rfl,HS16,HQ16⟩
    have HX0_16:Hid (Blk wd16 gk12 33 [.int .i64 0,.int .i64 0,.slice RA12 0 rc12,.slice RB12 0 rd12,.int .i64 0,.int .i64 0,.int .i64 0,.int .i64 0,.int .u64 0,.bool false]):=(HQ16.out gk12 (.inr (.inr (.inr (.inr (.inl rfl)))))).trans HX0_rB.out
    have HX1_16:Hid (Rd wd16 RA13 d):=(rd_q HX1_rB.out fun b h0 hb=>HQ16.out b (.inr (.inr (.inr (.inl ⟨h0,hb⟩)))))
    have HX2_16:Hid (Blk wd16 grA 33 [.int .i64 0,.int .i64 (d.length:Nat),.slice RA13 d.length rc13,.slice RB13 0 rd13,.int .i64 0,.int .i64 0,.int .i64 0,.int .i64 0,.int .u64 0,.bool false]):=(HQ16.out grA (.inr (.inr (.inl rfl)))).trans HX2_rB.out
    have HX3_16:Hid (Rd wd16 RA15 d):=(rd_q HX3_rB.out fun b h0 hb=>HQ16.out b (.inr (.inl ⟨h0,hb⟩)))
    have HX4_16:Hid (Blk wd16 grB 33 [.int .i64 0,.int .i64 (d.length:Nat),.slice RA15 d.length rc15,.slice RB15 0 rd15,.int .i64 0,.int .i64 0,.int .i64 0,.int .i64 0,.int .u64 0,.bool false]):=(HQ16.out grB (.inl rfl)).trans HXnrB.out
    clear HM HQ16 HSrB HX0_rB HX1_rB HX2_rB HX3_rB HXnrB hk1
    have hfd:∀ W:World,(Instr.field 33 (.agg #[.int .i64 29,.int .i64 0,.slice RA16 0 rc16,.slice RB16 0 rd16,.int .i64 0,.int .i64 0,.int .i64 0,.int .i64 0,.int .u64 0,.bool false]) 0).run Tryz.prog W=.ok (.int .i64 29) W:=fun _=>by kernel_rfl
    go_upto_region 21 with (fail)
    clear hfd
    have x0_0:=HX0_16.out.cell 0
    have x2_2:=HX2_16.out.cell 2
    have x4_2:=HX4_16.out.cell 2
    have hst0:=str_any wd16 RA13 d rc13 HX1_16.out
    have hst1:=str_any wd16 RA15 d rc15 HX3_16.out
    have hst2:=str_any wd16 A d cap (HRD.out.below HS16.out.low)
    have HKN:=Lib.hid (known_any wd16 (KAt.below HK.out HS16.out.low HK.out.pos))
    go_wp2_with fail
    refine HKN.out.mono ?_
    rintro e wz ⟨rfl,hb⟩
    have HBZ:Hid (Below w.heap.size w wz):=HS16.out.low.trans (hb.mono HS16.out.low.size)
    clear hb
    go_wp2_with fail
    go_ret
    exact ⟨rfl,HBZ.out⟩
theorem snaps_any (w:World) (A:Option Addr) (l:Bs) (cap:Nat) (hr:Rd w A l) (hc:l.length≤cap) (hl:l.length≤9223372036854775807) (n1:Int) (b1:0≤n1∧n1≤18446744073709551615) (n2:Int) (b2:0≤n2∧n2≤18446744073709551615) (hK:KAt w) :
    Calls Tryz.prog 12 #[.slice A l.length cap,.int .u64 n1,.int .u64 n2] w fun e w'=>e=.returned (.bool true)∧Below w.heap.size w w':=by
 obtain ⟨k1,rfl⟩:∃ k:Nat,n1=k:=⟨n1.toNat,by omega⟩
 obtain ⟨k2,rfl⟩:∃ k:Nat,n2=k:=⟨n2.toNat,by omega⟩
 exact snaps_at w A l cap hr hc hl k1 k2 hK
end Sm
end Go.Proofs.YtbnpgakmhhfjkaaGreatDoor
